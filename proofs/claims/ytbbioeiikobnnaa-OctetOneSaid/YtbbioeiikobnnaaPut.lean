/-
  Contracts of octet.Put (numbers as bytes) and octet.Texts (texts as bytes).
-/
import Derived.Test.YtbbioeiikobnnaaAdd
namespace Go.Proofs.Ytbbioeiikobnnaa
open Go.RowKit

/-- Numbers' bytes, one behind the other. -/
def encs (zs : List Nat) : List UInt8 := zs.flatMap enc
/-- Texts' bytes. -/
def encTs (ss : List ByteArray) : List UInt8 := ss.flatMap fun s => enc s.size ++ s.data.toList

theorem enc_len (u : Nat) (h : u ≤ 18446744073709551615) : 1 ≤ (enc u).length ∧ (enc u).length ≤ 9 := by
  have h8 := nb_lt8 u (by omega)
  unfold enc
  split
  · simp
  · simp [be_length]; omega
theorem encs_len (zs : List Nat) (h : ∀ z ∈ zs, z ≤ 18446744073709551615) : (encs zs).length ≤ 9 * zs.length := by
  induction zs with
  | nil => simp [encs]
  | cons z zs ih =>
    have h1 := enc_len z (h z (by simp))
    have h2 := ih fun y hy => h y (by simp [hy])
    simp only [encs, List.flatMap_cons, List.length_append, List.length_cons] at *
    omega
theorem encs_take (zs : List Nat) (k : Nat) (h : k < zs.length) : encs (zs.take (k + 1)) = encs (zs.take k) ++ enc zs[k] := by
  unfold encs
  rw [List.take_succ_eq_append_getElem h, List.flatMap_append, List.flatMap_cons, List.flatMap_nil, List.append_nil]

set_option maxRecDepth 100000 in
set_option maxHeartbeats 1000000 in
theorem put_any (zs : List Nat) (A : Option Addr) (c : Nat) (w : World) (hz : ∀ z ∈ zs, z ≤ 18446744073709551615) (hr : Row w w.heap.size A (zs.map fun z : Nat => Value.int .u64 (z : Int))) (hn : zs.length ≤ 1000000) :
    Calls Try.prog 14 #[.slice A zs.length c] w (Gets w.heap.size (encs zs) w) := by
  have HR := Lib.hid hr
  have HZ := Lib.hid hz
  have HL := Lib.hid (encs_len zs hz)
  clear hr hz
  go_enter Try.func14, Try.ntmps14
  go_wp2
  go_loopw [3, 8] (fun b i wr => ∃ k : Nat, k ≤ zs.length ∧ i = .int .i64 k ∧ Hid (Owns wr w.heap.size b (encs (zs.take k))) ∧ Hid (Below w.heap.size w wr)) (fun _ i _ => zs.length - (intOf i).toNat)
  case atStart => exact ⟨0, Nat.zero_le _, rfl, Owns.none_ _ _, Below.refl _ _⟩
  case round =>
    obtain ⟨k, hk, rfl, HO2, HB2⟩ := hrel
    by_cases hlt : k < zs.length
    · obtain ⟨b, off, rfl, hb, hc⟩ := (HR.out.below_ HB2.out).at_ k (by simpa using hlt)
      simp only [List.getElem_map] at hc
      have hzk := HZ.out zs[k] (List.getElem_mem hlt)
      have hlen := encs_len (zs.take k) (fun z hz => HZ.out z (List.mem_of_mem_take hz))
      have hs := HB2.out.size
      go_wp2_with (go_at_call 33; refine (add_any w.heap.size zs[k] _ _ _ hzk HO2.out (Fits.of (by simp at hlen; omega)) hs).mono ?_; rintro e w' ⟨v2, rfl, ho2, hb2⟩)
      have HO3 := Lib.hid ho2
      have HB3 := Lib.hid (HB2.out.trans hb2)
      clear ho2 hb2
      go_roundw
      case rel =>
        refine ⟨k + 1, by omega, by go_num, ?_, HB3⟩
        rw [encs_take zs k hlt]
        exact HO3
      case measure => simp [intOf]; omega
    · go_wp2
      go_ret
      have h := HO2.out
      rw [List.take_of_length_le (by omega)] at h
      exact ⟨_, rfl, h, HB2.out⟩

theorem encTs_len (ss : List ByteArray) (h : ∀ s ∈ ss, s.size ≤ 1000000) : (encTs ss).length ≤ 1000009 * ss.length := by
  induction ss with
  | nil => simp [encTs]
  | cons z zs ih =>
    have h0 := h z (by simp)
    have h1 := enc_len z.size (by omega)
    have h2 := ih fun y hy => h y (by simp [hy])
    have h3 : z.data.toList.length = z.size := by rw [Array.length_toList]; rfl
    simp only [encTs, List.flatMap_cons, List.length_append, List.length_cons] at *
    omega
theorem encTs_take (ss : List ByteArray) (k : Nat) (h : k < ss.length) : encTs (ss.take (k + 1)) = encTs (ss.take k) ++ enc ss[k].size ++ ss[k].data.toList := by
  unfold encTs
  rw [List.take_succ_eq_append_getElem h, List.flatMap_append, List.flatMap_cons, List.flatMap_nil, List.append_nil, List.append_assoc]

set_option maxRecDepth 100000 in
set_option maxHeartbeats 1000000 in
theorem texts_any (ss : List ByteArray) (A : Option Addr) (c : Nat) (w : World) (hz : ∀ s ∈ ss, s.size ≤ 1000000) (hr : Row w w.heap.size A (ss.map Value.string)) (hn : ss.length ≤ 1000000) :
    Calls Try.prog 15 #[.slice A ss.length c] w (Gets w.heap.size (encTs ss) w) := by
  have HR := Lib.hid hr
  have HZ := Lib.hid hz
  clear hr hz
  go_enter Try.func15, Try.ntmps15
  go_wp2
  go_loopw [3, 8] (fun b i wr => ∃ k : Nat, k ≤ ss.length ∧ i = .int .i64 k ∧ Hid (Owns wr w.heap.size b (encTs (ss.take k))) ∧ Hid (Below w.heap.size w wr)) (fun _ i _ => ss.length - (intOf i).toNat)
  case atStart => exact ⟨0, Nat.zero_le _, rfl, Owns.none_ _ _, Below.refl _ _⟩
  case round =>
    obtain ⟨k, hk, rfl, HO2, HB2⟩ := hrel
    by_cases hlt : k < ss.length
    · obtain ⟨b, off, rfl, hb, hc⟩ := (HR.out.below_ HB2.out).at_ k (by simpa using hlt)
      simp only [List.getElem_map] at hc
      have hzk := HZ.out ss[k] (List.getElem_mem hlt)
      have hlen := encTs_len (ss.take k) (fun z hz => HZ.out z (List.mem_of_mem_take hz))
      have hlk : (ss.take k).length ≤ k := List.length_take_le _ _
      have hen := enc_len ss[k].size (by omega)
      have hs := HB2.out.size
      go_wp2_with (first
        | (go_at_call 33; refine (add_any w.heap.size ss[k].size _ _ _ (by omega) HO2.out (Fits.of (by omega)) hs).mono ?_; rintro e w' ⟨v2, rfl, ho2, hb2⟩; have HO3 := Lib.hid ho2; have HB3 := Lib.hid (HB2.out.trans hb2); clear ho2 hb2)
        | (at_builtin; refine wp_app_str rfl (.tmp 16) (.tmp 17) rfl w.heap.size v2 _ ss[k] rfl HO3.out rfl (Fits.of (by simp only [List.length_append]; omega)) HB3.out.size ?_; intro v3 w3 ho3 hb3))
      have HO4 := Lib.hid ho3
      have HB4 := Lib.hid (HB3.out.trans hb3)
      clear ho3 hb3
      go_roundw
      case rel =>
        refine ⟨k + 1, by omega, by go_num, ?_, HB4⟩
        rw [encTs_take ss k hlt]
        exact HO4
      case measure => simp [intOf]; omega
    · go_wp2
      go_ret
      have h := HO2.out
      rw [List.take_of_length_le (by omega)] at h
      exact ⟨_, rfl, h, HB2.out⟩
end Go.Proofs.Ytbbioeiikobnnaa
