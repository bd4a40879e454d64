/-
  Contracts of the reference's Num and Text: a number's bytes, a text's bytes, as texts.
-/
import Derived.Test.YtbbioeiikobnnaaOpen
import Derived.Test.YtbbioeiikobnnaaPut
import Derived.Laws.Concat
namespace Go.Proofs.Ytbbioeiikobnnaa
open Go.RowKit

theorem mkB_size (l : List UInt8) : (mkB l).size = l.length := by simp [mkB, ByteArray.size]
theorem mkB_append (a b : List UInt8) : mkB a ++ mkB b = mkB (a ++ b) := by
  simpa [mkB] using ByteArray.mk_append_mk a b
/-- One new byte as a text. -/
theorem run_str1 (w : World) (n : Int) (c : UInt8) (hc : n = (c.toNat : Int)) :
    (convert 24 9 (.slice (some ⟨w.heap.size, 0, none⟩) 1 1)).run Try.prog (w.alloc (.cells #[.int .u8 n] 5)) = .ok (.string (mkB [c])) (w.alloc (.cells #[.int .u8 n] 5)) := by
  have h := run_str (w := w.alloc (.cells #[.int .u8 n] 5)) (b := w.heap.size) (off := 0) (cap := 1) (l := [c]) 1 (by simp) (fun i hi => by
    have h0 : i = 0 := by simpa using hi
    subst h0
    rw [heap_cell (heap_alloc_new w _)]
    simp [hc])
  simpa using h
theorem run_add (w : World) (a b : List UInt8) (h : a.length + b.length ≤ 1000000000) : (Op.stringOp .add (mkB a) (mkB b)).run Try.prog w = .ok (.string (mkB (a ++ b))) w := by
  rw [run_string_add_sum w _ _ (by rw [mkB_size, mkB_size]; omega), mkB_append]

set_option maxRecDepth 100000 in
theorem rnum_small (x : Nat) (w : World) (h : x < 248) :
    Calls Try.prog 10 #[.int .u64 x] w fun e w' => e = .returned (.string (mkB [UInt8.ofNat x])) ∧ Below w.heap.size w w' := by
  have hcv := run_str1 w x (UInt8.ofNat x) (u8_of x (by omega))
  go_enter Try.func10, Try.ntmps10
  go_wp2
  go_ret
  exact ⟨rfl, (Below.refl _ _).alloc (Nat.le_refl _) _⟩

set_option maxRecDepth 100000 in
set_option maxHeartbeats 1000000 in
theorem rnum_big (x : Nat) (w : World) (h : 248 ≤ x) (hx : x ≤ 18446744073709551615) :
    Calls Try.prog 10 #[.int .u64 x] w fun e w' => e = .returned (.string (mkB (UInt8.ofNat (247 + nb x) :: be (nb x) x))) ∧ Below w.heap.size w w' := by
  have h8 := nb_lt8 x (by omega)
  have h1 := nb_pos x (by omega)
  go_enter Try.func10, Try.ntmps10
  go_wp2
  go_loopw [3, 4] (fun s y wr => ∃ j : Nat, j ≤ nb x ∧ s = .string (mkB (be j x)) ∧ y = .int .u64 ((x / 256 ^ j : Nat) : Int) ∧ Hid (Below w.heap.size w wr)) (fun _ y _ => (intOf y).toNat)
  case atStart => exact ⟨0, Nat.zero_le _, rfl, by simp, Below.refl _ _⟩
  case round =>
    obtain ⟨j, hj, rfl, rfl, HB⟩ := hrel
    have hs := HB.out.size
    have hxy : x / 256 ^ j ≤ x := Nat.div_le_self _ _
    have hnext : x / 256 ^ (j + 1) = x / 256 ^ j / 256 := by rw [Nat.pow_succ, Nat.div_div_eq_div_mul]
    have hbe : be (j + 1) x = UInt8.ofNat (x / 256 ^ j % 256) :: be j x := rfl
    have hz : x / 256 ^ j = 0 ↔ nb x ≤ j := by
      rw [nb_le_iff, Nat.div_eq_zero_iff]
      have : 0 < 256 ^ j := Nat.pow_pos (by decide)
      omega
    have HZ := Lib.hid hz
    have HN := Lib.hid hnext
    have HE := Lib.hid hbe
    clear hz hnext hbe
    generalize hy : x / 256 ^ j = y at HN HE HZ hxy ⊢
    clear hy
    by_cases hlt : 0 < y
    · have hcv := run_str1 wr ((y : Int) % 256) (UInt8.ofNat (y % 256)) (u8_of (y % 256) (by omega))
      have hadd := fun W => run_add W [UInt8.ofNat (y % 256)] (be j x) (by rw [be_length]; simp only [List.length_cons, List.length_nil]; omega)
      go_wp2
      go_roundw
      case rel =>
        have := HZ.out
        refine ⟨j + 1, by omega, by rw [HE.out], by rw [HN.out]; rfl, HB.out.alloc hs _⟩
      case measure => simp [intOf]; omega
    · have hk : nb x = j := by have := HZ.out; omega
      have h8j : j ≤ 8 := by omega
      have hsz : (mkB (be j x)).size = j := by rw [mkB_size, be_length]
      have hcv := run_str1 wr (247 + (j : Int)) (UInt8.ofNat (247 + j)) (u8_of (247 + j) (by omega))
      generalize hC : UInt8.ofNat (247 + j) = c at hcv
      have HC := Lib.hid hC
      have HK := Lib.hid hk
      have hadd : ∀ W, (Op.stringOp .add (mkB [c]) (mkB (be j x))).run Try.prog W = .ok (.string (mkB ([c] ++ be j x))) W := fun W => run_add W [c] (be j x) (by rw [be_length]; simp only [List.length_cons, List.length_nil]; omega)
      clear hk hC HE HN HZ
      go_wp2
      go_ret
      rw [HK.out, HC.out]
      exact ⟨rfl, HB.out.alloc hs _⟩

/-- The reference's Num. -/
theorem rnum_any (x : Nat) (w : World) (hx : x ≤ 18446744073709551615) :
    Calls Try.prog 10 #[.int .u64 x] w fun e w' => e = .returned (.string (mkB (enc x))) ∧ Below w.heap.size w w' := by
  unfold enc
  by_cases h : x < 248
  · rw [if_pos h]; exact rnum_small x w h
  · rw [if_neg h]; exact rnum_big x w (by omega) hx
/-- The reference's Text. -/
theorem rtext_any (s : ByteArray) (w : World) (hx : s.size ≤ 1000000) :
    Calls Try.prog 11 #[.string s] w fun e w' => e = .returned (.string (mkB (enc s.size ++ s.data.toList))) ∧ Below w.heap.size w w' := by
  have hl2 : s.data.toList.length = s.size := by rw [Array.length_toList]; rfl
  have hl : (enc s.size).length ≤ 9 := (enc_len s.size (by omega)).2
  have hadd : ∀ W, (Op.stringOp .add (mkB (enc s.size)) s).run Try.prog W = .ok (.string (mkB (enc s.size ++ s.data.toList))) W := fun W => by
    have h := run_add W (enc s.size) s.data.toList (by rw [hl2]; omega)
    exact h
  clear hl hl2
  go_enter Try.func11, Try.ntmps11
  go_wp2_with (go_at_call 10; refine (rnum_any _ _ (by omega)).mono ?_; rintro e w1 ⟨rfl, hb1⟩)
  go_ret
  exact ⟨rfl, hb1⟩
end Go.Proofs.Ytbbioeiikobnnaa
