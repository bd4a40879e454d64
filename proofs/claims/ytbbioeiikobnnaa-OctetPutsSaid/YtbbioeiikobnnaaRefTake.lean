/-
  Contract of the reference's Take.
-/
import Derived.Test.YtbbioeiikobnnaaRefNum
import Derived.Deep.RegionHeld3
import Derived.IntWalk
namespace Go.Proofs.Ytbbioeiikobnnaa
open Go.RowKit

theorem data_len (s : ByteArray) : s.data.toList.length = s.size := by rw [Array.length_toList]; rfl
theorem data_get (s : ByteArray) (k : Nat) (h : k < s.size) : s.data.toList[k]'(by rw [data_len]; exact h) = s[k] := rfl

/-- What a call of the reference's Take ends in. -/
def Took2 (l : List UInt8) (w : World) (e : Ending) (w' : World) : Prop := e = .returned (.tuple #[.int .u64 (tk l).1, .int .i64 (tk l).2.1, .int .i64 (tk l).2.2]) ∧ Below w.heap.size w w'

theorem str_facts {s : ByteArray} {c : UInt8} {r : List UInt8} (hl : s.data.toList = c :: r) :
    s.toList.isEmpty = false ∧ s.size = r.length + 1 ∧ (∀ h : 0 < s.size, (s[0]'h) = c) ∧ (∀ j (h : j + 1 < s.size) (h2 : j < r.length), s[j + 1]'h = r[j]) := by
  have hs : s.size = r.length + 1 := by rw [← data_len, hl]; rfl
  refine ⟨?_, hs, ?_, ?_⟩
  · rw [ByteArray.toList_eq, hl]; rfl
  · intro h
    have h2 := data_get s 0 h
    simp only [hl] at h2
    exact h2.symm
  · intro j h h2
    have h3 := data_get s (j + 1) h
    simp only [hl] at h3
    exact h3.symm

theorem rtake_nil (w : World) : Calls Try.prog 13 #[.string (mkB [])] w (Took2 [] w) := by
  have h : (mkB []).toList.isEmpty = true := by rw [ByteArray.toList_eq]; rfl
  go_enter Try.func13, Try.ntmps13
  go_wp2
  go_ret3
  exact ⟨rfl, Below.refl _ _⟩
set_option maxRecDepth 100000 in
theorem rtake_low (s : ByteArray) (c : UInt8) (r : List UInt8) (w : World) (hl : s.data.toList = c :: r) (hc : c.toNat < 248) (hr : r.length ≤ 1000000) : Calls Try.prog 13 #[.string s] w (Took2 (c :: r) w) := by
  obtain ⟨he, hs, h0, _⟩ := str_facts hl
  have hz : 0 < s.size := by omega
  have hz0 := h0 hz
  have HE := Lib.hid (show tk (c :: r) = (c.toNat, 1, 0) by simp [tk, hc])
  clear hs hl h0
  go_enter Try.func13, Try.ntmps13
  go_wp2
  go_ret3
  exact ⟨by rw [HE.out]; rfl, Below.refl _ _⟩
set_option maxRecDepth 100000 in
theorem rtake_short (s : ByteArray) (c : UInt8) (r : List UInt8) (w : World) (hl : s.data.toList = c :: r) (hc : 248 ≤ c.toNat) (hr2 : r.length < c.toNat - 247) (hr : r.length ≤ 1000000) : Calls Try.prog 13 #[.string s] w (Took2 (c :: r) w) := by
  obtain ⟨he, hs, h0, _⟩ := str_facts hl
  have hz : 0 < s.size := by omega
  have hz0 := h0 hz
  have HE := Lib.hid (tk_short c r hc hr2)
  have hsz1 : s.size < c.toNat - 247 + 1 := by omega
  have hc2 := c.toNat_lt
  clear hs hl h0 hr hr2
  go_enter Try.func13, Try.ntmps13
  go_wp2
  go_ret3
  exact ⟨by rw [HE.out]; rfl, Below.refl _ _⟩

theorem mkB_toList (l : List UInt8) : (mkB l).toList = l := by rw [ByteArray.toList_eq]; rfl
theorem extract_toList (s : ByteArray) (a b : Nat) : (s.extract a b).toList = (s.data.toList.drop a).take (b - a) := by
  have h := ByteArray.extract_mk s.data.toList a b
  have e : ByteArray.mk s.data.toList.toArray = s := rfl
  rw [e] at h
  rw [h]
  exact mkB_toList _
theorem cmp_eq (s : ByteArray) (c : UInt8) (r : List UInt8) (m : Nat) (hl : s.data.toList = c :: r) (hc : 248 ≤ c.toNat) (hm : m + 247 = c.toNat) (hr : m ≤ r.length) :
    ((mkB (enc (val (r.take m)))).toList == (s.extract 0 (m + 1)).toList) = !decide (val (r.take m) < 248 ∨ nb (val (r.take m)) < m) := by
  have k := enc_val_iff c (r.take m) hc (by rw [List.length_take]; omega)
  rw [show c.toNat - 247 = m by omega] at k
  rw [mkB_toList, extract_toList, hl, Bool.eq_iff_iff]
  simp only [List.drop_zero, Nat.sub_zero, List.take_succ_cons, beq_iff_eq, Bool.not_eq_true', decide_eq_false_iff_not]
  exact k

set_option maxRecDepth 100000 in
set_option maxHeartbeats 1000000 in
theorem rtake_long (s : ByteArray) (c : UInt8) (r : List UInt8) (w : World) (hl : s.data.toList = c :: r) (hc : 248 ≤ c.toNat) (hr2 : c.toNat - 247 ≤ r.length) (hr : r.length ≤ 1000000) : Calls Try.prog 13 #[.string s] w (Took2 (c :: r) w) := by
  obtain ⟨he, hs, h0, h1⟩ := str_facts hl
  have hz : 0 < s.size := by omega
  have hz0 : (s[0]'hz).toNat = c.toNat := by rw [h0 hz]
  have HT := Lib.hid (tk_long c r hc hr2)
  have hc2 := c.toNat_lt
  obtain ⟨m, hm0⟩ : ∃ m, m + 247 = c.toNat := ⟨c.toNat - 247, by omega⟩
  have e1 : c.toNat - 247 = m := by omega
  rw [e1] at HT hr2
  have HC := Lib.hid (cmp_eq s c r m hl hc hm0 hr2)
  rw [← hm0] at hc hc2 hz0
  have H1 := Lib.hid h1
  have HS := Lib.hid hs
  have hsz : m + 1 ≤ s.size := by omega
  have hsm : s.size ≤ 1000001 := by omega
  clear hs hl h0 h1 hm0 e1
  go_enter Try.func13, Try.ntmps13
  go_wp2
  go_loop [6, 7] (fun u i => ∃ k : Nat, k ≤ m ∧ i = .int .i64 ((k + 1 : Nat) : Int) ∧ u = .int .u64 (val (r.take k) : Nat)) (fun _ i => m + 1 - (intOf i).toNat)
  case atStart => exact ⟨0, Nat.zero_le _, rfl, by simp [val]⟩
  case round =>
    obtain ⟨k, hk, rfl, rfl⟩ := hrel
    by_cases hlt : k < m
    · have hx := val_take_le r k (by omega)
      have hb := H1.out k (by omega) (by omega)
      have hy := r[k].toNat_lt
      have HSU := Lib.hid (val_take_succ r k (by omega))
      go_wp2
      go_round
      case rel => exact ⟨k + 1, by omega, by go_num, by rw [HSU.out]; rfl⟩
      case measure => simp [intOf]; omega
    · have hk' : k = m := by omega
      subst hk'
      have hxv : val (r.take k) ≤ 18446744073709551615 := by
        have h := val_lt (r.take k)
        have h2 : 256 ^ (r.take k).length ≤ 256 ^ 8 := Nat.pow_le_pow_right (by decide) (by have := List.length_take_le k r; omega)
        have e : (256 : Nat) ^ 8 = 18446744073709551616 := by decide
        omega
      have HX := Lib.hid hxv
      clear hxv
      go_wp2
      have hw1 : IntKind.i64.wrap ((k : Int) + 1) = (k : Int) + 1 := IntWalk.i64_in _ (by omega)
      have hw2 : (0 : Int) ≤ (k : Int) + 1 := by omega
      have hw3 : (k : Int) + 1 ≤ (s.size : Int) := by omega
      have hw4 : ((k : Int) + 1).toNat = k + 1 := by omega
      go_region_held3 (fun w' => Below w.heap.size w w') (first | assumption | exact Below.refl _ _ | exact (Below.refl _ _).drew)
        (first | (go_at_call 10; refine (rnum_any _ _ HX.out).mono ?_; rintro e w1 ⟨rfl, hb1⟩; have hb2 := Below.trans ‹Below w.heap.size w _› (hb1.mono (Below.size ‹Below w.heap.size w _›))))
      clear hw1 hw2 hw3 hw4
      have hcmp := HC.out
      have HB2 := Lib.hid hb2
      by_cases hbad : val (r.take k) < 248 ∨ nb (val (r.take k)) < k
      · have HT2 := HT.out
        rw [if_pos hbad] at HT2
        have HT3 := Lib.hid HT2
        rw [decide_eq_true hbad] at hcmp
        have hn : (!((mkB (enc (val (r.take k)))).toList == (s.extract 0 (k + 1)).toList)) = true := by rw [hcmp]; rfl
        have HN := Lib.hid hn
        clear HT HT2 hbad HC hcmp hn hb1 hb2
        go_wp2
        · go_ret3
          exact ⟨by rw [HT3.out]; rfl, HB2.out⟩
        · have hh : (!((mkB (enc (val (r.take k)))).toList == (s.extract 0 (k + 1)).toList)) = false := by assumption
          rw [HN.out] at hh
          cases hh
      · have HT2 := HT.out
        rw [if_neg hbad] at HT2
        have HT3 := Lib.hid HT2
        rw [decide_eq_false hbad] at hcmp
        have hn : (!((mkB (enc (val (r.take k)))).toList == (s.extract 0 (k + 1)).toList)) = false := by rw [hcmp]; rfl
        have HN := Lib.hid hn
        clear HT HT2 hbad HC hcmp hn hb1 hb2
        go_wp2
        · have hh : (!((mkB (enc (val (r.take k)))).toList == (s.extract 0 (k + 1)).toList)) = true := by assumption
          rw [HN.out] at hh
          cases hh
        · go_ret3
          exact ⟨by rw [HT3.out]; rfl, HB2.out⟩

/-- The reference's Take, of any text. -/
theorem rtake_any (s : ByteArray) (w : World) (h : s.size ≤ 1000000) : Calls Try.prog 13 #[.string s] w (Took2 s.data.toList w) := by
  rw [← data_len] at h
  rcases hl : s.data.toList with _ | ⟨c, r⟩
  · have e : s = mkB [] := by rw [← mkB_data s, hl]
    subst e
    exact rtake_nil w
  · rw [hl] at h
    simp only [List.length_cons] at h
    rcases Nat.lt_or_ge c.toNat 248 with hc | hc
    · exact rtake_low s c r w hl hc (by omega)
    · rcases Nat.lt_or_ge r.length (c.toNat - 247) with h2 | h2
      · exact rtake_short s c r w hl hc h2 (by omega)
      · exact rtake_long s c r w hl hc h2 (by omega)

theorem rtake_at (l : List UInt8) (w : World) (h : l.length ≤ 1000000) {u n : Nat} {er : Int} (ht : tk l = (u, n, er)) :
    Calls Try.prog 13 #[.string (mkB l)] w fun e w' => e = .returned (.tuple #[.int .u64 u, .int .i64 n, .int .i64 er]) ∧ Below w.heap.size w w' := by
  have k := rtake_any (mkB l) w (by rw [mkB_size]; exact h)
  have e : (mkB l).data.toList = l := rfl
  unfold Took2 at k
  rw [e, ht] at k
  exact k

theorem rtake_str (s : ByteArray) (w : World) (h : s.size ≤ 1000000) {u n : Nat} {er : Int} (ht : tk s.data.toList = (u, n, er)) :
    Calls Try.prog 13 #[.string s] w fun e w' => e = .returned (.tuple #[.int .u64 u, .int .i64 n, .int .i64 er]) ∧ Below w.heap.size w w' := by
  have k := rtake_any s w h
  unfold Took2 at k
  rw [ht] at k
  exact k
end Go.Proofs.Ytbbioeiikobnnaa
