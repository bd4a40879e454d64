/-
  Contract of layer 7's reference: Digits.
-/
import Derived.Test.YthnkiabhfcddaaaDoorPackG
import Derived.Test.YthnkiabhfcddaaaDoorPackA
import Derived.Lib.ItoaLen
namespace Go.Proofs.YthnkiabhfcddaaaDoor
open Go.RowKit
set_option linter.unusedVariables false

theorem dec_len20 (u : Nat) (h : u ≤ 18446744073709551615) : (Lib.decDigits u).length ≤ 20 := by
  rw [Lib.decDigits_length]; exact Lib.nDigits_le20 u (by omega)
/-- Where Digits stands: u is left, and the digits t are laid. -/
def DigAt (m u : Nat) (t : List UInt8) : Prop := Lib.decDigits m = (if 10 ≤ u then Lib.decDigits (u / 10) else []) ++ t
theorem digAt_first (m : Nat) : DigAt m m [UInt8.ofNat (48 + m % 10)] := by
  unfold DigAt
  split
  · rw [Lib.decDigits, dif_neg (by omega)]
  · rw [Lib.decDigits_one (by omega), Nat.mod_eq_of_lt (by omega)]; rfl
theorem digAt_next {m u : Nat} {t : List UInt8} (h : DigAt m u t) (hu : 10 ≤ u) : DigAt m (u / 10) (UInt8.ofNat (48 + u / 10 % 10) :: t) := by
  unfold DigAt at *
  rw [if_pos hu] at h
  have k := digAt_first (u / 10)
  unfold DigAt at k
  rw [h, k]
  simp
theorem digAt_len {m u : Nat} {t : List UInt8} (h : DigAt m u t) (hm : m ≤ 18446744073709551615) : t.length ≤ 20 := by
  have := dec_len20 m hm
  unfold DigAt at h
  rw [h, List.length_append] at this
  omega
set_option maxRecDepth 100000 in
set_option maxHeartbeats 1000000 in
theorem rdig7_any (m : Nat) (w : World) (hm : m ≤ 18446744073709551615) :
    Calls Tryd.prog 31 #[.int .u64 (m : Int)] w fun e w' => e = .returned (.string (mkB (Lib.decDigits m))) ∧ Below w.heap.size w w' := by
  have HM := Lib.hid hm
  have hcv := run_str1 w (48 + (m : Int) % 10) (UInt8.ofNat (48 + m % 10)) (u8_of (48 + m % 10) (by omega))
  have HD := Lib.hid (digAt_first m)
  generalize UInt8.ofNat (48 + m % 10) = c0 at hcv HD
  have hm9 : (m : Int) ≤ 18446744073709551615 := by omega
  clear hm
  go_enter Tryd.func31, Tryd.ntmps31
  go_wp2
  have HB0 := Lib.hid (bmore (bself w) (.cells #[.int .u8 (48 + (m : Int) % 10)] 5))
  clear hcv
  go_loopw [0, 3] (fun u s wr => ∃ (x : Nat) (t : List UInt8), x ≤ m ∧ u = .int .u64 (x : Int) ∧ s = .string (mkB t) ∧ Hid (DigAt m x t) ∧ Hid (Below w.heap.size w wr)) (fun u _ _ => (intOf u).toNat)
  case atStart => exact ⟨m, [c0], Nat.le_refl _, rfl, rfl, HD, HB0⟩
  case round =>
    obtain ⟨x, t, hx, rfl, rfl, HX, HB⟩ := hrel
    clear HD HB0
    have hx9 : (x : Int) ≤ 18446744073709551615 := by omega
    by_cases hlt : 10 ≤ x
    · have hlt2 : (10 : Int) ≤ (x : Int) := by omega
      have HN := Lib.hid (digAt_next HX.out hlt)
      have HT := Lib.hid (digAt_len HX.out HM.out)
      obtain ⟨z, hz⟩ : ∃ z, x / 10 = z := ⟨_, rfl⟩
      have hz2 : (x : Int) / 10 = (z : Int) := by omega
      have hz9 : (z : Int) ≤ 18446744073709551615 := by omega
      have HZ := Lib.hid (show z < x by omega)
      rw [hz] at HN
      have hcv := run_str1 wr (48 + (z : Int) % 10) (UInt8.ofNat (48 + z % 10)) (u8_of (48 + z % 10) (by omega))
      generalize UInt8.ofNat (48 + z % 10) = c at hcv HN
      have hadd : ∀ W, (Op.stringOp .add (mkB [c]) (mkB t)).run Tryd.prog W = .ok (.string (mkB (c :: t))) W := fun W => run_add W [c] t (by have := HT.out; simp only [List.length_cons, List.length_nil]; omega)
      clear hz hlt
      have HS := HB.out.size
      go_wp2
      go_roundw
      case rel => exact ⟨z, c :: t, by have := HZ.out; omega, rfl, rfl, HN, Lib.hid (HB.out.alloc HS _)⟩
      case measure => have := HZ.out; simp [intOf]; omega
    · have hlt2 : ¬ (10 : Int) ≤ (x : Int) := by omega
      have HR := Lib.hid (show Lib.decDigits m = t by have := HX.out; unfold DigAt at this; rw [if_neg hlt] at this; exact this)
      clear hlt
      go_wp2
      go_ret
      exact ⟨by rw [HR.out]; rfl, HB.out⟩
end Go.Proofs.YthnkiabhfcddaaaDoor
