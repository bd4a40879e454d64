/-
  Contracts of layer 2's reference Digits and Text: a number by digits, a span's text.
-/
import Derived.Test.YtfnhlajcdlfbhaaDoorStr
import Derived.Lib.ItoaLen
import Derived.Lib.ItoaMem
namespace Go.Proofs.YtfnhlajcdlfbhaaDoor
open Go.RowKit
set_option linter.unusedVariables false

theorem dec_step (x : Nat) (h : 10 ≤ x) (t : List UInt8) : Lib.decDigits x ++ t = Lib.decDigits (x / 10) ++ ([UInt8.ofNat (48 + x % 10)] ++ t) := by
  rw [Lib.decDigits, dif_neg (by omega), List.append_assoc]
theorem dec_len (m : Nat) (h : m ≤ 9223372036854775808) : (Lib.decDigits m).length ≤ 21 := by
  by_cases h0 : m = 0
  · subst h0; rw [Lib.decDigits_one (by omega)]; decide
  · have := Lib.itoa_length_le (-(m : Int)) (by omega) (by omega)
    rw [Lib.itoa_neg m (by omega)] at this
    simp at this
    omega

/-- What the loop of Digits lays: the digits of m, from any start whose rest is t. -/
theorem dec_part {m x : Nat} {t : List UInt8} (h : Lib.decDigits m = Lib.decDigits x ++ t) (hm : m ≤ 9223372036854775808) : t.length ≤ 21 := by
  have := dec_len m hm
  rw [h, List.length_append] at this
  omega

set_option maxRecDepth 100000 in
set_option maxHeartbeats 1000000 in
theorem rdigits_any (n : Int) (w : World) (h0 : -9223372036854775808 ≤ n) (h1 : n ≤ 9223372036854775807) :
    Calls Tryd.prog 32 #[.int .i64 n] w fun e w' => e = .returned (.string (mkB (Lib.itoa n))) ∧ Below w.heap.size w w' := by
  go_enter Tryd.func32, Tryd.ntmps32
  obtain ⟨m, hm⟩ : ∃ m : Nat, m = n.natAbs := ⟨_, rfl⟩
  have HM := Lib.hid hm
  have HL := Lib.hid (show m ≤ 9223372036854775808 by omega)
  clear hm
  by_cases hn : n < 0
  all_goals
    go_wp2
    go_loopw [3, 4] (fun u s wr => ∃ (x : Nat) (t : List UInt8), x ≤ m ∧ u = .int .u64 (x : Int) ∧ s = .string (mkB t) ∧ Hid (Lib.decDigits m = Lib.decDigits x ++ t) ∧ Hid (Below w.heap.size w wr)) (fun u _ _ => (intOf u).toNat)
    case atStart => exact ⟨m, [], Nat.le_refl _, by have := HM.out; congr 1; omega, rfl, Lib.hid (by simp), Lib.hid (Below.refl _ _)⟩
    case round =>
      obtain ⟨x, t, hx, rfl, rfl, HD, HB⟩ := hrel
      have HT := Lib.hid (dec_part HD.out HL.out)
      have HS := HB.out.size
      by_cases hlt : 10 ≤ x
      · have HE := Lib.hid (dec_step x hlt t)
        have hcv := run_str1 wr (48 + (x : Int) % 10) (UInt8.ofNat (48 + x % 10)) (u8_of (48 + x % 10) (by omega))
        generalize UInt8.ofNat (48 + x % 10) = c at hcv HE
        have hadd : ∀ W, (Op.stringOp .add (mkB [c]) (mkB t)).run Tryd.prog W = .ok (.string (mkB (c :: t))) W := fun W => run_add W [c] t (by have := HT.out; simp only [List.length_cons, List.length_nil]; omega)
        have HW := Lib.hid (show IntKind.u64.wrap ((x : Int) / 10) = ((x / 10 : Nat) : Int) by rw [IntWalk.u64_in _ (by have := HL.out; omega)]; omega)
        go_wp2
        go_roundw
        case rel => exact ⟨x / 10, c :: t, by omega, by rw [HW.out], rfl, Lib.hid (HD.out.trans HE.out), Lib.hid (HB.out.alloc HS _)⟩
        case measure => rw [HW.out]; simp [intOf]; omega
      · have HE := Lib.hid (show Lib.decDigits x = [UInt8.ofNat (48 + x)] from Lib.decDigits_one (by omega))
        have hcv := run_str1 wr (48 + (x : Int)) (UInt8.ofNat (48 + x)) (u8_of (48 + x) (by omega))
        generalize UInt8.ofNat (48 + x) = c at hcv HE
        have hadd : ∀ W, (Op.stringOp .add (mkB [c]) (mkB t)).run Tryd.prog W = .ok (.string (mkB (c :: t))) W := fun W => run_add W [c] t (by have := HT.out; simp only [List.length_cons, List.length_nil]; omega)
        have hadd2 : ∀ W, (Op.stringOp .add ⟨#[45]⟩ (mkB (c :: t))).run Tryd.prog W = .ok (.string (mkB (45 :: c :: t))) W := fun W => run_add W [45] (c :: t) (by have := HT.out; simp only [List.length_cons, List.length_nil]; omega)
        have HR := Lib.hid (show Lib.decDigits m = c :: t by rw [HD.out, HE.out]; rfl)
        go_wp2
        go_ret
        refine ⟨?_, HB.out.alloc HS _⟩
        have hM := HM.out
        unfold Lib.itoa
        first
          | (rw [if_pos hn, show n.natAbs = m from hM.symm, HR.out]; rfl)
          | (rw [if_neg (by omega), show n.toNat = m by omega, HR.out]; rfl)

end Go.Proofs.YtfnhlajcdlfbhaaDoor
