/-
  Plain mathematics, of no layer: numbers by their digits.
-/
import Derived.Test.YthnkiabhfcddaaaDoorPackA
import Derived.Lib.ItoaMem
namespace Go.Proofs.YthnkiabhfcddaaaDoor
set_option linter.unusedVariables false

/-- Digits' value. -/
def valD (l : List UInt8) : Nat := l.foldl (fun a c => a * 10 + (c.toNat - 48)) 0
theorem valD_snoc (l : List UInt8) (c : UInt8) : valD (l ++ [c]) = valD l * 10 + (c.toNat - 48) := by simp [valD]
theorem valD_dec : ∀ (n u : Nat), u ≤ n → valD (Lib.decDigits u) = u
  | n, u, h => by
    by_cases h10 : u < 10
    · rw [Lib.decDigits_one h10]
      simp [valD]
      omega
    · rw [Lib.decDigits, dif_neg h10, valD_snoc, valD_dec (u / 10) (u / 10) (Nat.le_refl _)]
      simp
      omega
  termination_by _ u _ => u
theorem dec_inj {u v : Nat} (h : Lib.decDigits u = Lib.decDigits v) : u = v := by
  rw [← valD_dec u u (Nat.le_refl _), ← valD_dec v v (Nat.le_refl _), h]
theorem dec_no : ∀ (u : Nat), ∀ c ∈ Lib.decDigits u, c ≠ 32
  | u, c, hc => by
    by_cases h10 : u < 10
    · rw [Lib.decDigits_one h10] at hc
      simp at hc
      subst hc
      intro e
      have := congrArg UInt8.toNat e
      simp at this
      omega
    · rw [Lib.decDigits, dif_neg h10] at hc
      rcases List.mem_append.1 hc with hc | hc
      · exact dec_no (u / 10) c hc
      · simp at hc
        subst hc
        intro e
        have := congrArg UInt8.toNat e
        simp at this
        omega
  termination_by u => u
/-- Is it a digit? -/
def digB (c : UInt8) : Bool := decide (48 ≤ c.toNat) && decide (c.toNat ≤ 57)
theorem dig_nat (n : Nat) (h : n < 10) : (UInt8.ofNat (48 + n)).toNat = 48 + n := by simp; omega
theorem dec_digB : ∀ (u : Nat), ∀ c ∈ Lib.decDigits u, digB c = true
  | u, c, hc => by
    by_cases h10 : u < 10
    · rw [Lib.decDigits_one h10] at hc
      simp only [List.mem_singleton] at hc
      subst hc
      unfold digB
      rw [dig_nat u h10]
      simp
      omega
    · rw [Lib.decDigits, dif_neg h10] at hc
      rcases List.mem_append.1 hc with hc | hc
      · exact dec_digB (u / 10) c hc
      · simp only [List.mem_singleton] at hc
        subst hc
        unfold digB
        rw [dig_nat _ (by omega)]
        simp
        omega
  termination_by u => u
/-- The first digit. -/
theorem dec_head : ∀ (u : Nat), ∃ c r, Lib.decDigits u = c :: r ∧ (c = 48 → u = 0 ∧ r = [])
  | u => by
    by_cases h10 : u < 10
    · rw [Lib.decDigits_one h10]
      refine ⟨_, _, rfl, fun e => ⟨?_, rfl⟩⟩
      have := congrArg UInt8.toNat e
      rw [dig_nat u h10] at this
      simp at this
      omega
    · obtain ⟨c, r, e, h⟩ := dec_head (u / 10)
      rw [Lib.decDigits, dif_neg h10, e]
      exact ⟨c, r ++ _, rfl, fun ec => by have := (h ec).1; omega⟩
  termination_by u => u
theorem itoa_nn {n : Int} (h : 0 ≤ n) : Lib.itoa n = Lib.decDigits n.toNat := by unfold Lib.itoa; rw [if_neg (by omega)]
theorem itoa_ng {n : Int} (h : n < 0) : Lib.itoa n = 45 :: Lib.decDigits n.natAbs := by unfold Lib.itoa; rw [if_pos h]
end Go.Proofs.YthnkiabhfcddaaaDoor
