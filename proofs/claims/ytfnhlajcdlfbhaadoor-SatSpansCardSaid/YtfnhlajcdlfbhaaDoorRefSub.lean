/-
  Contract of layer 2's reference Sub; numbers added up (plain mathematics).
-/
import Derived.Test.YtfnhlajcdlfbhaaDoorRefSat
namespace Go.Proofs.YtfnhlajcdlfbhaaDoor
open Go.RowKit
set_option linter.unusedVariables false

theorem rsub_any (a b : Int) (w : World) (a1 : -9223372036854775808 ≤ a) (a2 : a ≤ 9223372036854775807) (b1 : -9223372036854775808 ≤ b) (b2 : b ≤ 9223372036854775807) :
    Calls Tryd.prog 13 #[.int .i64 a, .int .i64 b] w fun e w' => e = .returned (.tuple #[.int .i64 (cutS (a - b)).1, .bool (cutS (a - b)).2]) ∧ w = w' := by
  have h := Lib.hid (show (a / 4294967296 - b / 4294967296) * 4294967296 + (a % 4294967296 - b % 4294967296) = a - b by omega)
  have q1 : -2147483648 ≤ a / 4294967296 ∧ a / 4294967296 ≤ 2147483647 := by omega
  have q2 : -2147483648 ≤ b / 4294967296 ∧ b / 4294967296 ≤ 2147483647 := by omega
  have r1 : 0 ≤ a % 4294967296 ∧ a % 4294967296 < 4294967296 := by omega
  have r2 : 0 ≤ b % 4294967296 ∧ b % 4294967296 < 4294967296 := by omega
  have A := Lib.hid (And.intro a1 a2)
  have B := Lib.hid (And.intro b1 b2)
  clear a1 a2 b1 b2
  go_enter Tryd.func13, Tryd.ntmps13
  go_wp2_with (first
    | (go_at_call 26; refine (highs_any _ _ (by first | exact A.out.1 | exact B.out.1) (by first | exact A.out.2 | exact B.out.2)).mono ?_; rintro _ w' ⟨rfl, rfl⟩)
    | (go_at_call 27; refine (low_any _ _ (by first | exact A.out.1 | exact B.out.1) (by first | exact A.out.2 | exact B.out.2)).mono ?_; rintro _ w' ⟨rfl, rfl⟩)
    | (go_at_call 25; refine (whole_any _ _ _ (by omega) (by omega) (by omega) (by omega)).mono ?_; rintro _ w' ⟨rfl, rfl⟩))
  go_ret2
  exact ⟨by rw [← h.out]; rfl, rfl⟩

/-- Numbers added up, one by one, each sum cut; whether one was. -/
def sumS : List Int → Int × Bool → Int × Bool
  | [], p => p
  | x :: l, p => sumS l ((cutS (p.1 + x)).1, p.2 || (cutS (p.1 + x)).2)
theorem sumS_snoc (l : List Int) (x : Int) (p : Int × Bool) : sumS (l ++ [x]) p = ((cutS ((sumS l p).1 + x)).1, (sumS l p).2 || (cutS ((sumS l p).1 + x)).2) := by
  induction l generalizing p with
  | nil => rfl
  | cons y l ih => exact ih _
theorem cutS_range (v : Int) : -9223372036854775808 ≤ (cutS v).1 ∧ (cutS v).1 ≤ 9223372036854775807 := by
  unfold cutS
  split
  · decide
  · split
    · decide
    · dsimp only; omega
theorem sumS_range (l : List Int) (p : Int × Bool) (h : -9223372036854775808 ≤ p.1 ∧ p.1 ≤ 9223372036854775807) : -9223372036854775808 ≤ (sumS l p).1 ∧ (sumS l p).1 ≤ 9223372036854775807 := by
  induction l generalizing p with
  | nil => exact h
  | cons y l ih => exact ih _ (cutS_range _)
end Go.Proofs.YtfnhlajcdlfbhaaDoor
