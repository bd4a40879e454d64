/-
  Contracts of layer 5's reference: Ahead, Meets.
-/
import Derived.Test.YtckhhphchphmlaaProps
import Derived.Deep.RegionHeld3
import Derived.Deep.QuietTactic
import Derived.BigQuiet
namespace Go.Proofs.Ytckhhphchphmlaa
open Go.RowKit
set_option linter.unusedVariables false

set_option maxRecDepth 100000 in
theorem rahead_any (a b : Pr) (w : World) :
    Calls Try.prog 28 #[.agg #[.string (mkB a.name), .int .i64 a.val], .agg #[.string (mkB b.name), .int .i64 b.val]] w fun e w' => e = .returned (.bool (aheadL a b)) ∧ Below w.heap.size w w' := by
  obtain ⟨n, v⟩ := a
  obtain ⟨m, u⟩ := b
  dsimp only
  have h1 : Op.bytesLess (mkB n).toList (mkB m).toList = Op.bytesLess n m := by rw [mkB_toList, mkB_toList]
  have h2 : ((mkB n).toList == (mkB m).toList) = (n == m) := by rw [mkB_toList, mkB_toList]
  have HE : Hid (aheadL ⟨n, v⟩ ⟨m, u⟩ = (Op.bytesLess n m || (n == m && decide (v < u)))) := Lib.hid rfl
  generalize Op.bytesLess n m = x at h1 HE
  generalize (n == m) = y at h2 HE
  cases x <;> cases y
  all_goals go_enter Try.func28, Try.ntmps28
  all_goals go_wp2
  all_goals go_ret
  all_goals exact ⟨by rw [HE.out]; rfl, bmore (bmore (bself w) _) _⟩
theorem below_dN (w : World) (n : Nat) : Below w.heap.size w (w.drewN n) := ⟨rfl, rfl, rfl, Nat.le_refl _, fun _ _ => rfl⟩
theorem rahead_at (a b : Pr) (x : Bool) (w : World) (h : aheadL a b = x) :
    Calls Try.prog 28 #[.agg #[.string (mkB a.name), .int .i64 a.val], .agg #[.string (mkB b.name), .int .i64 b.val]] w fun e w' => e = .returned (.bool x) ∧ Below w.heap.size w w' := by
  subst h; exact rahead_any a b w
end Go.Proofs.Ytckhhphchphmlaa
