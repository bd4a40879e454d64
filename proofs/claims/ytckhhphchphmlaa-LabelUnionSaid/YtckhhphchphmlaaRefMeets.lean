/-
  Layer 5's reference: what an atom asks of a value.
-/
import Derived.Test.YtckhhphchphmlaaRefAhead
namespace Go.Proofs.Ytckhhphchphmlaa
open Go.RowKit
set_option linter.unusedVariables false

set_option maxRecDepth 100000 in
theorem rmeets_any (v op u : Int) (w : World) :
    Calls Try.prog 30 #[.int .i64 v, .int .i64 op, .int .i64 u] w fun e w' => e = .returned (.bool (meetsL v op u)) ∧ w' = w := by
  by_cases h0 : op = 0
  · subst h0
    go_enter Try.func30, Try.ntmps30
    go_wp2
    go_ret
    exact ⟨rfl, rfl⟩
  by_cases h1 : op = 1
  · subst h1
    go_enter Try.func30, Try.ntmps30
    go_wp2
    go_ret
    exact ⟨rfl, rfl⟩
  by_cases h2 : op = 2
  · subst h2
    go_enter Try.func30, Try.ntmps30
    go_wp2
    go_ret
    exact ⟨rfl, rfl⟩
  by_cases h3 : op = 3
  · subst h3
    go_enter Try.func30, Try.ntmps30
    go_wp2
    go_ret
    exact ⟨rfl, rfl⟩
  by_cases h4 : op = 4
  · subst h4
    go_enter Try.func30, Try.ntmps30
    go_wp2
    go_ret
    exact ⟨rfl, rfl⟩
  by_cases h5 : op = 5
  · subst h5
    go_enter Try.func30, Try.ntmps30
    go_wp2
    go_ret
    exact ⟨rfl, rfl⟩
  have HE : Hid (meetsL v op u = (op == 6 && decide (u ≤ v))) := Lib.hid (by unfold meetsL; rw [if_neg h0, if_neg h1, if_neg h2, if_neg h3, if_neg h4, if_neg h5])
  replace h0 : (op == 0) = false := beq_eq_false_iff_ne.2 h0
  replace h1 : (op == 1) = false := beq_eq_false_iff_ne.2 h1
  replace h2 : (op == 2) = false := beq_eq_false_iff_ne.2 h2
  replace h3 : (op == 3) = false := beq_eq_false_iff_ne.2 h3
  replace h4 : (op == 4) = false := beq_eq_false_iff_ne.2 h4
  replace h5 : (op == 5) = false := beq_eq_false_iff_ne.2 h5
  cases h6 : op == 6
  all_goals go_enter Try.func30, Try.ntmps30
  all_goals go_wp2
  all_goals go_ret
  all_goals exact ⟨by rw [HE.out, h6]; rfl, rfl⟩
theorem rmeets_at (v op u : Int) (x : Bool) (w : World) (h : meetsL v op u = x) :
    Calls Try.prog 30 #[.int .i64 v, .int .i64 op, .int .i64 u] w fun e w' => e = .returned (.bool x) ∧ w' = w := by
  subst h; exact rmeets_any v op u w
end Go.Proofs.Ytckhhphchphmlaa
