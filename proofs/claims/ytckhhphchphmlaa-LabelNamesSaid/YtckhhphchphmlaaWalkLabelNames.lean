/-
  The walk of the law LabelNames.
-/
import Derived.Test.YtckhhphchphmlaaAwakeFive
import Derived.Test.YtckhhphchphmlaaRefName
namespace Go.Proofs.Ytckhhphchphmlaa
open Go.RowKit
set_option linter.unusedVariables false

set_option maxRecDepth 100000 in
theorem labelNames_any (l : List UInt8) (W : World) : Calls Try.prog 3 #[.string (mkB l)] W fun e w' => e = .returned (.bool true) ∧ Below W.heap.size W w' := by
  obtain ⟨n, hn⟩ : ∃ n, (mkB l).size = n := ⟨_, rfl⟩
  obtain ⟨q, hq⟩ : ∃ q, nameL l = q := ⟨_, rfl⟩
  have HA := Lib.hid (awake5_any W)
  have H1 := Lib.hid (fun w => lname_any l w hq)
  have H2 := Lib.hid (fun w => rname_at l q w hq)
  clear hq
  by_cases h : 200 < n
  · have h2 : (200 : Int) < (n : Int) := by omega
    go_enter Try.func3, Try.ntmps3
    go_wp2_with (go_at_call 9; (with_reducible refine HA.out.mono ?_); rintro e w1 ⟨rfl, hb⟩; have HB := Lib.hid hb; clear hb)
    go_ret
    exact ⟨rfl, HB.out⟩
  · have h2 : ¬ (200 : Int) < (n : Int) := by omega
    cases q
    all_goals
      go_enter Try.func3, Try.ntmps3
      go_wp2_with (first
        | (go_at_call 9; (with_reducible refine HA.out.mono ?_); rintro e w1 ⟨rfl, hb⟩; have HB := Lib.hid hb; clear hb)
        | (go_at_call 10; (with_reducible refine (H1.out _).mono ?_); rintro e w2 ⟨rfl, hb⟩; have HB2 := Lib.hid (bstep HB.out hb); clear hb)
        | (go_at_call 11; (with_reducible refine (H2.out _).mono ?_); rintro e w3 ⟨rfl, rfl⟩))
      go_ret
      exact ⟨rfl, HB2.out⟩
end Go.Proofs.Ytckhhphchphmlaa
