/-
  The walk of the law SatAdds.
-/
import Derived.Test.YtfnhlajcdlfbhaaDoorAwakeTwo
import Derived.OpenShut
namespace Go.Proofs.YtfnhlajcdlfbhaaDoor
open Go.RowKit
set_option linter.unusedVariables false

set_option maxRecDepth 100000 in
theorem satAdds_walk (a b : Int) (W : World) (hN : NoneIs W) (h0 : (Lit.int .i64 a).wf = true) (h1 : (Lit.int .i64 b).wf = true) :
    Calls Tryd.prog 3 #[.int .i64 a, .int .i64 b] W fun e w' => e = .returned (.bool true) ∧ Below W.heap.size W w' := by
  have H0 := Lib.hid (bounds_i64 h0)
  have H1 := Lib.hid (bounds_i64 h1)
  have HN := Lib.hid hN
  clear h0 h1 hN
  go_enter Tryd.func3, Tryd.ntmps3
  go_wp2_with (first
    | (go_at_call 9; refine (awake2_any _ HN.out).mono ?_; rintro e w1 ⟨rfl, hb1⟩; have HB1 := Lib.hid hb1; clear hb1)
    | (go_at_call 10; refine (sadd_any _ _ _ H0.out.1 H0.out.2 H1.out.1 H1.out.2).mono ?_; rintro e w' ⟨rfl, rfl⟩)
    | (go_at_call 11; refine (radd_any _ _ _ H0.out.1 H0.out.2 H1.out.1 H1.out.2).mono ?_; rintro e w' ⟨rfl, rfl⟩)
    | (go_at_call 12; refine (ssub_any _ _ _ H0.out.1 H0.out.2 H1.out.1 H1.out.2).mono ?_; rintro e w' ⟨rfl, rfl⟩)
    | (go_at_call 13; refine (rsub_any _ _ _ H0.out.1 H0.out.2 H1.out.1 H1.out.2).mono ?_; rintro e w' ⟨rfl, rfl⟩))
  go_ret
  exact ⟨rfl, HB1.out⟩
end Go.Proofs.YtfnhlajcdlfbhaaDoor
