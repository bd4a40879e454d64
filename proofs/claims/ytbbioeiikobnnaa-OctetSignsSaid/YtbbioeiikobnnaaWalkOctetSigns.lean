/-
  The walk of the law OctetSigns.
-/
import Derived.Test.YtbbioeiikobnnaaAwake
import Derived.OpenShut
namespace Go.Proofs.Ytbbioeiikobnnaa
open Go.RowKit

set_option maxRecDepth 100000 in
theorem octetSigns_walk (n u : Int) (W : World) (h0 : (Lit.int .i64 n).wf = true) (h1 : (Lit.int .u64 u).wf = true) :
    Calls Try.prog 4 #[.int .i64 n, .int .u64 u] W fun e w' => e = .returned (.bool true) ∧ Below W.heap.size W w' := by
  have H0 := Lib.hid (bounds_i64 h0)
  have H1 := Lib.hid (bounds_u64 h1)
  clear h0 h1
  have E1 := pln_sgn n
  have E2 := sgn_pln u H1.out.1
  have S1 := Lib.hid (sgn_range n H0.out.1 H0.out.2)
  have S2 := Lib.hid (pln_range u H1.out.1 H1.out.2)
  go_enter Try.func4, Try.ntmps4
  go_wp2_with (first
    | (go_at_call 9; refine (awake_any _).mono ?_; rintro e w1 ⟨rfl, hb1⟩; have HB1 := Lib.hid hb1; clear hb1)
    | (go_at_call 16; refine (sign_any _ _ (by with_reducible first | exact H0.out.1 | exact S2.out.1) (by with_reducible first | exact H0.out.2 | exact S2.out.2)).mono ?_; rintro e w' ⟨rfl, rfl⟩)
    | (go_at_call 17; refine (plain_any _ _ (by with_reducible first | exact H1.out.1 | exact S1.out.1) (by with_reducible first | exact H1.out.2 | exact S1.out.2)).mono ?_; rintro e w' ⟨rfl, rfl⟩)
    | (go_at_call 18; refine (rsign_any n _ H0.out.1 H0.out.2).mono ?_; rintro e w' ⟨rfl, rfl⟩)
    | (go_at_call 19; refine (rplain_any u _ H1.out.1 H1.out.2).mono ?_; rintro e w' ⟨rfl, rfl⟩))
  go_ret
  exact ⟨rfl, HB1.out⟩
end Go.Proofs.Ytbbioeiikobnnaa
