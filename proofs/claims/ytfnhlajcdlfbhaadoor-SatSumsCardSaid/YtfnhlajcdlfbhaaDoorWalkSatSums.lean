/-
  The walk of the law SatSums.
-/
import Derived.Test.YtfnhlajcdlfbhaaDoorAwakeTwo
import Derived.OpenShut
namespace Go.Proofs.YtfnhlajcdlfbhaaDoor
open Go.RowKit
set_option linter.unusedVariables false

set_option maxRecDepth 100000 in
theorem satSums_walk (A : Option Addr) (c : Nat) (zs : List Int) (W : World) (hN : NoneIs W) (hl : zs.length ≤ c) (hA : A = none → c = 0) (hr : Row W W.heap.size A (zs.map (Value.int .i64))) (hw : ∀ n ∈ zs, (Lit.int .i64 n).wf = true) :
    Calls Tryd.prog 4 #[.slice A zs.length c] W fun e w' => e = .returned (.bool true) ∧ Below W.heap.size W w' := by
  have HR := Lib.hid hr
  have HZ : Hid (∀ z ∈ zs, -9223372036854775808 ≤ z ∧ z ≤ 9223372036854775807) := Lib.hid fun z h => bounds_i64 (hw z h)
  have HN := Lib.hid hN
  clear hr hw hl hA hN
  by_cases hlen : 200 < zs.length
  · go_enter Tryd.func4, Tryd.ntmps4
    go_wp2_with (go_at_call 9; refine (awake2_any _ HN.out).mono ?_; rintro e w1 ⟨rfl, hb1⟩; have HB1 := Lib.hid hb1; clear hb1)
    go_ret
    exact ⟨rfl, HB1.out⟩
  · have HM := Lib.hid (show zs.length ≤ 1000000 by omega)
    go_enter Tryd.func4, Tryd.ntmps4
    go_wp2_with (first
      | (go_at_call 9; refine (awake2_any _ HN.out).mono ?_; rintro e w1 ⟨rfl, hb1⟩; have HB1 := Lib.hid hb1; have HR1 := Lib.hid (HR.out.below_ hb1); clear hb1)
      | (go_at_call 14; refine (ssum_any zs A c _ _ HZ.out HR1.out HM.out).mono ?_; rintro e w' ⟨rfl, rfl⟩)
      | (go_at_call 15; refine (rsum_any zs A c _ _ HZ.out HR1.out HM.out).mono ?_; rintro e w' ⟨rfl, rfl⟩))
    go_ret
    exact ⟨rfl, HB1.out⟩
end Go.Proofs.YtfnhlajcdlfbhaaDoor
