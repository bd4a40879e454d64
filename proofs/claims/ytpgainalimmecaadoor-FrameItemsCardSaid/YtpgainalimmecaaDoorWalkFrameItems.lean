/-
  The walk of the law FrameItems, whatever the bytes.
-/
import Derived.Test.YtpgainalimmecaaDoorWalkFrameItemsCore
namespace Go.Proofs.YtpgainalimmecaaDoor
open Go.RowKit
set_option linter.unusedVariables false

set_option maxRecDepth 100000 in
theorem frameItems_any (A : Option Addr) (c : Nat) (b : List UInt8) (t : UInt8) (W : World) (hT : Tabs W) (hb : LiesB W W.heap.size (.slice A b.length c) b) :
    Calls Tryd.prog 5 #[.slice A b.length c, .int .u8 (t.toNat : Int)] W fun e w' => e = .returned (.bool true) ∧ Below W.heap.size W w' := by
  by_cases hl : b.length ≤ 1000
  · exact frameItems_core A c b t W hT hb hl
  · have hl1 : (1000 : Int) < (b.length : Int) := by omega
    have HCA := Lib.hid (awake4_any W hT)
    clear hT hb hl
    refine (callsIn_wide (n := 3)).1 (callsIn_of_wp_marks Tryd.func5 rfl trivial ((wpIn_wide (n := 3)).2 ?_))
    simp only [Tryd.ntmps5, List.size_toArray, List.length_cons, List.length_nil, Nat.reduceAdd, Nat.reduceSub, Array.replicate_succ, Array.replicate_zero, List.push_toArray, List.append_toArray, List.nil_append, List.cons_append]
    go_wp2_with fail
    refine HCA.out.mono ?_
    rintro e w1 ⟨rfl, hb1⟩
    have HB := Lib.hid hb1
    clear hb1 HCA
    go_wp2
    exact ⟨_, results_tmp rfl _ _ _, rfl, HB.out⟩
end Go.Proofs.YtpgainalimmecaaDoor
