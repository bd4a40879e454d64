/-
  The walk of the law SatSpans.
-/
import Derived.Test.YtfnhlajcdlfbhaaDoorSpansCaseA
import Derived.Test.YtfnhlajcdlfbhaaDoorSpansCaseB
import Derived.Test.YtfnhlajcdlfbhaaDoorSpansCaseC
namespace Go.Proofs.YtfnhlajcdlfbhaaDoor
open Go.RowKit
set_option linter.unusedVariables false

theorem satSpans_walk (a b c d t k : Int) (W : World) (hN : NoneIs W) (hT : Pows W) (g1 : (Lit.int .i64 a).wf = true) (g2 : (Lit.int .i64 b).wf = true) (g3 : (Lit.int .i64 c).wf = true) (g4 : (Lit.int .i64 d).wf = true) (g5 : (Lit.int .i64 t).wf = true) (g6 : (Lit.int .i64 k).wf = true) :
    Calls Tryd.prog 5 #[.agg #[.int .i64 a, .int .i64 b], .agg #[.int .i64 c, .int .i64 d], .int .i64 t, .int .i64 k] W fun e w' => e = .returned (.bool true) ∧ Below W.heap.size W w' := by
  by_cases h1 : a ≤ k
  · by_cases h2 : k ≤ b
    · exact spans_a a b c d t k _ _ _ _ _ _ _ _ W hN hT (bounds_i64 g1) (bounds_i64 g2) (bounds_i64 g5) rfl rfl rfl rfl h1 h2 ((hasS_iff _ _ _).2 ⟨h1, h2⟩)
    · exact spans_c a b c d t k _ _ _ _ _ _ _ _ W hN hT (bounds_i64 g1) (bounds_i64 g2) (bounds_i64 g5) rfl rfl rfl rfl h1 (by simpa using h2) (hasS_not (by omega))
  · exact spans_b a b c d t k _ _ _ _ _ _ _ _ W hN hT (bounds_i64 g1) (bounds_i64 g2) (bounds_i64 g5) rfl rfl rfl rfl (by simpa using h1) (hasS_not (by omega))
end Go.Proofs.YtfnhlajcdlfbhaaDoor
