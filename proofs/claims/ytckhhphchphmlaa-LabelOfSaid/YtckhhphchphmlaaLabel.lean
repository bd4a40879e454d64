/-
  Contracts of package label: Name, Of, Union, Right, Holds.
-/
import Derived.Test.YtckhhphchphmlaaLabelMake
import Derived.Test.YtckhhphchphmlaaLabelName
import Derived.Test.YtckhhphchphmlaaLabelRight
import Derived.Test.YtckhhphchphmlaaLabelHold
namespace Go.Proofs.Ytckhhphchphmlaa
open Go.RowKit
set_option linter.unusedVariables false

/-- What a call of Of, of Union, leaves. -/
def GaveQ (w : World) (q : List Pr) (e : Ending) (w' : World) : Prop := ∃ A n c, e = .returned (.slice A n c) ∧ Props w' w'.heap.size (.slice A n c) q ∧ Below w.heap.size w w'
theorem GaveS.gaveQ {w : World} {q : List Pr} {e : Ending} {w' : World} (h : GaveS w q e w') : GaveQ w q e w' := by
  obtain ⟨A, n, c, h1, h2, h3⟩ := h
  exact ⟨A, n, c, h1, h2.arg, h3⟩
theorem lof_any (A : Option Addr) (n c : Nat) (l : List Pr) (w : World) (hl : Props w w.heap.size (.slice A n c) l) (hm : l.length ≤ 1000) {q : List Pr} (hq : ofL l = q) : Calls Try.prog 14 #[.slice A n c] w (GaveQ w q) := by
  subst hq
  exact (of_ok 1000 (by omega) A n c l w hl hm).mono fun e w' h => h.gaveQ
theorem lunion_any (A0 : Option Addr) (n0 c0 : Nat) (a : List Pr) (A : Option Addr) (n c : Nat) (l : List Pr) (w : World) (ha : Props w w.heap.size (.slice A0 n0 c0) a) (hl : Props w w.heap.size (.slice A n c) l) (hm : a.length ≤ 1000 ∧ l.length ≤ 1000) {q : List Pr} (hq : unionL a l = q) : Calls Try.prog 16 #[.slice A0 n0 c0, .slice A n c] w (GaveQ w q) := by
  subst hq
  exact (union_ok 1000 (by omega) (of_ok 1000 (by omega)) A0 n0 c0 a A n c l w ha hl hm).mono fun e w' h => h.gaveQ
end Go.Proofs.Ytckhhphchphmlaa
