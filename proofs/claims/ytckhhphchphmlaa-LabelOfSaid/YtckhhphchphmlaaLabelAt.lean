/-
  Package label's contracts at texts that are given as such.
-/
import Derived.Test.YtckhhphchphmlaaLabel
namespace Go.Proofs.Ytckhhphchphmlaa
open Go.RowKit
set_option linter.unusedVariables false

theorem lname_s (s : ByteArray) (l : List UInt8) (w : World) (hs : s = mkB l) {q : Bool} (hq : nameL l = q) : Calls Try.prog 10 #[.string s] w fun e w' => e = .returned (.bool q) ∧ Below w.heap.size w w' := by
  subst hs; exact lname_any l w hq
theorem lholds_s (A : Option Addr) (n c : Nat) (l : List Pr) (s : ByteArray) (nm : List UInt8) (op u : Int) (w : World) (hs : s = mkB nm) (hl : Props w w.heap.size (.slice A n c) l) (hm : l.length ≤ 1000) {q : Bool} (hq : holdsL l nm op u = q) : Calls Try.prog 20 #[.slice A n c, .agg #[.string s, .int .i64 op, .int .i64 u]] w fun e w' => e = .returned (.bool q) ∧ Below w.heap.size w w' := by
  subst hs; exact lholds_any A n c l nm op u w hl hm hq
end Go.Proofs.Ytckhhphchphmlaa
