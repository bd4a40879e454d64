/-
  Of no layer: one listed variable of a row alone.
-/
import Derived.Test.YtpgainalimmecaaDoorTie
import Derived.Test.YtpgainalimmecaaDoorArgs
import Derived.LaidMore
import Derived.LaidHandle
import Derived.LaidSub
import Derived.Lib.LaidTab
import Derived.Lib.SmallJoins
import Derived.Stop.Joined
namespace Go.Proofs.YtpgainalimmecaaDoor
open Go.ChangeShapes Go.WideShapes Go.ChangeAt Go.RowKit Go.Joins
set_option linter.unusedVariables false

theorem laid_one {l : List (String × DataW Unit)} {W : World} (name : String) (d : DataW Unit) (h : laidMetH Tryd.prog l W) (he : l.filter (fun x => x.1 == name) = [(name, d)]) (hn : ([(name, d)].all fun x : String × DataW Unit => x.2.handleName?.isNone) = true) : laidMet Tryd.prog [(name, d)] W := by
  have k := h.filter (fun x => x.1 == name)
  rw [he] at k
  rwa [MakeChecks.laidMetH_plain _ _ _ hn] at k
end Go.Proofs.YtpgainalimmecaaDoor
