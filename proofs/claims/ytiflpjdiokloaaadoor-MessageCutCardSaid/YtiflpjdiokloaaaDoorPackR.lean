/-
  Texts of the proofs, put together: LaidOne, LaidCrc.
-/
import Derived.Test.YtiflpjdiokloaaaDoorTie
import Derived.Test.YtiflpjdiokloaaaDoorArgs
import Derived.LaidMore
import Derived.LaidHandle
import Derived.LaidSub
import Derived.Lib.LaidTab
import Derived.Lib.SmallJoins
import Derived.Stop.Joined
import Derived.Test.YtiflpjdiokloaaaDoorPackO
/-
  Of no layer: one listed variable of a row alone.
-/
namespace Go.Proofs.YtiflpjdiokloaaaDoor
open Go.ChangeShapes Go.WideShapes Go.ChangeAt Go.RowKit Go.Joins
set_option linter.unusedVariables false

theorem laid_one {l : List (String × DataW Unit)} {W : World} (name : String) (d : DataW Unit) (h : laidMetH Tryd.prog l W) (he : l.filter (fun x => x.1 == name) = [(name, d)]) (hn : ([(name, d)].all fun x : String × DataW Unit => x.2.handleName?.isNone) = true) : laidMet Tryd.prog [(name, d)] W := by
  have k := h.filter (fun x => x.1 == name)
  rw [he] at k
  rwa [MakeChecks.laidMetH_plain _ _ _ hn] at k
end Go.Proofs.YtiflpjdiokloaaaDoor
/-
  What the rows' listed variable gives the walks: crc's table.
-/
namespace Go.Proofs.YtiflpjdiokloaaaDoor
open Go.ChangeShapes Go.WideShapes Go.ChangeAt Go.RowKit Go.Joins
set_option linter.unusedVariables false

theorem tTab : (Tryd.prog.globals[1]?).map (·.type) = some 128 := by kernel_rfl
theorem tabsOf_laid {l : List (String × DataW Unit)} {W : World} (hL : laidMetH Tryd.prog l W) (he : l.filter (fun x => x.1 == "lookout/crc.turns") = [("lookout/crc.turns", Lib.tabData .u32 crcTab)] := by rfl) : Tabs W :=
  Lib.tabBelow_of_tabIs (Lib.tabIs_of_head gTab tTab Tryd.underlying128 Tryd.underlying102 (by kernel_rfl) (by kernel_rfl) (laid_one _ _ hL he rfl))
end Go.Proofs.YtiflpjdiokloaaaDoor
