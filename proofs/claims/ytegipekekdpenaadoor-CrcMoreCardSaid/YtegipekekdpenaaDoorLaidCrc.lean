/-
  What the rows' listed variable gives the walks: crc's table.
-/
import Derived.Test.YtegipekekdpenaaDoorLaidOne
import Derived.Test.YtegipekekdpenaaDoorCrcSum
namespace Go.Proofs.YtegipekekdpenaaDoor
open Go.ChangeShapes Go.WideShapes Go.ChangeAt Go.RowKit Go.Joins
set_option linter.unusedVariables false

theorem tTab : (Tryd.prog.globals[0]?).map (·.type) = some 44 := by kernel_rfl
theorem tabsOf_laid {l : List (String × DataW Unit)} {W : World} (hL : laidMetH Tryd.prog l W) (he : l.filter (fun x => x.1 == "lookout/crc.turns") = [("lookout/crc.turns", Lib.tabData .u32 crcTab)] := by rfl) : Tabs W :=
  Lib.tabBelow_of_tabIs (Lib.tabIs_of_head gTab tTab Tryd.underlying44 Tryd.underlying22 (by kernel_rfl) (by kernel_rfl) (laid_one _ _ hL he rfl))
end Go.Proofs.YtegipekekdpenaaDoor
