/-
  What the rows' listed variable gives the walks: crc's table.
-/
import Derived.Test.YtpgainalimmecaaDoorLaidOne
import Derived.Test.YtpgainalimmecaaDoorCrcSum
namespace Go.Proofs.YtpgainalimmecaaDoor
open Go.ChangeShapes Go.WideShapes Go.ChangeAt Go.RowKit Go.Joins
set_option linter.unusedVariables false

theorem tTab : (Tryd.prog.globals[0]?).map (·.type) = some 86 := by kernel_rfl
theorem tabsOf_laid {l : List (String × DataW Unit)} {W : World} (hL : laidMetH Tryd.prog l W) (he : l.filter (fun x => x.1 == "lookout/crc.turns") = [("lookout/crc.turns", Lib.tabData .u32 crcTab)] := by rfl) : Tabs W :=
  Lib.tabBelow_of_tabIs (Lib.tabIs_of_head gTab tTab Tryd.underlying86 Tryd.underlying70 (by kernel_rfl) (by kernel_rfl) (laid_one _ _ hL he rfl))
end Go.Proofs.YtpgainalimmecaaDoor
