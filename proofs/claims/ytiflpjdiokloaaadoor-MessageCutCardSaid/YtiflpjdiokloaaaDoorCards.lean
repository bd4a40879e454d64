/-
  DERIVED. GIVEN WITH THE SEED: THE CARDS: each row of YtiflpjdiokloaaaDoorRows.lean that lists a variable, with what it lists TIED to the program's text (the seventh form; the later family's looks); each row that meets fmt, with fmt's text TOLD by the authors' own Lean function (tested against real Go, not proved from fmt's source: count such statements apart). THE CARD IS WHAT COUNTS. Prove the row's statement (the work); the ties are given (YtiflpjdiokloaaaDoorTie.lean); close each card by the builder's one call (the guide's Derived/Test/ToyasCard.lean, 'card_holds'). Laid BY PROGRAM, IN A SANDBOX (cutbox-door.mjs). By AI agents, Wed Nov 11 2026. No macro, syntax, notation, axiom, sorry.
-/
import Derived.Test.YtiflpjdiokloaaaDoorRows
import GoSem.ClaimSeven
namespace Go.Proofs.YtiflpjdiokloaaaDoor
namespace Rows

/-- THE TIED CARD OF 'lookoutlaw06.MessagePuts'. -/
def messagePutsCard : Claim7 := { stood := { row := messagePutsRow, standIns := [], harness := (true, "9a9efb37d5427add2ff03846fcbdc8ac8219048d7f2680ca5c3f322d13b9e2d6"), looks := false }, kinds := [], alts := [], laidByText := true, laidKinds := [.data], laidTests := true, laidLooks := .later }
def MessagePutsCardSaid : Prop := Claim7.holds Tryd.pinned (.plain (OpenSpec.ofChange messagePutsSpec)) messagePutsCard

/-- THE TIED CARD OF 'lookoutlaw06.MessageTakes'. -/
def messageTakesCard : Claim7 := { stood := { row := messageTakesRow, standIns := [], harness := (true, "9a9efb37d5427add2ff03846fcbdc8ac8219048d7f2680ca5c3f322d13b9e2d6"), looks := false }, kinds := [], alts := [], laidByText := true, laidKinds := [.data], laidTests := true, laidLooks := .later }
def MessageTakesCardSaid : Prop := Claim7.holds Tryd.pinned (.plain (OpenSpec.ofChange messageTakesSpec)) messageTakesCard

/-- THE TIED CARD OF 'lookoutlaw06.MessageBack'. -/
def messageBackCard : Claim7 := { stood := { row := messageBackRow, standIns := [], harness := (true, "9a9efb37d5427add2ff03846fcbdc8ac8219048d7f2680ca5c3f322d13b9e2d6"), looks := false }, kinds := [], alts := [], laidByText := true, laidKinds := [.data], laidTests := true, laidLooks := .later }
def MessageBackCardSaid : Prop := Claim7.holds Tryd.pinned (.plain (OpenSpec.ofChange messageBackSpec)) messageBackCard

/-- THE TIED CARD OF 'lookoutlaw06.MessageFrames'. -/
def messageFramesCard : Claim7 := { stood := { row := messageFramesRow, standIns := [], harness := (true, "9a9efb37d5427add2ff03846fcbdc8ac8219048d7f2680ca5c3f322d13b9e2d6"), looks := false }, kinds := [], alts := [], laidByText := true, laidKinds := [.data], laidTests := true, laidLooks := .later }
def MessageFramesCardSaid : Prop := Claim7.holds Tryd.pinned (.plain (OpenSpec.ofChange messageFramesSpec)) messageFramesCard

/-- THE TIED CARD OF 'lookoutlaw06.MessageCut'. -/
def messageCutCard : Claim7 := { stood := { row := messageCutRow, standIns := [], harness := (true, "9a9efb37d5427add2ff03846fcbdc8ac8219048d7f2680ca5c3f322d13b9e2d6"), looks := false }, kinds := [], alts := [], laidByText := true, laidKinds := [.data], laidTests := true, laidLooks := .later }
def MessageCutCardSaid : Prop := Claim7.holds Tryd.pinned (.plain (OpenSpec.ofChange messageCutSpec)) messageCutCard

/-- THE SECOND FORM's CARD OF 'lookoutlaw06.MessagePuts'. -/
def messagePutsUptoCard : Claim7 := { stood := { row := messagePutsUptoRow, standIns := [], harness := (true, "9a9efb37d5427add2ff03846fcbdc8ac8219048d7f2680ca5c3f322d13b9e2d6"), looks := false }, kinds := [], alts := [], laidByText := true, laidKinds := [.data], laidTests := true, laidLooks := .later }
def MessagePutsUptoCardSaid : Prop := Claim7.holds Tryd.pinned (.plain (OpenSpec.upto messagePutsSpec)) messagePutsUptoCard

/-- THE SECOND FORM's CARD OF 'lookoutlaw06.MessageTakes'. -/
def messageTakesUptoCard : Claim7 := { stood := { row := messageTakesUptoRow, standIns := [], harness := (true, "9a9efb37d5427add2ff03846fcbdc8ac8219048d7f2680ca5c3f322d13b9e2d6"), looks := false }, kinds := [], alts := [], laidByText := true, laidKinds := [.data], laidTests := true, laidLooks := .later }
def MessageTakesUptoCardSaid : Prop := Claim7.holds Tryd.pinned (.plain (OpenSpec.upto messageTakesSpec)) messageTakesUptoCard

/-- THE SECOND FORM's CARD OF 'lookoutlaw06.MessageBack'. -/
def messageBackUptoCard : Claim7 := { stood := { row := messageBackUptoRow, standIns := [], harness := (true, "9a9efb37d5427add2ff03846fcbdc8ac8219048d7f2680ca5c3f322d13b9e2d6"), looks := false }, kinds := [], alts := [], laidByText := true, laidKinds := [.data], laidTests := true, laidLooks := .later }
def MessageBackUptoCardSaid : Prop := Claim7.holds Tryd.pinned (.plain (OpenSpec.upto messageBackSpec)) messageBackUptoCard

/-- THE SECOND FORM's CARD OF 'lookoutlaw06.MessageFrames'. -/
def messageFramesUptoCard : Claim7 := { stood := { row := messageFramesUptoRow, standIns := [], harness := (true, "9a9efb37d5427add2ff03846fcbdc8ac8219048d7f2680ca5c3f322d13b9e2d6"), looks := false }, kinds := [], alts := [], laidByText := true, laidKinds := [.data], laidTests := true, laidLooks := .later }
def MessageFramesUptoCardSaid : Prop := Claim7.holds Tryd.pinned (.plain (OpenSpec.upto messageFramesSpec)) messageFramesUptoCard

/-- THE SECOND FORM's CARD OF 'lookoutlaw06.MessageCut'. -/
def messageCutUptoCard : Claim7 := { stood := { row := messageCutUptoRow, standIns := [], harness := (true, "9a9efb37d5427add2ff03846fcbdc8ac8219048d7f2680ca5c3f322d13b9e2d6"), looks := false }, kinds := [], alts := [], laidByText := true, laidKinds := [.data], laidTests := true, laidLooks := .later }
def MessageCutUptoCardSaid : Prop := Claim7.holds Tryd.pinned (.plain (OpenSpec.upto messageCutSpec)) messageCutUptoCard
end Rows
end Go.Proofs.YtiflpjdiokloaaaDoor
