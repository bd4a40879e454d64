/-
  DERIVED. GIVEN WITH THE SEED: THE CARDS: each row of YtfnhlajcdlfbhaaDoorRows.lean that lists a variable, with what it lists TIED to the program's text (the seventh form; the later family's looks); each row that meets fmt, with fmt's text TOLD by the authors' own Lean function (tested against real Go, not proved from fmt's source: count such statements apart). THE CARD IS WHAT COUNTS. Prove the row's statement (the work); the ties are given (YtfnhlajcdlfbhaaDoorTie.lean); close each card by the builder's one call (the guide's Derived/Test/ToyasCard.lean, 'card_holds'). Laid BY PROGRAM, IN A SANDBOX (cutbox-door.mjs). By AI agents, Wed Nov 11 2026. No macro, syntax, notation, axiom, sorry.
-/
import Derived.Test.YtfnhlajcdlfbhaaDoorRows
import GoSem.ClaimSeven
namespace Go.Proofs.YtfnhlajcdlfbhaaDoor
namespace Rows

/-- THE TIED CARD OF 'lookoutlaw02.SatAdds'. -/
def satAddsCard : Claim7 := { stood := { row := satAddsRow, standIns := [], harness := (true, "15ec90fd61a673ba2c8e729567e3a179dc74383a0edf1738adf1f86e67d1d255"), looks := false }, kinds := [], alts := [], laidByText := true, laidKinds := [.data], laidTests := true, laidLooks := .later }
def SatAddsCardSaid : Prop := Claim7.holds Tryd.pinned (.plain (OpenSpec.ofChange satAddsSpec)) satAddsCard

/-- THE TIED CARD OF 'lookoutlaw02.SatSums'. -/
def satSumsCard : Claim7 := { stood := { row := satSumsRow, standIns := [], harness := (true, "15ec90fd61a673ba2c8e729567e3a179dc74383a0edf1738adf1f86e67d1d255"), looks := false }, kinds := [], alts := [], laidByText := true, laidKinds := [.data], laidTests := true, laidLooks := .later }
def SatSumsCardSaid : Prop := Claim7.holds Tryd.pinned (.plain (OpenSpec.ofChange satSumsSpec)) satSumsCard

/-- THE TIED CARD OF 'lookoutlaw02.SatSpans'. -/
def satSpansCard : Claim7 := { stood := { row := satSpansRow, standIns := [], harness := (true, "15ec90fd61a673ba2c8e729567e3a179dc74383a0edf1738adf1f86e67d1d255"), looks := false }, kinds := [], alts := [], laidByText := true, laidKinds := [.data, .data, .data, .data], laidTests := true, laidLooks := .later }
def SatSpansCardSaid : Prop := Claim7.holds Tryd.pinned (.plain (OpenSpec.ofChange satSpansSpec)) satSpansCard

/-- THE TIED CARD OF 'lookoutlaw02.SatOrder'. -/
def satOrderCard : Claim7 := { stood := { row := satOrderRow, standIns := [], harness := (true, "15ec90fd61a673ba2c8e729567e3a179dc74383a0edf1738adf1f86e67d1d255"), looks := false }, kinds := [], alts := [], laidByText := true, laidKinds := [.data], laidTests := true, laidLooks := .later }
def SatOrderCardSaid : Prop := Claim7.holds Tryd.pinned (.plain (OpenSpec.ofChange satOrderSpec)) satOrderCard

/-- THE TIED CARD OF 'lookoutlaw02.SatWindow'. -/
def satWindowCard : Claim7 := { stood := { row := satWindowRow, standIns := [], harness := (true, "15ec90fd61a673ba2c8e729567e3a179dc74383a0edf1738adf1f86e67d1d255"), looks := false }, kinds := [], alts := [], laidByText := true, laidKinds := [.data], laidTests := true, laidLooks := .later }
def SatWindowCardSaid : Prop := Claim7.holds Tryd.pinned (.plain (OpenSpec.ofChange satWindowSpec)) satWindowCard

/-- THE TIED CARD OF 'lookoutlaw02.SatMeets'. -/
def satMeetsCard : Claim7 := { stood := { row := satMeetsRow, standIns := [], harness := (true, "15ec90fd61a673ba2c8e729567e3a179dc74383a0edf1738adf1f86e67d1d255"), looks := false }, kinds := [], alts := [], laidByText := true, laidKinds := [.data], laidTests := true, laidLooks := .later }
def SatMeetsCardSaid : Prop := Claim7.holds Tryd.pinned (.plain (OpenSpec.ofChange satMeetsSpec)) satMeetsCard

/-- THE SECOND FORM's CARD OF 'lookoutlaw02.SatAdds'. -/
def satAddsUptoCard : Claim7 := { stood := { row := satAddsUptoRow, standIns := [], harness := (true, "15ec90fd61a673ba2c8e729567e3a179dc74383a0edf1738adf1f86e67d1d255"), looks := false }, kinds := [], alts := [], laidByText := true, laidKinds := [.data], laidTests := true, laidLooks := .later }
def SatAddsUptoCardSaid : Prop := Claim7.holds Tryd.pinned (.plain (OpenSpec.upto satAddsSpec)) satAddsUptoCard

/-- THE SECOND FORM's CARD OF 'lookoutlaw02.SatSums'. -/
def satSumsUptoCard : Claim7 := { stood := { row := satSumsUptoRow, standIns := [], harness := (true, "15ec90fd61a673ba2c8e729567e3a179dc74383a0edf1738adf1f86e67d1d255"), looks := false }, kinds := [], alts := [], laidByText := true, laidKinds := [.data], laidTests := true, laidLooks := .later }
def SatSumsUptoCardSaid : Prop := Claim7.holds Tryd.pinned (.plain (OpenSpec.upto satSumsSpec)) satSumsUptoCard

/-- THE SECOND FORM's CARD OF 'lookoutlaw02.SatSpans'. -/
def satSpansUptoCard : Claim7 := { stood := { row := satSpansUptoRow, standIns := [], harness := (true, "15ec90fd61a673ba2c8e729567e3a179dc74383a0edf1738adf1f86e67d1d255"), looks := false }, kinds := [], alts := [], laidByText := true, laidKinds := [.data, .data, .data, .data], laidTests := true, laidLooks := .later }
def SatSpansUptoCardSaid : Prop := Claim7.holds Tryd.pinned (.plain (OpenSpec.upto satSpansSpec)) satSpansUptoCard

/-- THE SECOND FORM's CARD OF 'lookoutlaw02.SatOrder'. -/
def satOrderUptoCard : Claim7 := { stood := { row := satOrderUptoRow, standIns := [], harness := (true, "15ec90fd61a673ba2c8e729567e3a179dc74383a0edf1738adf1f86e67d1d255"), looks := false }, kinds := [], alts := [], laidByText := true, laidKinds := [.data], laidTests := true, laidLooks := .later }
def SatOrderUptoCardSaid : Prop := Claim7.holds Tryd.pinned (.plain (OpenSpec.upto satOrderSpec)) satOrderUptoCard

/-- THE SECOND FORM's CARD OF 'lookoutlaw02.SatWindow'. -/
def satWindowUptoCard : Claim7 := { stood := { row := satWindowUptoRow, standIns := [], harness := (true, "15ec90fd61a673ba2c8e729567e3a179dc74383a0edf1738adf1f86e67d1d255"), looks := false }, kinds := [], alts := [], laidByText := true, laidKinds := [.data], laidTests := true, laidLooks := .later }
def SatWindowUptoCardSaid : Prop := Claim7.holds Tryd.pinned (.plain (OpenSpec.upto satWindowSpec)) satWindowUptoCard

/-- THE SECOND FORM's CARD OF 'lookoutlaw02.SatMeets'. -/
def satMeetsUptoCard : Claim7 := { stood := { row := satMeetsUptoRow, standIns := [], harness := (true, "15ec90fd61a673ba2c8e729567e3a179dc74383a0edf1738adf1f86e67d1d255"), looks := false }, kinds := [], alts := [], laidByText := true, laidKinds := [.data], laidTests := true, laidLooks := .later }
def SatMeetsUptoCardSaid : Prop := Claim7.holds Tryd.pinned (.plain (OpenSpec.upto satMeetsSpec)) satMeetsUptoCard
end Rows
end Go.Proofs.YtfnhlajcdlfbhaaDoor
