/-
  DERIVED. GIVEN WITH THE SEED: THE CARDS: each row of YtfleebllabolgaaDoorRows.lean that lists a variable, with what it lists TIED to the program's text (the seventh form; the later family's looks); each row that meets fmt, with fmt's text TOLD by the authors' own Lean function (tested against real Go, not proved from fmt's source: count such statements apart). THE CARD IS WHAT COUNTS. Prove the row's statement (the work); the ties are given (YtfleebllabolgaaDoorTie.lean); close each card by the builder's one call (the guide's Derived/Test/ToyasCard.lean, 'card_holds'). Laid BY PROGRAM, IN A SANDBOX (cutbox-door.mjs). By AI agents, Wed Nov 11 2026. No macro, syntax, notation, axiom, sorry.
-/
import Derived.Test.YtfleebllabolgaaDoorRows
import GoSem.ClaimSeven
namespace Go.Proofs.YtfleebllabolgaaDoor
namespace Rows

/-- THE TIED CARD OF 'decklelaw04.CellChecks'. -/
def cellChecksCard : Claim7 := { stood := { row := cellChecksRow, standIns := [], harness := (true, "c895ce35efce76f48f72146019367c556fcc901f8086a47a119c53cc01518620"), looks := true }, kinds := [], alts := [], laidByText := true, laidKinds := [.data, .data, .data, .data, .pinned], laidTests := true, laidLooks := .later }
def CellChecksCardSaid : Prop := Claim7.holds Tryd.pinned (.plain (OpenSpec.ofChange cellChecksSpec)) cellChecksCard

/-- THE TIED CARD OF 'decklelaw04.CellOrder'. -/
def cellOrderCard : Claim7 := { stood := { row := cellOrderRow, standIns := [], harness := (true, "c895ce35efce76f48f72146019367c556fcc901f8086a47a119c53cc01518620"), looks := true }, kinds := [], alts := [], laidByText := true, laidKinds := [.data, .data, .data, .data, .pinned], laidTests := true, laidLooks := .later }
def CellOrderCardSaid : Prop := Claim7.holds Tryd.pinned (.plain (OpenSpec.ofChange cellOrderSpec)) cellOrderCard

/-- THE TIED CARD OF 'decklelaw04.CellFloats'. -/
def cellFloatsCard : Claim7 := { stood := { row := cellFloatsRow, standIns := [], harness := (true, "c895ce35efce76f48f72146019367c556fcc901f8086a47a119c53cc01518620"), looks := true }, kinds := [], alts := [], laidByText := true, laidKinds := [.data, .data, .data, .data, .pinned], laidTests := true, laidLooks := .later }
def CellFloatsCardSaid : Prop := Claim7.holds Tryd.pinned (.plain (OpenSpec.ofChange cellFloatsSpec)) cellFloatsCard

/-- THE TIED CARD OF 'decklelaw04.CellBack'. -/
def cellBackCard : Claim7 := { stood := { row := cellBackRow, standIns := [], harness := (true, "c895ce35efce76f48f72146019367c556fcc901f8086a47a119c53cc01518620"), looks := true }, kinds := [], alts := [], laidByText := true, laidKinds := [.data, .data, .data, .data, .sentinel, .sentinel, .pinned], laidTests := true, laidLooks := .later }
def CellBackCardSaid : Prop := Claim7.holds Tryd.pinned (.plain (OpenSpec.ofChange cellBackSpec)) cellBackCard

/-- THE TIED CARD OF 'decklelaw04.CellEdges'. -/
def cellEdgesCard : Claim7 := { stood := { row := cellEdgesRow, standIns := [], harness := (true, "c895ce35efce76f48f72146019367c556fcc901f8086a47a119c53cc01518620"), looks := true }, kinds := [], alts := [], laidByText := true, laidKinds := [.data, .data, .data, .data, .pinned], laidTests := true, laidLooks := .later }
def CellEdgesCardSaid : Prop := Claim7.holds Tryd.pinned (.plain (OpenSpec.ofChange cellEdgesSpec)) cellEdgesCard

/-- THE SECOND FORM's CARD OF 'decklelaw04.CellChecks'. -/
def cellChecksUptoCard : Claim7 := { stood := { row := cellChecksUptoRow, standIns := [], harness := (true, "c895ce35efce76f48f72146019367c556fcc901f8086a47a119c53cc01518620"), looks := true }, kinds := [], alts := [], laidByText := true, laidKinds := [.data, .data, .data, .data, .pinned], laidTests := true, laidLooks := .later }
def CellChecksUptoCardSaid : Prop := Claim7.holds Tryd.pinned (.plain (OpenSpec.upto cellChecksSpec)) cellChecksUptoCard

/-- THE SECOND FORM's CARD OF 'decklelaw04.CellOrder'. -/
def cellOrderUptoCard : Claim7 := { stood := { row := cellOrderUptoRow, standIns := [], harness := (true, "c895ce35efce76f48f72146019367c556fcc901f8086a47a119c53cc01518620"), looks := true }, kinds := [], alts := [], laidByText := true, laidKinds := [.data, .data, .data, .data, .pinned], laidTests := true, laidLooks := .later }
def CellOrderUptoCardSaid : Prop := Claim7.holds Tryd.pinned (.plain (OpenSpec.upto cellOrderSpec)) cellOrderUptoCard

/-- THE SECOND FORM's CARD OF 'decklelaw04.CellFloats'. -/
def cellFloatsUptoCard : Claim7 := { stood := { row := cellFloatsUptoRow, standIns := [], harness := (true, "c895ce35efce76f48f72146019367c556fcc901f8086a47a119c53cc01518620"), looks := true }, kinds := [], alts := [], laidByText := true, laidKinds := [.data, .data, .data, .data, .pinned], laidTests := true, laidLooks := .later }
def CellFloatsUptoCardSaid : Prop := Claim7.holds Tryd.pinned (.plain (OpenSpec.upto cellFloatsSpec)) cellFloatsUptoCard

/-- THE SECOND FORM's CARD OF 'decklelaw04.CellBack'. -/
def cellBackUptoCard : Claim7 := { stood := { row := cellBackUptoRow, standIns := [], harness := (true, "c895ce35efce76f48f72146019367c556fcc901f8086a47a119c53cc01518620"), looks := true }, kinds := [], alts := [], laidByText := true, laidKinds := [.data, .data, .data, .data, .sentinel, .sentinel, .pinned], laidTests := true, laidLooks := .later }
def CellBackUptoCardSaid : Prop := Claim7.holds Tryd.pinned (.plain (OpenSpec.upto cellBackSpec)) cellBackUptoCard

/-- THE SECOND FORM's CARD OF 'decklelaw04.CellEdges'. -/
def cellEdgesUptoCard : Claim7 := { stood := { row := cellEdgesUptoRow, standIns := [], harness := (true, "c895ce35efce76f48f72146019367c556fcc901f8086a47a119c53cc01518620"), looks := true }, kinds := [], alts := [], laidByText := true, laidKinds := [.data, .data, .data, .data, .pinned], laidTests := true, laidLooks := .later }
def CellEdgesUptoCardSaid : Prop := Claim7.holds Tryd.pinned (.plain (OpenSpec.upto cellEdgesSpec)) cellEdgesUptoCard
end Rows
end Go.Proofs.YtfleebllabolgaaDoor
