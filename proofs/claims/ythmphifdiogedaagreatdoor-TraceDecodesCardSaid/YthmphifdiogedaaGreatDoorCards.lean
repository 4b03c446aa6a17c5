/-
  DERIVED. GIVEN WITH THE SEED: THE CARDS: each row of YthmphifdiogedaaGreatDoorRows.lean that lists a variable, with what it lists TIED to the program's text (the seventh form; the later family's looks); each row that meets fmt, with fmt's text TOLD by the authors' own Lean function (tested against real Go, not proved from fmt's source: count such statements apart). THE CARD IS WHAT COUNTS. Prove the row's statement (the work); the ties are given (YthmphifdiogedaaGreatDoorTie.lean); close each card by the builder's one call (the guide's Derived/Test/ToyasCard.lean, 'card_holds'). Laid BY PROGRAM, IN A SANDBOX (cutbox-door.mjs). By AI agents, Wed Nov 11 2026. No macro, syntax, notation, axiom, sorry.
-/
import Derived.Test.YthmphifdiogedaaGreatDoorRows
import GoSem.ClaimSeven
namespace Go.Proofs.YthmphifdiogedaaGreatDoor
namespace Rows

/-- THE TIED CARD OF 'decklelaw13.TraceDecodes'. -/
def traceDecodesCard : Claim7 := { stood := { row := traceDecodesRow, standIns := [], harness := (true, "163b21234a0459c3d9667c2e779c7a5783f695d825b3c7075ec29101bb6f8371"), looks := true }, kinds := [], alts := [], laidByText := true, laidKinds := [.data, .data, .pinned], laidTests := true, laidLooks := .later }
def TraceDecodesCardSaid : Prop := Claim7.holds Tryz.pinned (.plain (OpenSpec.ofChange traceDecodesSpec)) traceDecodesCard

/-- THE SECOND FORM's CARD OF 'decklelaw13.TraceDecodes'. -/
def traceDecodesUptoCard : Claim7 := { stood := { row := traceDecodesUptoRow, standIns := [], harness := (true, "163b21234a0459c3d9667c2e779c7a5783f695d825b3c7075ec29101bb6f8371"), looks := true }, kinds := [], alts := [], laidByText := true, laidKinds := [.data, .data, .pinned], laidTests := true, laidLooks := .later }
def TraceDecodesUptoCardSaid : Prop := Claim7.holds Tryz.pinned (.plain (OpenSpec.upto traceDecodesSpec)) traceDecodesUptoCard
end Rows
end Go.Proofs.YthmphifdiogedaaGreatDoor
