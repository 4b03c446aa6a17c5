/-
  DERIVED. GIVEN WITH THE SEED: THE CARDS: each row of YtmbpdpcinhhclaaGreatDoorRows.lean that lists a variable, with what it lists TIED to the program's text (the seventh form; the later family's looks); each row that meets fmt, with fmt's text TOLD by the authors' own Lean function (tested against real Go, not proved from fmt's source: count such statements apart). THE CARD IS WHAT COUNTS. Prove the row's statement (the work); the ties are given (YtmbpdpcinhhclaaGreatDoorTie.lean); close each card by the builder's one call (the guide's Derived/Test/ToyasCard.lean, 'card_holds'). Laid BY PROGRAM, IN A SANDBOX (cutbox-door.mjs). By AI agents, Wed Nov 11 2026. No macro, syntax, notation, axiom, sorry.
-/
import Derived.Test.YtmbpdpcinhhclaaGreatDoorRows
import GoSem.ClaimSeven
namespace Go.Proofs.YtmbpdpcinhhclaaGreatDoor
namespace Rows

/-- THE TIED CARD OF 'decklelaw13.TraceEncodes'. -/
def traceEncodesCard : Claim7 := { stood := { row := traceEncodesRow, standIns := [], harness := (true, "860d7a5bbc4c045ba1f4128dc63cb9380c8663be99aab11419dd225e4d76abdc"), looks := true }, kinds := [], alts := [], laidByText := true, laidKinds := [.data, .data, .pinned], laidTests := true, laidLooks := .later }
def TraceEncodesCardSaid : Prop := Claim7.holds Tryz.pinned (.plain (OpenSpec.ofChange traceEncodesSpec)) traceEncodesCard

/-- THE TIED CARD OF 'decklelaw13.TraceDecodes'. -/
def traceDecodesCard : Claim7 := { stood := { row := traceDecodesRow, standIns := [], harness := (true, "860d7a5bbc4c045ba1f4128dc63cb9380c8663be99aab11419dd225e4d76abdc"), looks := true }, kinds := [], alts := [], laidByText := true, laidKinds := [.data, .data, .pinned], laidTests := true, laidLooks := .later }
def TraceDecodesCardSaid : Prop := Claim7.holds Tryz.pinned (.plain (OpenSpec.ofChange traceDecodesSpec)) traceDecodesCard

/-- THE TIED CARD OF 'decklelaw13.TraceBack'. -/
def traceBackCard : Claim7 := { stood := { row := traceBackRow, standIns := [], harness := (true, "860d7a5bbc4c045ba1f4128dc63cb9380c8663be99aab11419dd225e4d76abdc"), looks := true }, kinds := [], alts := [], laidByText := true, laidKinds := [.data, .data, .pinned], laidTests := true, laidLooks := .later }
def TraceBackCardSaid : Prop := Claim7.holds Tryz.pinned (.plain (OpenSpec.ofChange traceBackSpec)) traceBackCard

/-- THE TIED CARD OF 'decklelaw13.TraceOne'. -/
def traceOneCard : Claim7 := { stood := { row := traceOneRow, standIns := [], harness := (true, "860d7a5bbc4c045ba1f4128dc63cb9380c8663be99aab11419dd225e4d76abdc"), looks := true }, kinds := [], alts := [], laidByText := true, laidKinds := [.data, .data, .pinned], laidTests := true, laidLooks := .later }
def TraceOneCardSaid : Prop := Claim7.holds Tryz.pinned (.plain (OpenSpec.ofChange traceOneSpec)) traceOneCard

/-- THE TIED CARD OF 'decklelaw13.TraceMarks'. -/
def traceMarksCard : Claim7 := { stood := { row := traceMarksRow, standIns := [], harness := (true, "860d7a5bbc4c045ba1f4128dc63cb9380c8663be99aab11419dd225e4d76abdc"), looks := true }, kinds := [], alts := [], laidByText := true, laidKinds := [.data, .data, .pinned], laidTests := true, laidLooks := .later }
def TraceMarksCardSaid : Prop := Claim7.holds Tryz.pinned (.plain (OpenSpec.ofChange traceMarksSpec)) traceMarksCard

/-- THE TIED CARD OF 'decklelaw13.TraceTurns'. -/
def traceTurnsCard : Claim7 := { stood := { row := traceTurnsRow, standIns := [], harness := (true, "860d7a5bbc4c045ba1f4128dc63cb9380c8663be99aab11419dd225e4d76abdc"), looks := true }, kinds := [], alts := [], laidByText := true, laidKinds := [.data, .data, .pinned], laidTests := true, laidLooks := .later }
def TraceTurnsCardSaid : Prop := Claim7.holds Tryz.pinned (.plain (OpenSpec.ofChange traceTurnsSpec)) traceTurnsCard

/-- THE TIED CARD OF 'decklelaw13.TraceViews'. -/
def traceViewsCard : Claim7 := { stood := { row := traceViewsRow, standIns := [], harness := (true, "860d7a5bbc4c045ba1f4128dc63cb9380c8663be99aab11419dd225e4d76abdc"), looks := true }, kinds := [], alts := [], laidByText := true, laidKinds := [.data, .data, .pinned], laidTests := true, laidLooks := .later }
def TraceViewsCardSaid : Prop := Claim7.holds Tryz.pinned (.plain (OpenSpec.ofChange traceViewsSpec)) traceViewsCard

/-- THE TIED CARD OF 'decklelaw13.TraceCuts'. -/
def traceCutsCard : Claim7 := { stood := { row := traceCutsRow, standIns := [], harness := (true, "860d7a5bbc4c045ba1f4128dc63cb9380c8663be99aab11419dd225e4d76abdc"), looks := true }, kinds := [], alts := [], laidByText := true, laidKinds := [.data, .data, .pinned], laidTests := true, laidLooks := .later }
def TraceCutsCardSaid : Prop := Claim7.holds Tryz.pinned (.plain (OpenSpec.ofChange traceCutsSpec)) traceCutsCard

/-- THE TIED CARD OF 'decklelaw13.TraceSwaps'. -/
def traceSwapsCard : Claim7 := { stood := { row := traceSwapsRow, standIns := [], harness := (true, "860d7a5bbc4c045ba1f4128dc63cb9380c8663be99aab11419dd225e4d76abdc"), looks := true }, kinds := [], alts := [], laidByText := true, laidKinds := [.data, .data, .pinned], laidTests := true, laidLooks := .later }
def TraceSwapsCardSaid : Prop := Claim7.holds Tryz.pinned (.plain (OpenSpec.ofChange traceSwapsSpec)) traceSwapsCard

/-- THE SECOND FORM's CARD OF 'decklelaw13.TraceEncodes'. -/
def traceEncodesUptoCard : Claim7 := { stood := { row := traceEncodesUptoRow, standIns := [], harness := (true, "860d7a5bbc4c045ba1f4128dc63cb9380c8663be99aab11419dd225e4d76abdc"), looks := true }, kinds := [], alts := [], laidByText := true, laidKinds := [.data, .data, .pinned], laidTests := true, laidLooks := .later }
def TraceEncodesUptoCardSaid : Prop := Claim7.holds Tryz.pinned (.plain (OpenSpec.upto traceEncodesSpec)) traceEncodesUptoCard

/-- THE SECOND FORM's CARD OF 'decklelaw13.TraceDecodes'. -/
def traceDecodesUptoCard : Claim7 := { stood := { row := traceDecodesUptoRow, standIns := [], harness := (true, "860d7a5bbc4c045ba1f4128dc63cb9380c8663be99aab11419dd225e4d76abdc"), looks := true }, kinds := [], alts := [], laidByText := true, laidKinds := [.data, .data, .pinned], laidTests := true, laidLooks := .later }
def TraceDecodesUptoCardSaid : Prop := Claim7.holds Tryz.pinned (.plain (OpenSpec.upto traceDecodesSpec)) traceDecodesUptoCard

/-- THE SECOND FORM's CARD OF 'decklelaw13.TraceBack'. -/
def traceBackUptoCard : Claim7 := { stood := { row := traceBackUptoRow, standIns := [], harness := (true, "860d7a5bbc4c045ba1f4128dc63cb9380c8663be99aab11419dd225e4d76abdc"), looks := true }, kinds := [], alts := [], laidByText := true, laidKinds := [.data, .data, .pinned], laidTests := true, laidLooks := .later }
def TraceBackUptoCardSaid : Prop := Claim7.holds Tryz.pinned (.plain (OpenSpec.upto traceBackSpec)) traceBackUptoCard

/-- THE SECOND FORM's CARD OF 'decklelaw13.TraceOne'. -/
def traceOneUptoCard : Claim7 := { stood := { row := traceOneUptoRow, standIns := [], harness := (true, "860d7a5bbc4c045ba1f4128dc63cb9380c8663be99aab11419dd225e4d76abdc"), looks := true }, kinds := [], alts := [], laidByText := true, laidKinds := [.data, .data, .pinned], laidTests := true, laidLooks := .later }
def TraceOneUptoCardSaid : Prop := Claim7.holds Tryz.pinned (.plain (OpenSpec.upto traceOneSpec)) traceOneUptoCard

/-- THE SECOND FORM's CARD OF 'decklelaw13.TraceMarks'. -/
def traceMarksUptoCard : Claim7 := { stood := { row := traceMarksUptoRow, standIns := [], harness := (true, "860d7a5bbc4c045ba1f4128dc63cb9380c8663be99aab11419dd225e4d76abdc"), looks := true }, kinds := [], alts := [], laidByText := true, laidKinds := [.data, .data, .pinned], laidTests := true, laidLooks := .later }
def TraceMarksUptoCardSaid : Prop := Claim7.holds Tryz.pinned (.plain (OpenSpec.upto traceMarksSpec)) traceMarksUptoCard

/-- THE SECOND FORM's CARD OF 'decklelaw13.TraceTurns'. -/
def traceTurnsUptoCard : Claim7 := { stood := { row := traceTurnsUptoRow, standIns := [], harness := (true, "860d7a5bbc4c045ba1f4128dc63cb9380c8663be99aab11419dd225e4d76abdc"), looks := true }, kinds := [], alts := [], laidByText := true, laidKinds := [.data, .data, .pinned], laidTests := true, laidLooks := .later }
def TraceTurnsUptoCardSaid : Prop := Claim7.holds Tryz.pinned (.plain (OpenSpec.upto traceTurnsSpec)) traceTurnsUptoCard

/-- THE SECOND FORM's CARD OF 'decklelaw13.TraceViews'. -/
def traceViewsUptoCard : Claim7 := { stood := { row := traceViewsUptoRow, standIns := [], harness := (true, "860d7a5bbc4c045ba1f4128dc63cb9380c8663be99aab11419dd225e4d76abdc"), looks := true }, kinds := [], alts := [], laidByText := true, laidKinds := [.data, .data, .pinned], laidTests := true, laidLooks := .later }
def TraceViewsUptoCardSaid : Prop := Claim7.holds Tryz.pinned (.plain (OpenSpec.upto traceViewsSpec)) traceViewsUptoCard

/-- THE SECOND FORM's CARD OF 'decklelaw13.TraceCuts'. -/
def traceCutsUptoCard : Claim7 := { stood := { row := traceCutsUptoRow, standIns := [], harness := (true, "860d7a5bbc4c045ba1f4128dc63cb9380c8663be99aab11419dd225e4d76abdc"), looks := true }, kinds := [], alts := [], laidByText := true, laidKinds := [.data, .data, .pinned], laidTests := true, laidLooks := .later }
def TraceCutsUptoCardSaid : Prop := Claim7.holds Tryz.pinned (.plain (OpenSpec.upto traceCutsSpec)) traceCutsUptoCard

/-- THE SECOND FORM's CARD OF 'decklelaw13.TraceSwaps'. -/
def traceSwapsUptoCard : Claim7 := { stood := { row := traceSwapsUptoRow, standIns := [], harness := (true, "860d7a5bbc4c045ba1f4128dc63cb9380c8663be99aab11419dd225e4d76abdc"), looks := true }, kinds := [], alts := [], laidByText := true, laidKinds := [.data, .data, .pinned], laidTests := true, laidLooks := .later }
def TraceSwapsUptoCardSaid : Prop := Claim7.holds Tryz.pinned (.plain (OpenSpec.upto traceSwapsSpec)) traceSwapsUptoCard
end Rows
end Go.Proofs.YtmbpdpcinhhclaaGreatDoor
