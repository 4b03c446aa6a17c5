/-
  DERIVED. GIVEN WITH THE SEED: THE CARDS: each row of YtccclfpngdjmjaaDoorRows.lean that lists a variable, with what it lists TIED to the program's text (the seventh form; the later family's looks); each row that meets fmt, with fmt's text TOLD by the authors' own Lean function (tested against real Go, not proved from fmt's source: count such statements apart). THE CARD IS WHAT COUNTS. Prove the row's statement (the work); the ties are given (YtccclfpngdjmjaaDoorTie.lean); close each card by the builder's one call (the guide's Derived/Test/ToyasCard.lean, 'card_holds'). Laid BY PROGRAM, IN A SANDBOX (cutbox-door.mjs). By AI agents, Wed Nov 11 2026. No macro, syntax, notation, axiom, sorry.
-/
import Derived.Test.YtccclfpngdjmjaaDoorRows
import GoSem.ClaimSeven
namespace Go.Proofs.YtccclfpngdjmjaaDoor
namespace Rows

/-- THE TIED CARD OF 'decklelaw09.ColumnWrites'. -/
def columnWritesCard : Claim7 := { stood := { row := columnWritesRow, standIns := [], harness := (true, "c6d7bf3a8a5e97dcc5e2b24d713ec85c3776c600187fb5e67dd209e5ece004ff"), looks := true }, kinds := [], alts := [], laidByText := true, laidKinds := [.data, .pinned], laidTests := true, laidLooks := .later }
def ColumnWritesCardSaid : Prop := Claim7.holds Tryd.pinned (.plain (OpenSpec.ofChange columnWritesSpec)) columnWritesCard

/-- THE TIED CARD OF 'decklelaw09.ColumnReads'. -/
def columnReadsCard : Claim7 := { stood := { row := columnReadsRow, standIns := [], harness := (true, "c6d7bf3a8a5e97dcc5e2b24d713ec85c3776c600187fb5e67dd209e5ece004ff"), looks := true }, kinds := [], alts := [], laidByText := true, laidKinds := [.data, .pinned], laidTests := true, laidLooks := .later }
def ColumnReadsCardSaid : Prop := Claim7.holds Tryd.pinned (.plain (OpenSpec.ofChange columnReadsSpec)) columnReadsCard

/-- THE TIED CARD OF 'decklelaw09.ColumnShared'. -/
def columnSharedCard : Claim7 := { stood := { row := columnSharedRow, standIns := [], harness := (true, "c6d7bf3a8a5e97dcc5e2b24d713ec85c3776c600187fb5e67dd209e5ece004ff"), looks := true }, kinds := [], alts := [], laidByText := true, laidKinds := [.data, .pinned], laidTests := true, laidLooks := .later }
def ColumnSharedCardSaid : Prop := Claim7.holds Tryd.pinned (.plain (OpenSpec.ofChange columnSharedSpec)) columnSharedCard

/-- THE TIED CARD OF 'decklelaw09.ColumnBack'. -/
def columnBackCard : Claim7 := { stood := { row := columnBackRow, standIns := [], harness := (true, "c6d7bf3a8a5e97dcc5e2b24d713ec85c3776c600187fb5e67dd209e5ece004ff"), looks := true }, kinds := [], alts := [], laidByText := true, laidKinds := [.data, .pinned], laidTests := true, laidLooks := .later }
def ColumnBackCardSaid : Prop := Claim7.holds Tryd.pinned (.plain (OpenSpec.ofChange columnBackSpec)) columnBackCard

/-- THE TIED CARD OF 'decklelaw09.ColumnOne'. -/
def columnOneCard : Claim7 := { stood := { row := columnOneRow, standIns := [], harness := (true, "c6d7bf3a8a5e97dcc5e2b24d713ec85c3776c600187fb5e67dd209e5ece004ff"), looks := true }, kinds := [], alts := [], laidByText := true, laidKinds := [.data, .pinned], laidTests := true, laidLooks := .later }
def ColumnOneCardSaid : Prop := Claim7.holds Tryd.pinned (.plain (OpenSpec.ofChange columnOneSpec)) columnOneCard

/-- THE TIED CARD OF 'decklelaw09.ColumnTwo'. -/
def columnTwoCard : Claim7 := { stood := { row := columnTwoRow, standIns := [], harness := (true, "c6d7bf3a8a5e97dcc5e2b24d713ec85c3776c600187fb5e67dd209e5ece004ff"), looks := true }, kinds := [], alts := [], laidByText := true, laidKinds := [.data, .pinned], laidTests := true, laidLooks := .later }
def ColumnTwoCardSaid : Prop := Claim7.holds Tryd.pinned (.plain (OpenSpec.ofChange columnTwoSpec)) columnTwoCard

/-- THE TIED CARD OF 'decklelaw09.ColumnSteps'. -/
def columnStepsCard : Claim7 := { stood := { row := columnStepsRow, standIns := [], harness := (true, "c6d7bf3a8a5e97dcc5e2b24d713ec85c3776c600187fb5e67dd209e5ece004ff"), looks := true }, kinds := [], alts := [], laidByText := true, laidKinds := [.data, .pinned], laidTests := true, laidLooks := .later }
def ColumnStepsCardSaid : Prop := Claim7.holds Tryd.pinned (.plain (OpenSpec.ofChange columnStepsSpec)) columnStepsCard

/-- THE TIED CARD OF 'decklelaw09.ColumnGreatest'. -/
def columnGreatestCard : Claim7 := { stood := { row := columnGreatestRow, standIns := [], harness := (true, "c6d7bf3a8a5e97dcc5e2b24d713ec85c3776c600187fb5e67dd209e5ece004ff"), looks := true }, kinds := [], alts := [], laidByText := true, laidKinds := [.data, .pinned], laidTests := true, laidLooks := .later }
def ColumnGreatestCardSaid : Prop := Claim7.holds Tryd.pinned (.plain (OpenSpec.ofChange columnGreatestSpec)) columnGreatestCard

/-- THE SECOND FORM's CARD OF 'decklelaw09.ColumnWrites'. -/
def columnWritesUptoCard : Claim7 := { stood := { row := columnWritesUptoRow, standIns := [], harness := (true, "c6d7bf3a8a5e97dcc5e2b24d713ec85c3776c600187fb5e67dd209e5ece004ff"), looks := true }, kinds := [], alts := [], laidByText := true, laidKinds := [.data, .pinned], laidTests := true, laidLooks := .later }
def ColumnWritesUptoCardSaid : Prop := Claim7.holds Tryd.pinned (.plain (OpenSpec.upto columnWritesSpec)) columnWritesUptoCard

/-- THE SECOND FORM's CARD OF 'decklelaw09.ColumnReads'. -/
def columnReadsUptoCard : Claim7 := { stood := { row := columnReadsUptoRow, standIns := [], harness := (true, "c6d7bf3a8a5e97dcc5e2b24d713ec85c3776c600187fb5e67dd209e5ece004ff"), looks := true }, kinds := [], alts := [], laidByText := true, laidKinds := [.data, .pinned], laidTests := true, laidLooks := .later }
def ColumnReadsUptoCardSaid : Prop := Claim7.holds Tryd.pinned (.plain (OpenSpec.upto columnReadsSpec)) columnReadsUptoCard

/-- THE SECOND FORM's CARD OF 'decklelaw09.ColumnShared'. -/
def columnSharedUptoCard : Claim7 := { stood := { row := columnSharedUptoRow, standIns := [], harness := (true, "c6d7bf3a8a5e97dcc5e2b24d713ec85c3776c600187fb5e67dd209e5ece004ff"), looks := true }, kinds := [], alts := [], laidByText := true, laidKinds := [.data, .pinned], laidTests := true, laidLooks := .later }
def ColumnSharedUptoCardSaid : Prop := Claim7.holds Tryd.pinned (.plain (OpenSpec.upto columnSharedSpec)) columnSharedUptoCard

/-- THE SECOND FORM's CARD OF 'decklelaw09.ColumnBack'. -/
def columnBackUptoCard : Claim7 := { stood := { row := columnBackUptoRow, standIns := [], harness := (true, "c6d7bf3a8a5e97dcc5e2b24d713ec85c3776c600187fb5e67dd209e5ece004ff"), looks := true }, kinds := [], alts := [], laidByText := true, laidKinds := [.data, .pinned], laidTests := true, laidLooks := .later }
def ColumnBackUptoCardSaid : Prop := Claim7.holds Tryd.pinned (.plain (OpenSpec.upto columnBackSpec)) columnBackUptoCard

/-- THE SECOND FORM's CARD OF 'decklelaw09.ColumnOne'. -/
def columnOneUptoCard : Claim7 := { stood := { row := columnOneUptoRow, standIns := [], harness := (true, "c6d7bf3a8a5e97dcc5e2b24d713ec85c3776c600187fb5e67dd209e5ece004ff"), looks := true }, kinds := [], alts := [], laidByText := true, laidKinds := [.data, .pinned], laidTests := true, laidLooks := .later }
def ColumnOneUptoCardSaid : Prop := Claim7.holds Tryd.pinned (.plain (OpenSpec.upto columnOneSpec)) columnOneUptoCard

/-- THE SECOND FORM's CARD OF 'decklelaw09.ColumnTwo'. -/
def columnTwoUptoCard : Claim7 := { stood := { row := columnTwoUptoRow, standIns := [], harness := (true, "c6d7bf3a8a5e97dcc5e2b24d713ec85c3776c600187fb5e67dd209e5ece004ff"), looks := true }, kinds := [], alts := [], laidByText := true, laidKinds := [.data, .pinned], laidTests := true, laidLooks := .later }
def ColumnTwoUptoCardSaid : Prop := Claim7.holds Tryd.pinned (.plain (OpenSpec.upto columnTwoSpec)) columnTwoUptoCard

/-- THE SECOND FORM's CARD OF 'decklelaw09.ColumnSteps'. -/
def columnStepsUptoCard : Claim7 := { stood := { row := columnStepsUptoRow, standIns := [], harness := (true, "c6d7bf3a8a5e97dcc5e2b24d713ec85c3776c600187fb5e67dd209e5ece004ff"), looks := true }, kinds := [], alts := [], laidByText := true, laidKinds := [.data, .pinned], laidTests := true, laidLooks := .later }
def ColumnStepsUptoCardSaid : Prop := Claim7.holds Tryd.pinned (.plain (OpenSpec.upto columnStepsSpec)) columnStepsUptoCard

/-- THE SECOND FORM's CARD OF 'decklelaw09.ColumnGreatest'. -/
def columnGreatestUptoCard : Claim7 := { stood := { row := columnGreatestUptoRow, standIns := [], harness := (true, "c6d7bf3a8a5e97dcc5e2b24d713ec85c3776c600187fb5e67dd209e5ece004ff"), looks := true }, kinds := [], alts := [], laidByText := true, laidKinds := [.data, .pinned], laidTests := true, laidLooks := .later }
def ColumnGreatestUptoCardSaid : Prop := Claim7.holds Tryd.pinned (.plain (OpenSpec.upto columnGreatestSpec)) columnGreatestUptoCard
end Rows
end Go.Proofs.YtccclfpngdjmjaaDoor
