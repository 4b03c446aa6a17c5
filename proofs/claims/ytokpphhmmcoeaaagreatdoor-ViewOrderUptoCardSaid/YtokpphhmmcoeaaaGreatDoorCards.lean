/-
  DERIVED. GIVEN WITH THE SEED: THE CARDS: each row of YtokpphhmmcoeaaaGreatDoorRows.lean that lists a variable, with what it lists TIED to the program's text (the seventh form; the later family's looks); each row that meets fmt, with fmt's text TOLD by the authors' own Lean function (tested against real Go, not proved from fmt's source: count such statements apart). THE CARD IS WHAT COUNTS. Prove the row's statement (the work); the ties are given (YtokpphhmmcoeaaaGreatDoorTie.lean); close each card by the builder's one call (the guide's Derived/Test/ToyasCard.lean, 'card_holds'). Laid BY PROGRAM, IN A SANDBOX (cutbox-door.mjs). By AI agents, Wed Nov 11 2026. No macro, syntax, notation, axiom, sorry.
-/
import Derived.Test.YtokpphhmmcoeaaaGreatDoorRows
import GoSem.ClaimSeven
namespace Go.Proofs.YtokpphhmmcoeaaaGreatDoor
namespace Rows

/-- THE TIED CARD OF 'decklelaw17.ViewTakes'. -/
def viewTakesCard : Claim7 := { stood := { row := viewTakesRow, standIns := [], harness := (true, "44f55d5dbf9de76812aefc6bf9d562d78b55401217f0f386b658b3c98b329e0c"), looks := false }, kinds := [], alts := [], laidByText := true, laidKinds := [.data, .pinned], laidTests := true, laidLooks := .later }
def ViewTakesCardSaid : Prop := Claim7.holds Tryz.pinned (.plain (OpenSpec.ofChange viewTakesSpec)) viewTakesCard

/-- THE TIED CARD OF 'decklelaw17.ViewResets'. -/
def viewResetsCard : Claim7 := { stood := { row := viewResetsRow, standIns := [], harness := (true, "44f55d5dbf9de76812aefc6bf9d562d78b55401217f0f386b658b3c98b329e0c"), looks := false }, kinds := [], alts := [], laidByText := true, laidKinds := [.data, .pinned], laidTests := true, laidLooks := .later }
def ViewResetsCardSaid : Prop := Claim7.holds Tryz.pinned (.plain (OpenSpec.ofChange viewResetsSpec)) viewResetsCard

/-- THE TIED CARD OF 'decklelaw17.ViewOrder'. -/
def viewOrderCard : Claim7 := { stood := { row := viewOrderRow, standIns := [], harness := (true, "44f55d5dbf9de76812aefc6bf9d562d78b55401217f0f386b658b3c98b329e0c"), looks := false }, kinds := [], alts := [], laidByText := true, laidKinds := [.data, .pinned], laidTests := true, laidLooks := .later }
def ViewOrderCardSaid : Prop := Claim7.holds Tryz.pinned (.plain (OpenSpec.ofChange viewOrderSpec)) viewOrderCard

/-- THE TIED CARD OF 'decklelaw17.ViewSplits'. -/
def viewSplitsCard : Claim7 := { stood := { row := viewSplitsRow, standIns := [], harness := (true, "44f55d5dbf9de76812aefc6bf9d562d78b55401217f0f386b658b3c98b329e0c"), looks := false }, kinds := [], alts := [], laidByText := true, laidKinds := [.data, .pinned], laidTests := true, laidLooks := .later }
def ViewSplitsCardSaid : Prop := Claim7.holds Tryz.pinned (.plain (OpenSpec.ofChange viewSplitsSpec)) viewSplitsCard

/-- THE TIED CARD OF 'decklelaw17.ViewBare'. -/
def viewBareCard : Claim7 := { stood := { row := viewBareRow, standIns := [], harness := (true, "44f55d5dbf9de76812aefc6bf9d562d78b55401217f0f386b658b3c98b329e0c"), looks := false }, kinds := [], alts := [], laidByText := true, laidKinds := [.data, .pinned], laidTests := true, laidLooks := .later }
def ViewBareCardSaid : Prop := Claim7.holds Tryz.pinned (.plain (OpenSpec.ofChange viewBareSpec)) viewBareCard

/-- THE SECOND FORM's CARD OF 'decklelaw17.ViewTakes'. -/
def viewTakesUptoCard : Claim7 := { stood := { row := viewTakesUptoRow, standIns := [], harness := (true, "44f55d5dbf9de76812aefc6bf9d562d78b55401217f0f386b658b3c98b329e0c"), looks := false }, kinds := [], alts := [], laidByText := true, laidKinds := [.data, .pinned], laidTests := true, laidLooks := .later }
def ViewTakesUptoCardSaid : Prop := Claim7.holds Tryz.pinned (.plain (OpenSpec.upto viewTakesSpec)) viewTakesUptoCard

/-- THE SECOND FORM's CARD OF 'decklelaw17.ViewResets'. -/
def viewResetsUptoCard : Claim7 := { stood := { row := viewResetsUptoRow, standIns := [], harness := (true, "44f55d5dbf9de76812aefc6bf9d562d78b55401217f0f386b658b3c98b329e0c"), looks := false }, kinds := [], alts := [], laidByText := true, laidKinds := [.data, .pinned], laidTests := true, laidLooks := .later }
def ViewResetsUptoCardSaid : Prop := Claim7.holds Tryz.pinned (.plain (OpenSpec.upto viewResetsSpec)) viewResetsUptoCard

/-- THE SECOND FORM's CARD OF 'decklelaw17.ViewOrder'. -/
def viewOrderUptoCard : Claim7 := { stood := { row := viewOrderUptoRow, standIns := [], harness := (true, "44f55d5dbf9de76812aefc6bf9d562d78b55401217f0f386b658b3c98b329e0c"), looks := false }, kinds := [], alts := [], laidByText := true, laidKinds := [.data, .pinned], laidTests := true, laidLooks := .later }
def ViewOrderUptoCardSaid : Prop := Claim7.holds Tryz.pinned (.plain (OpenSpec.upto viewOrderSpec)) viewOrderUptoCard

/-- THE SECOND FORM's CARD OF 'decklelaw17.ViewSplits'. -/
def viewSplitsUptoCard : Claim7 := { stood := { row := viewSplitsUptoRow, standIns := [], harness := (true, "44f55d5dbf9de76812aefc6bf9d562d78b55401217f0f386b658b3c98b329e0c"), looks := false }, kinds := [], alts := [], laidByText := true, laidKinds := [.data, .pinned], laidTests := true, laidLooks := .later }
def ViewSplitsUptoCardSaid : Prop := Claim7.holds Tryz.pinned (.plain (OpenSpec.upto viewSplitsSpec)) viewSplitsUptoCard

/-- THE SECOND FORM's CARD OF 'decklelaw17.ViewBare'. -/
def viewBareUptoCard : Claim7 := { stood := { row := viewBareUptoRow, standIns := [], harness := (true, "44f55d5dbf9de76812aefc6bf9d562d78b55401217f0f386b658b3c98b329e0c"), looks := false }, kinds := [], alts := [], laidByText := true, laidKinds := [.data, .pinned], laidTests := true, laidLooks := .later }
def ViewBareUptoCardSaid : Prop := Claim7.holds Tryz.pinned (.plain (OpenSpec.upto viewBareSpec)) viewBareUptoCard
end Rows
end Go.Proofs.YtokpphhmmcoeaaaGreatDoor
