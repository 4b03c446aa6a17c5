/-
  DERIVED. GIVEN WITH THE SEED: THE CARDS: each row of YtgboedffaangeaaGreatDoorRows.lean that lists a variable, with what it lists TIED to the program's text (the seventh form; the later family's looks); each row that meets fmt, with fmt's text TOLD by the authors' own Lean function (tested against real Go, not proved from fmt's source: count such statements apart). THE CARD IS WHAT COUNTS. Prove the row's statement (the work); the ties are given (YtgboedffaangeaaGreatDoorTie.lean); close each card by the builder's one call (the guide's Derived/Test/ToyasCard.lean, 'card_holds'). Laid BY PROGRAM, IN A SANDBOX (cutbox-door.mjs). By AI agents, Wed Nov 11 2026. No macro, syntax, notation, axiom, sorry.
-/
import Derived.Test.YtgboedffaangeaaGreatDoorRows
import GoSem.ClaimSeven
namespace Go.Proofs.YtgboedffaangeaaGreatDoor
namespace Rows

/-- THE TIED CARD OF 'decklelaw16.ReviveActs'. -/
def reviveActsCard : Claim7 := { stood := { row := reviveActsRow, standIns := [], harness := (true, "324d62881c99c12fa5f54400f4408e0fe0ac6523ca8dee766c3b890e2409669a"), looks := true }, kinds := [], alts := [], laidByText := true, laidKinds := [.data, .data, .pinned], laidTests := true, laidLooks := .later }
def ReviveActsCardSaid : Prop := Claim7.holds Tryz.pinned (.plain (OpenSpec.ofChange reviveActsSpec)) reviveActsCard

/-- THE SECOND FORM's CARD OF 'decklelaw16.ReviveActs'. -/
def reviveActsUptoCard : Claim7 := { stood := { row := reviveActsUptoRow, standIns := [], harness := (true, "324d62881c99c12fa5f54400f4408e0fe0ac6523ca8dee766c3b890e2409669a"), looks := true }, kinds := [], alts := [], laidByText := true, laidKinds := [.data, .data, .pinned], laidTests := true, laidLooks := .later }
def ReviveActsUptoCardSaid : Prop := Claim7.holds Tryz.pinned (.plain (OpenSpec.upto reviveActsSpec)) reviveActsUptoCard
end Rows
end Go.Proofs.YtgboedffaangeaaGreatDoor
