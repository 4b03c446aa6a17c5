/-
  DERIVED. GIVEN WITH THE SEED: THE CARDS: each row of YteiphdcgffapbaaDoorRows.lean that lists a variable, with what it lists TIED to the program's text (the seventh form; the later family's looks); each row that meets fmt, with fmt's text TOLD by the authors' own Lean function (tested against real Go, not proved from fmt's source: count such statements apart). THE CARD IS WHAT COUNTS. Prove the row's statement (the work); the ties are given (YteiphdcgffapbaaDoorTie.lean); close each card by the builder's one call (the guide's Derived/Test/ToyasCard.lean, 'card_holds'). Laid BY PROGRAM, IN A SANDBOX (cutbox-door.mjs). By AI agents, Wed Nov 11 2026. No macro, syntax, notation, axiom, sorry.
-/
import Derived.Test.YteiphdcgffapbaaDoorRows
import GoSem.ClaimSeven
namespace Go.Proofs.YteiphdcgffapbaaDoor
namespace Rows

/-- THE TIED CARD OF 'decklelaw12.EntryFolds'. -/
def entryFoldsCard : Claim7 := { stood := { row := entryFoldsRow, standIns := [], harness := (true, "8dc9248afe97b223bdbd4fc131563f5049d342369935f65551a5f07b30f387a7"), looks := false }, kinds := [], alts := [], laidByText := true, laidKinds := [.data, .pinned], laidTests := true, laidLooks := .later }
def EntryFoldsCardSaid : Prop := Claim7.holds Tryd.pinned (.plain (OpenSpec.ofChange entryFoldsSpec)) entryFoldsCard

/-- THE TIED CARD OF 'decklelaw12.EntrySigns'. -/
def entrySignsCard : Claim7 := { stood := { row := entrySignsRow, standIns := [], harness := (true, "8dc9248afe97b223bdbd4fc131563f5049d342369935f65551a5f07b30f387a7"), looks := false }, kinds := [], alts := [], laidByText := true, laidKinds := [.data, .pinned], laidTests := true, laidLooks := .later }
def EntrySignsCardSaid : Prop := Claim7.holds Tryd.pinned (.plain (OpenSpec.ofChange entrySignsSpec)) entrySignsCard

/-- THE SECOND FORM's CARD OF 'decklelaw12.EntryFolds'. -/
def entryFoldsUptoCard : Claim7 := { stood := { row := entryFoldsUptoRow, standIns := [], harness := (true, "8dc9248afe97b223bdbd4fc131563f5049d342369935f65551a5f07b30f387a7"), looks := false }, kinds := [], alts := [], laidByText := true, laidKinds := [.data, .pinned], laidTests := true, laidLooks := .later }
def EntryFoldsUptoCardSaid : Prop := Claim7.holds Tryd.pinned (.plain (OpenSpec.upto entryFoldsSpec)) entryFoldsUptoCard

/-- THE SECOND FORM's CARD OF 'decklelaw12.EntrySigns'. -/
def entrySignsUptoCard : Claim7 := { stood := { row := entrySignsUptoRow, standIns := [], harness := (true, "8dc9248afe97b223bdbd4fc131563f5049d342369935f65551a5f07b30f387a7"), looks := false }, kinds := [], alts := [], laidByText := true, laidKinds := [.data, .pinned], laidTests := true, laidLooks := .later }
def EntrySignsUptoCardSaid : Prop := Claim7.holds Tryd.pinned (.plain (OpenSpec.upto entrySignsSpec)) entrySignsUptoCard
end Rows
end Go.Proofs.YteiphdcgffapbaaDoor
