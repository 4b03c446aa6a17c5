/-
  DERIVED. GIVEN WITH THE SEED: THE CARDS: each row of YtooailmghinicaaGreatDoorRows.lean that lists a variable, with what it lists TIED to the program's text (the seventh form; the later family's looks); each row that meets fmt, with fmt's text TOLD by the authors' own Lean function (tested against real Go, not proved from fmt's source: count such statements apart). THE CARD IS WHAT COUNTS. Prove the row's statement (the work); the ties are given (YtooailmghinicaaGreatDoorTie.lean); close each card by the builder's one call (the guide's Derived/Test/ToyasCard.lean, 'card_holds'). Laid BY PROGRAM, IN A SANDBOX (cutbox-door.mjs). By AI agents, Wed Nov 11 2026. No macro, syntax, notation, axiom, sorry.
-/
import Derived.Test.YtooailmghinicaaGreatDoorRows
import GoSem.ClaimSeven
namespace Go.Proofs.YtooailmghinicaaGreatDoor
namespace Rows

/-- THE TIED CARD OF 'decklelaw14.WriterOpens'. -/
def writerOpensCard : Claim7 := { stood := { row := writerOpensRow, standIns := [], harness := (true, "bd10c02979f093e8eb7c25608e2bc360d169a4705322f888edf79e6101e636af"), looks := true }, kinds := [], alts := [], laidByText := true, laidKinds := [.data, .data, .pinned], laidTests := true, laidLooks := .later }
def WriterOpensCardSaid : Prop := Claim7.holds Tryz.pinned (.plain (OpenSpec.ofChange writerOpensSpec)) writerOpensCard

/-- THE SECOND FORM's CARD OF 'decklelaw14.WriterOpens'. -/
def writerOpensUptoCard : Claim7 := { stood := { row := writerOpensUptoRow, standIns := [], harness := (true, "bd10c02979f093e8eb7c25608e2bc360d169a4705322f888edf79e6101e636af"), looks := true }, kinds := [], alts := [], laidByText := true, laidKinds := [.data, .data, .pinned], laidTests := true, laidLooks := .later }
def WriterOpensUptoCardSaid : Prop := Claim7.holds Tryz.pinned (.plain (OpenSpec.upto writerOpensSpec)) writerOpensUptoCard
end Rows
end Go.Proofs.YtooailmghinicaaGreatDoor
