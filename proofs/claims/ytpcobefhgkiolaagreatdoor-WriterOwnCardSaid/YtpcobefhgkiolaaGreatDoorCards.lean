/-
  DERIVED. GIVEN WITH THE SEED: THE CARDS: each row of YtpcobefhgkiolaaGreatDoorRows.lean that lists a variable, with what it lists TIED to the program's text (the seventh form; the later family's looks); each row that meets fmt, with fmt's text TOLD by the authors' own Lean function (tested against real Go, not proved from fmt's source: count such statements apart). THE CARD IS WHAT COUNTS. Prove the row's statement (the work); the ties are given (YtpcobefhgkiolaaGreatDoorTie.lean); close each card by the builder's one call (the guide's Derived/Test/ToyasCard.lean, 'card_holds'). Laid BY PROGRAM, IN A SANDBOX (cutbox-door.mjs). By AI agents, Wed Nov 11 2026. No macro, syntax, notation, axiom, sorry.
-/
import Derived.Test.YtpcobefhgkiolaaGreatDoorRows
import GoSem.ClaimSeven
namespace Go.Proofs.YtpcobefhgkiolaaGreatDoor
namespace Rows

/-- THE TIED CARD OF 'decklelaw14.WriterActs'. -/
def writerActsCard : Claim7 := { stood := { row := writerActsRow, standIns := [], harness := (true, "d5517eb98f2b580f792090df8b44d1fb10e97ab954fedbcd77f5095970ba67c6"), looks := true }, kinds := [], alts := [], laidByText := true, laidKinds := [.data, .data, .pinned], laidTests := true, laidLooks := .later }
def WriterActsCardSaid : Prop := Claim7.holds Tryz.pinned (.plain (OpenSpec.ofChange writerActsSpec)) writerActsCard

/-- THE TIED CARD OF 'decklelaw14.WriterOpens'. -/
def writerOpensCard : Claim7 := { stood := { row := writerOpensRow, standIns := [], harness := (true, "d5517eb98f2b580f792090df8b44d1fb10e97ab954fedbcd77f5095970ba67c6"), looks := true }, kinds := [], alts := [], laidByText := true, laidKinds := [.data, .data, .pinned], laidTests := true, laidLooks := .later }
def WriterOpensCardSaid : Prop := Claim7.holds Tryz.pinned (.plain (OpenSpec.ofChange writerOpensSpec)) writerOpensCard

/-- THE TIED CARD OF 'decklelaw14.WriterAll'. -/
def writerAllCard : Claim7 := { stood := { row := writerAllRow, standIns := [], harness := (true, "d5517eb98f2b580f792090df8b44d1fb10e97ab954fedbcd77f5095970ba67c6"), looks := true }, kinds := [], alts := [], laidByText := true, laidKinds := [.data, .data, .pinned], laidTests := true, laidLooks := .later }
def WriterAllCardSaid : Prop := Claim7.holds Tryz.pinned (.plain (OpenSpec.ofChange writerAllSpec)) writerAllCard

/-- THE TIED CARD OF 'decklelaw14.WriterTraces'. -/
def writerTracesCard : Claim7 := { stood := { row := writerTracesRow, standIns := [], harness := (true, "d5517eb98f2b580f792090df8b44d1fb10e97ab954fedbcd77f5095970ba67c6"), looks := true }, kinds := [], alts := [], laidByText := true, laidKinds := [.data, .data, .pinned], laidTests := true, laidLooks := .later }
def WriterTracesCardSaid : Prop := Claim7.holds Tryz.pinned (.plain (OpenSpec.ofChange writerTracesSpec)) writerTracesCard

/-- THE TIED CARD OF 'decklelaw14.WriterReopens'. -/
def writerReopensCard : Claim7 := { stood := { row := writerReopensRow, standIns := [], harness := (true, "d5517eb98f2b580f792090df8b44d1fb10e97ab954fedbcd77f5095970ba67c6"), looks := true }, kinds := [], alts := [], laidByText := true, laidKinds := [.data, .data, .pinned], laidTests := true, laidLooks := .later }
def WriterReopensCardSaid : Prop := Claim7.holds Tryz.pinned (.plain (OpenSpec.ofChange writerReopensSpec)) writerReopensCard

/-- THE TIED CARD OF 'decklelaw14.WriterRefuses'. -/
def writerRefusesCard : Claim7 := { stood := { row := writerRefusesRow, standIns := [], harness := (true, "d5517eb98f2b580f792090df8b44d1fb10e97ab954fedbcd77f5095970ba67c6"), looks := true }, kinds := [], alts := [], laidByText := true, laidKinds := [.data, .data, .pinned], laidTests := true, laidLooks := .later }
def WriterRefusesCardSaid : Prop := Claim7.holds Tryz.pinned (.plain (OpenSpec.ofChange writerRefusesSpec)) writerRefusesCard

/-- THE TIED CARD OF 'decklelaw14.WriterOwn'. -/
def writerOwnCard : Claim7 := { stood := { row := writerOwnRow, standIns := [], harness := (true, "d5517eb98f2b580f792090df8b44d1fb10e97ab954fedbcd77f5095970ba67c6"), looks := true }, kinds := [], alts := [], laidByText := true, laidKinds := [.data, .data, .pinned], laidTests := true, laidLooks := .later }
def WriterOwnCardSaid : Prop := Claim7.holds Tryz.pinned (.plain (OpenSpec.ofChange writerOwnSpec)) writerOwnCard

/-- THE SECOND FORM's CARD OF 'decklelaw14.WriterActs'. -/
def writerActsUptoCard : Claim7 := { stood := { row := writerActsUptoRow, standIns := [], harness := (true, "d5517eb98f2b580f792090df8b44d1fb10e97ab954fedbcd77f5095970ba67c6"), looks := true }, kinds := [], alts := [], laidByText := true, laidKinds := [.data, .data, .pinned], laidTests := true, laidLooks := .later }
def WriterActsUptoCardSaid : Prop := Claim7.holds Tryz.pinned (.plain (OpenSpec.upto writerActsSpec)) writerActsUptoCard

/-- THE SECOND FORM's CARD OF 'decklelaw14.WriterOpens'. -/
def writerOpensUptoCard : Claim7 := { stood := { row := writerOpensUptoRow, standIns := [], harness := (true, "d5517eb98f2b580f792090df8b44d1fb10e97ab954fedbcd77f5095970ba67c6"), looks := true }, kinds := [], alts := [], laidByText := true, laidKinds := [.data, .data, .pinned], laidTests := true, laidLooks := .later }
def WriterOpensUptoCardSaid : Prop := Claim7.holds Tryz.pinned (.plain (OpenSpec.upto writerOpensSpec)) writerOpensUptoCard

/-- THE SECOND FORM's CARD OF 'decklelaw14.WriterAll'. -/
def writerAllUptoCard : Claim7 := { stood := { row := writerAllUptoRow, standIns := [], harness := (true, "d5517eb98f2b580f792090df8b44d1fb10e97ab954fedbcd77f5095970ba67c6"), looks := true }, kinds := [], alts := [], laidByText := true, laidKinds := [.data, .data, .pinned], laidTests := true, laidLooks := .later }
def WriterAllUptoCardSaid : Prop := Claim7.holds Tryz.pinned (.plain (OpenSpec.upto writerAllSpec)) writerAllUptoCard

/-- THE SECOND FORM's CARD OF 'decklelaw14.WriterTraces'. -/
def writerTracesUptoCard : Claim7 := { stood := { row := writerTracesUptoRow, standIns := [], harness := (true, "d5517eb98f2b580f792090df8b44d1fb10e97ab954fedbcd77f5095970ba67c6"), looks := true }, kinds := [], alts := [], laidByText := true, laidKinds := [.data, .data, .pinned], laidTests := true, laidLooks := .later }
def WriterTracesUptoCardSaid : Prop := Claim7.holds Tryz.pinned (.plain (OpenSpec.upto writerTracesSpec)) writerTracesUptoCard

/-- THE SECOND FORM's CARD OF 'decklelaw14.WriterReopens'. -/
def writerReopensUptoCard : Claim7 := { stood := { row := writerReopensUptoRow, standIns := [], harness := (true, "d5517eb98f2b580f792090df8b44d1fb10e97ab954fedbcd77f5095970ba67c6"), looks := true }, kinds := [], alts := [], laidByText := true, laidKinds := [.data, .data, .pinned], laidTests := true, laidLooks := .later }
def WriterReopensUptoCardSaid : Prop := Claim7.holds Tryz.pinned (.plain (OpenSpec.upto writerReopensSpec)) writerReopensUptoCard

/-- THE SECOND FORM's CARD OF 'decklelaw14.WriterRefuses'. -/
def writerRefusesUptoCard : Claim7 := { stood := { row := writerRefusesUptoRow, standIns := [], harness := (true, "d5517eb98f2b580f792090df8b44d1fb10e97ab954fedbcd77f5095970ba67c6"), looks := true }, kinds := [], alts := [], laidByText := true, laidKinds := [.data, .data, .pinned], laidTests := true, laidLooks := .later }
def WriterRefusesUptoCardSaid : Prop := Claim7.holds Tryz.pinned (.plain (OpenSpec.upto writerRefusesSpec)) writerRefusesUptoCard

/-- THE SECOND FORM's CARD OF 'decklelaw14.WriterOwn'. -/
def writerOwnUptoCard : Claim7 := { stood := { row := writerOwnUptoRow, standIns := [], harness := (true, "d5517eb98f2b580f792090df8b44d1fb10e97ab954fedbcd77f5095970ba67c6"), looks := true }, kinds := [], alts := [], laidByText := true, laidKinds := [.data, .data, .pinned], laidTests := true, laidLooks := .later }
def WriterOwnUptoCardSaid : Prop := Claim7.holds Tryz.pinned (.plain (OpenSpec.upto writerOwnSpec)) writerOwnUptoCard
end Rows
end Go.Proofs.YtpcobefhgkiolaaGreatDoor
