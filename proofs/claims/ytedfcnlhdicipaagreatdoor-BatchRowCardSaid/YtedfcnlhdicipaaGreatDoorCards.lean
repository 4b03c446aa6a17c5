/-
  DERIVED. GIVEN WITH THE SEED: THE CARDS: each row of YtedfcnlhdicipaaGreatDoorRows.lean that lists a variable, with what it lists TIED to the program's text (the seventh form; the later family's looks); each row that meets fmt, with fmt's text TOLD by the authors' own Lean function (tested against real Go, not proved from fmt's source: count such statements apart). THE CARD IS WHAT COUNTS. Prove the row's statement (the work); the ties are given (YtedfcnlhdicipaaGreatDoorTie.lean); close each card by the builder's one call (the guide's Derived/Test/ToyasCard.lean, 'card_holds'). Laid BY PROGRAM, IN A SANDBOX (cutbox-door.mjs). By AI agents, Wed Nov 11 2026. No macro, syntax, notation, axiom, sorry.
-/
import Derived.Test.YtedfcnlhdicipaaGreatDoorRows
import GoSem.ClaimSeven
namespace Go.Proofs.YtedfcnlhdicipaaGreatDoor
namespace Rows

/-- THE TIED CARD OF 'decklelaw10.BatchWrites'. -/
def batchWritesCard : Claim7 := { stood := { row := batchWritesRow, standIns := [], harness := (true, "ace7885b56ae8e76fc41288ee5dfecd8b8416e3b5e7d1935ac5776115d21976d"), looks := true }, kinds := [], alts := [], laidByText := true, laidKinds := [.data, .pinned], laidTests := true, laidLooks := .later }
def BatchWritesCardSaid : Prop := Claim7.holds Tryz.pinned (.plain (OpenSpec.ofChange batchWritesSpec)) batchWritesCard

/-- THE TIED CARD OF 'decklelaw10.BatchReads'. -/
def batchReadsCard : Claim7 := { stood := { row := batchReadsRow, standIns := [], harness := (true, "ace7885b56ae8e76fc41288ee5dfecd8b8416e3b5e7d1935ac5776115d21976d"), looks := true }, kinds := [], alts := [], laidByText := true, laidKinds := [.data, .pinned], laidTests := true, laidLooks := .later }
def BatchReadsCardSaid : Prop := Claim7.holds Tryz.pinned (.plain (OpenSpec.ofChange batchReadsSpec)) batchReadsCard

/-- THE TIED CARD OF 'decklelaw10.BatchBack'. -/
def batchBackCard : Claim7 := { stood := { row := batchBackRow, standIns := [], harness := (true, "ace7885b56ae8e76fc41288ee5dfecd8b8416e3b5e7d1935ac5776115d21976d"), looks := true }, kinds := [], alts := [], laidByText := true, laidKinds := [.data, .pinned], laidTests := true, laidLooks := .later }
def BatchBackCardSaid : Prop := Claim7.holds Tryz.pinned (.plain (OpenSpec.ofChange batchBackSpec)) batchBackCard

/-- THE TIED CARD OF 'decklelaw10.BatchRow'. -/
def batchRowCard : Claim7 := { stood := { row := batchRowRow, standIns := [], harness := (true, "ace7885b56ae8e76fc41288ee5dfecd8b8416e3b5e7d1935ac5776115d21976d"), looks := true }, kinds := [], alts := [], laidByText := true, laidKinds := [.data, .pinned], laidTests := true, laidLooks := .later }
def BatchRowCardSaid : Prop := Claim7.holds Tryz.pinned (.plain (OpenSpec.ofChange batchRowSpec)) batchRowCard

/-- THE TIED CARD OF 'decklelaw10.BatchSums'. -/
def batchSumsCard : Claim7 := { stood := { row := batchSumsRow, standIns := [], harness := (true, "ace7885b56ae8e76fc41288ee5dfecd8b8416e3b5e7d1935ac5776115d21976d"), looks := true }, kinds := [], alts := [], laidByText := true, laidKinds := [.data, .pinned], laidTests := true, laidLooks := .later }
def BatchSumsCardSaid : Prop := Claim7.holds Tryz.pinned (.plain (OpenSpec.ofChange batchSumsSpec)) batchSumsCard

/-- THE SECOND FORM's CARD OF 'decklelaw10.BatchWrites'. -/
def batchWritesUptoCard : Claim7 := { stood := { row := batchWritesUptoRow, standIns := [], harness := (true, "ace7885b56ae8e76fc41288ee5dfecd8b8416e3b5e7d1935ac5776115d21976d"), looks := true }, kinds := [], alts := [], laidByText := true, laidKinds := [.data, .pinned], laidTests := true, laidLooks := .later }
def BatchWritesUptoCardSaid : Prop := Claim7.holds Tryz.pinned (.plain (OpenSpec.upto batchWritesSpec)) batchWritesUptoCard

/-- THE SECOND FORM's CARD OF 'decklelaw10.BatchReads'. -/
def batchReadsUptoCard : Claim7 := { stood := { row := batchReadsUptoRow, standIns := [], harness := (true, "ace7885b56ae8e76fc41288ee5dfecd8b8416e3b5e7d1935ac5776115d21976d"), looks := true }, kinds := [], alts := [], laidByText := true, laidKinds := [.data, .pinned], laidTests := true, laidLooks := .later }
def BatchReadsUptoCardSaid : Prop := Claim7.holds Tryz.pinned (.plain (OpenSpec.upto batchReadsSpec)) batchReadsUptoCard

/-- THE SECOND FORM's CARD OF 'decklelaw10.BatchBack'. -/
def batchBackUptoCard : Claim7 := { stood := { row := batchBackUptoRow, standIns := [], harness := (true, "ace7885b56ae8e76fc41288ee5dfecd8b8416e3b5e7d1935ac5776115d21976d"), looks := true }, kinds := [], alts := [], laidByText := true, laidKinds := [.data, .pinned], laidTests := true, laidLooks := .later }
def BatchBackUptoCardSaid : Prop := Claim7.holds Tryz.pinned (.plain (OpenSpec.upto batchBackSpec)) batchBackUptoCard

/-- THE SECOND FORM's CARD OF 'decklelaw10.BatchRow'. -/
def batchRowUptoCard : Claim7 := { stood := { row := batchRowUptoRow, standIns := [], harness := (true, "ace7885b56ae8e76fc41288ee5dfecd8b8416e3b5e7d1935ac5776115d21976d"), looks := true }, kinds := [], alts := [], laidByText := true, laidKinds := [.data, .pinned], laidTests := true, laidLooks := .later }
def BatchRowUptoCardSaid : Prop := Claim7.holds Tryz.pinned (.plain (OpenSpec.upto batchRowSpec)) batchRowUptoCard

/-- THE SECOND FORM's CARD OF 'decklelaw10.BatchSums'. -/
def batchSumsUptoCard : Claim7 := { stood := { row := batchSumsUptoRow, standIns := [], harness := (true, "ace7885b56ae8e76fc41288ee5dfecd8b8416e3b5e7d1935ac5776115d21976d"), looks := true }, kinds := [], alts := [], laidByText := true, laidKinds := [.data, .pinned], laidTests := true, laidLooks := .later }
def BatchSumsUptoCardSaid : Prop := Claim7.holds Tryz.pinned (.plain (OpenSpec.upto batchSumsSpec)) batchSumsUptoCard
end Rows
end Go.Proofs.YtedfcnlhdicipaaGreatDoor
