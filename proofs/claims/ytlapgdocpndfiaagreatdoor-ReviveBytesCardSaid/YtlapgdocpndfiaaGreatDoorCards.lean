/-
  DERIVED. GIVEN WITH THE SEED: THE CARDS: each row of YtlapgdocpndfiaaGreatDoorRows.lean that lists a variable, with what it lists TIED to the program's text (the seventh form; the later family's looks); each row that meets fmt, with fmt's text TOLD by the authors' own Lean function (tested against real Go, not proved from fmt's source: count such statements apart). THE CARD IS WHAT COUNTS. Prove the row's statement (the work); the ties are given (YtlapgdocpndfiaaGreatDoorTie.lean); close each card by the builder's one call (the guide's Derived/Test/ToyasCard.lean, 'card_holds'). Laid BY PROGRAM, IN A SANDBOX (cutbox-door.mjs). By AI agents, Wed Nov 11 2026. No macro, syntax, notation, axiom, sorry.
-/
import Derived.Test.YtlapgdocpndfiaaGreatDoorRows
import GoSem.ClaimSeven
namespace Go.Proofs.YtlapgdocpndfiaaGreatDoor
namespace Rows

/-- THE TIED CARD OF 'decklelaw16.ReviveBytes'. -/
def reviveBytesCard : Claim7 := { stood := { row := reviveBytesRow, standIns := [], harness := (true, "a2ed5c25b3e024805b1be81fc72e345263c54e8d7b674aaadec31818c799a57d"), looks := true }, kinds := [], alts := [], laidByText := true, laidKinds := [.data, .data, .pinned], laidTests := true, laidLooks := .later }
def ReviveBytesCardSaid : Prop := Claim7.holds Tryz.pinned (.plain (OpenSpec.ofChange reviveBytesSpec)) reviveBytesCard

/-- THE TIED CARD OF 'decklelaw16.ReviveActs'. -/
def reviveActsCard : Claim7 := { stood := { row := reviveActsRow, standIns := [], harness := (true, "a2ed5c25b3e024805b1be81fc72e345263c54e8d7b674aaadec31818c799a57d"), looks := true }, kinds := [], alts := [], laidByText := true, laidKinds := [.data, .data, .pinned], laidTests := true, laidLooks := .later }
def ReviveActsCardSaid : Prop := Claim7.holds Tryz.pinned (.plain (OpenSpec.ofChange reviveActsSpec)) reviveActsCard

/-- THE TIED CARD OF 'decklelaw16.ReviveNone'. -/
def reviveNoneCard : Claim7 := { stood := { row := reviveNoneRow, standIns := [], harness := (true, "a2ed5c25b3e024805b1be81fc72e345263c54e8d7b674aaadec31818c799a57d"), looks := true }, kinds := [], alts := [], laidByText := true, laidKinds := [.data, .data, .pinned], laidTests := true, laidLooks := .later }
def ReviveNoneCardSaid : Prop := Claim7.holds Tryz.pinned (.plain (OpenSpec.ofChange reviveNoneSpec)) reviveNoneCard

/-- THE TIED CARD OF 'decklelaw16.ReviveTwice'. -/
def reviveTwiceCard : Claim7 := { stood := { row := reviveTwiceRow, standIns := [], harness := (true, "a2ed5c25b3e024805b1be81fc72e345263c54e8d7b674aaadec31818c799a57d"), looks := true }, kinds := [], alts := [], laidByText := true, laidKinds := [.data, .data, .pinned], laidTests := true, laidLooks := .later }
def ReviveTwiceCardSaid : Prop := Claim7.holds Tryz.pinned (.plain (OpenSpec.ofChange reviveTwiceSpec)) reviveTwiceCard

/-- THE TIED CARD OF 'decklelaw16.ReviveKeeps'. -/
def reviveKeepsCard : Claim7 := { stood := { row := reviveKeepsRow, standIns := [], harness := (true, "a2ed5c25b3e024805b1be81fc72e345263c54e8d7b674aaadec31818c799a57d"), looks := true }, kinds := [], alts := [], laidByText := true, laidKinds := [.data, .data, .pinned], laidTests := true, laidLooks := .later }
def ReviveKeepsCardSaid : Prop := Claim7.holds Tryz.pinned (.plain (OpenSpec.ofChange reviveKeepsSpec)) reviveKeepsCard

/-- THE TIED CARD OF 'decklelaw16.ReviveGoesOn'. -/
def reviveGoesOnCard : Claim7 := { stood := { row := reviveGoesOnRow, standIns := [], harness := (true, "a2ed5c25b3e024805b1be81fc72e345263c54e8d7b674aaadec31818c799a57d"), looks := true }, kinds := [], alts := [], laidByText := true, laidKinds := [.data, .data, .pinned], laidTests := true, laidLooks := .later }
def ReviveGoesOnCardSaid : Prop := Claim7.holds Tryz.pinned (.plain (OpenSpec.ofChange reviveGoesOnSpec)) reviveGoesOnCard

/-- THE TIED CARD OF 'decklelaw16.ReviveJunk'. -/
def reviveJunkCard : Claim7 := { stood := { row := reviveJunkRow, standIns := [], harness := (true, "a2ed5c25b3e024805b1be81fc72e345263c54e8d7b674aaadec31818c799a57d"), looks := true }, kinds := [], alts := [], laidByText := true, laidKinds := [.data, .data, .pinned], laidTests := true, laidLooks := .later }
def ReviveJunkCardSaid : Prop := Claim7.holds Tryz.pinned (.plain (OpenSpec.ofChange reviveJunkSpec)) reviveJunkCard

/-- THE TIED CARD OF 'decklelaw16.ReviveSync'. -/
def reviveSyncCard : Claim7 := { stood := { row := reviveSyncRow, standIns := [], harness := (true, "a2ed5c25b3e024805b1be81fc72e345263c54e8d7b674aaadec31818c799a57d"), looks := true }, kinds := [], alts := [], laidByText := true, laidKinds := [.data, .data, .pinned], laidTests := true, laidLooks := .later }
def ReviveSyncCardSaid : Prop := Claim7.holds Tryz.pinned (.plain (OpenSpec.ofChange reviveSyncSpec)) reviveSyncCard

/-- THE SECOND FORM's CARD OF 'decklelaw16.ReviveBytes'. -/
def reviveBytesUptoCard : Claim7 := { stood := { row := reviveBytesUptoRow, standIns := [], harness := (true, "a2ed5c25b3e024805b1be81fc72e345263c54e8d7b674aaadec31818c799a57d"), looks := true }, kinds := [], alts := [], laidByText := true, laidKinds := [.data, .data, .pinned], laidTests := true, laidLooks := .later }
def ReviveBytesUptoCardSaid : Prop := Claim7.holds Tryz.pinned (.plain (OpenSpec.upto reviveBytesSpec)) reviveBytesUptoCard

/-- THE SECOND FORM's CARD OF 'decklelaw16.ReviveActs'. -/
def reviveActsUptoCard : Claim7 := { stood := { row := reviveActsUptoRow, standIns := [], harness := (true, "a2ed5c25b3e024805b1be81fc72e345263c54e8d7b674aaadec31818c799a57d"), looks := true }, kinds := [], alts := [], laidByText := true, laidKinds := [.data, .data, .pinned], laidTests := true, laidLooks := .later }
def ReviveActsUptoCardSaid : Prop := Claim7.holds Tryz.pinned (.plain (OpenSpec.upto reviveActsSpec)) reviveActsUptoCard

/-- THE SECOND FORM's CARD OF 'decklelaw16.ReviveNone'. -/
def reviveNoneUptoCard : Claim7 := { stood := { row := reviveNoneUptoRow, standIns := [], harness := (true, "a2ed5c25b3e024805b1be81fc72e345263c54e8d7b674aaadec31818c799a57d"), looks := true }, kinds := [], alts := [], laidByText := true, laidKinds := [.data, .data, .pinned], laidTests := true, laidLooks := .later }
def ReviveNoneUptoCardSaid : Prop := Claim7.holds Tryz.pinned (.plain (OpenSpec.upto reviveNoneSpec)) reviveNoneUptoCard

/-- THE SECOND FORM's CARD OF 'decklelaw16.ReviveTwice'. -/
def reviveTwiceUptoCard : Claim7 := { stood := { row := reviveTwiceUptoRow, standIns := [], harness := (true, "a2ed5c25b3e024805b1be81fc72e345263c54e8d7b674aaadec31818c799a57d"), looks := true }, kinds := [], alts := [], laidByText := true, laidKinds := [.data, .data, .pinned], laidTests := true, laidLooks := .later }
def ReviveTwiceUptoCardSaid : Prop := Claim7.holds Tryz.pinned (.plain (OpenSpec.upto reviveTwiceSpec)) reviveTwiceUptoCard

/-- THE SECOND FORM's CARD OF 'decklelaw16.ReviveKeeps'. -/
def reviveKeepsUptoCard : Claim7 := { stood := { row := reviveKeepsUptoRow, standIns := [], harness := (true, "a2ed5c25b3e024805b1be81fc72e345263c54e8d7b674aaadec31818c799a57d"), looks := true }, kinds := [], alts := [], laidByText := true, laidKinds := [.data, .data, .pinned], laidTests := true, laidLooks := .later }
def ReviveKeepsUptoCardSaid : Prop := Claim7.holds Tryz.pinned (.plain (OpenSpec.upto reviveKeepsSpec)) reviveKeepsUptoCard

/-- THE SECOND FORM's CARD OF 'decklelaw16.ReviveGoesOn'. -/
def reviveGoesOnUptoCard : Claim7 := { stood := { row := reviveGoesOnUptoRow, standIns := [], harness := (true, "a2ed5c25b3e024805b1be81fc72e345263c54e8d7b674aaadec31818c799a57d"), looks := true }, kinds := [], alts := [], laidByText := true, laidKinds := [.data, .data, .pinned], laidTests := true, laidLooks := .later }
def ReviveGoesOnUptoCardSaid : Prop := Claim7.holds Tryz.pinned (.plain (OpenSpec.upto reviveGoesOnSpec)) reviveGoesOnUptoCard

/-- THE SECOND FORM's CARD OF 'decklelaw16.ReviveJunk'. -/
def reviveJunkUptoCard : Claim7 := { stood := { row := reviveJunkUptoRow, standIns := [], harness := (true, "a2ed5c25b3e024805b1be81fc72e345263c54e8d7b674aaadec31818c799a57d"), looks := true }, kinds := [], alts := [], laidByText := true, laidKinds := [.data, .data, .pinned], laidTests := true, laidLooks := .later }
def ReviveJunkUptoCardSaid : Prop := Claim7.holds Tryz.pinned (.plain (OpenSpec.upto reviveJunkSpec)) reviveJunkUptoCard

/-- THE SECOND FORM's CARD OF 'decklelaw16.ReviveSync'. -/
def reviveSyncUptoCard : Claim7 := { stood := { row := reviveSyncUptoRow, standIns := [], harness := (true, "a2ed5c25b3e024805b1be81fc72e345263c54e8d7b674aaadec31818c799a57d"), looks := true }, kinds := [], alts := [], laidByText := true, laidKinds := [.data, .data, .pinned], laidTests := true, laidLooks := .later }
def ReviveSyncUptoCardSaid : Prop := Claim7.holds Tryz.pinned (.plain (OpenSpec.upto reviveSyncSpec)) reviveSyncUptoCard
end Rows
end Go.Proofs.YtlapgdocpndfiaaGreatDoor
