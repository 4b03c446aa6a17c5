/-
  The document's own answers for layer 10 (deckleref10): Read, over Take.
-/
import Derived.Test.YteiphdcgffapbaaGreatDoorGBatD
import Derived.Test.YteiphdcgffapbaaGreatDoorGRdr
import Derived.Test.YteiphdcgffapbaaGreatDoorGBatO
import Derived.Test.YteiphdcgffapbaaGreatDoorGColRef
import Derived.RegionTactic
import Derived.BigRegion
import Derived.Deep.AppendLies
import Derived.Test.YteiphdcgffapbaaGreatDoorGBatP
import Derived.Test.YteiphdcgffapbaaGreatDoorGColRR
import Derived.Test.YteiphdcgffapbaaGreatDoorGZRef
import Derived.Test.YteiphdcgffapbaaGreatDoorGSchema
import Derived.Test.YteiphdcgffapbaaGreatDoorGRow
set_option linter.unusedVariables false
set_option linter.unusedSimpArgs false
set_option maxRecDepth 1000000
namespace Go.Proofs.YteiphdcgffapbaaGreatDoor
open Go.RowKit

end Go.Proofs.YteiphdcgffapbaaGreatDoor


/-
  The document's own answers for layer 10 (deckleref10): Take: its columns.
-/
namespace Go.Proofs.YteiphdcgffapbaaGreatDoor
open Go.RowKit

end Go.Proofs.YteiphdcgffapbaaGreatDoor


/-
  The document's own answers for layer 10 (deckleref10), with no premise left: Write, Read.
-/
namespace Go.Proofs.YteiphdcgffapbaaGreatDoor
open Go.RowKit Go.Shelf

/-- A model's block holds no column. -/
theorem model_apart {w : World} {m : Nat} {v sv : Value} {l : List UInt8} {k x : Nat} {cs : List ColB} (hM : Mdl w m v l k x) (h : RdC w sv cs) : ∀ i, i < cs.length → (adr sv (i * 2)).block ≠ m := by
  intro i hi e
  obtain ⟨ao, cap, hv, _⟩ := hM.rd.shape
  obtain ⟨b, o, ha, hc⟩ := RdG.at h (i := i) (by rw [List.length_map]; exact hi)
  have h0 := hc 0 (.string (cs.getD i default).1) (by rw [getD_map colV cs i hi default]; rfl)
  have ha' : adr sv (i * 2) = ⟨b, o, none⟩ := ha
  rw [ha'] at e
  have e : b = m := e
  subst e
  rw [Nat.add_zero, cell_of_row _ _ _ _ _ _ hM.blk, hv] at h0
  rcases o with _ | _ | _ | o
  · simp at h0
  · simp at h0
  · simp at h0
  · simp at h0
theorem RdC.aside {w w' : World} {m : Nat} {v sv : Value} {l : List UInt8} {k x : Nat} {cs : List ColB} (hM : Mdl w m v l k x) (h : RdC w sv cs) (hg : w.grownBy w' (some m)) : RdC w' sv cs :=
  RdG.same h fun i hi => hg.block _ (RdG.block h colOk hi) (fun e => by
    injection e with e
    exact model_apart hM h i (by rw [List.length_map] at hi; exact hi) e)

end Go.Proofs.YteiphdcgffapbaaGreatDoor

