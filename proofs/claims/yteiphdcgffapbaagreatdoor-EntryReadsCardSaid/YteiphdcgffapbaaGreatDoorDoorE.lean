/-
  What the frames of layer 12's laws want beside layer 10's: an entry that came in; the kinds of frames, as the row lists them; lists of pairs.
-/
import Derived.Test.YteiphdcgffapbaaGreatDoorGDoor
import Derived.Test.YteiphdcgffapbaaGreatDoorEntry
import Derived.Test.YteiphdcgffapbaaGreatDoorGZDefs
import Derived.Lib.LaidTab
import Derived.LaidLaws
import Derived.Deep.Strs
set_option linter.unusedVariables false
set_option linter.unusedSimpArgs false
set_option maxRecDepth 1000000
namespace Go.Proofs.YteiphdcgffapbaaGreatDoor
open Go.ChangeShapes Go.WideShapes Go.ChangeAt Go.RowKit Go.Shelf Go.Deep

theorem frames_of {W : World} (h : Lib.VarReads Tryz.prog W "deckle/entry.frames" Rows.laid_deckle_entry_frames) : Frs W := by
  have e : (Rows.laid_deckle_entry_frames : DataW Unit) = Lib.tabData .i64 [2, 1] := by kernel_rfl
  rw [e] at h
  obtain ⟨g', t', cs, fuel, p, hg', ht', hvar, hd⟩ := h
  have hg : Tryz.prog.globalNamed "deckle/entry.frames" = some 0 := by kernel_rfl
  have hty : (Tryz.prog.globals[0]?).map (·.type) = some 69 := by kernel_rfl
  obtain rfl := Option.some.inj (hg.symm.trans hg')
  obtain rfl := Option.some.inj (hty.symm.trans ht')
  have hT : Lib.TabIs Tryz.prog W "deckle/entry.frames" .i64 [2, 1] := by
    unfold Lib.TabIs
    rw [hvar, ← Lib.cells_of_tab (n := 2) (e := 3) (by kernel_rfl) (by kernel_rfl) (by kernel_rfl) (by kernel_rfl) hd]
  exact ⟨hT.cell (g := 0) (by kernel_rfl) 0 (by decide), hT.cell (g := 0) (by kernel_rfl) 1 (by decide)⟩

section
variable {H : Type} {enc : TypeId × Value → H} {W : World}

end

end Go.Proofs.YteiphdcgffapbaaGreatDoor
