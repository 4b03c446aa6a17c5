/-
  What the frames of layer 12's laws want beside layer 10's: an entry that came in; the kinds of frames, as the row lists them; lists of pairs.
-/
import Derived.Test.YteiphdcgffapbaaGreatDoorGDoor
import Derived.Test.YteiphdcgffapbaaGreatDoorEntry
import Derived.Test.YteiphdcgffapbaaGreatDoorGZDefs
import Derived.Lib.LaidTab
import Derived.LaidLaws
import Derived.Deep.Strs
set_option linter.unusedVariables false
set_option linter.unusedSimpArgs false
set_option maxRecDepth 1000000
namespace Go.Proofs.YteiphdcgffapbaaGreatDoor
open Go.ChangeShapes Go.WideShapes Go.ChangeAt Go.RowKit Go.Shelf Go.Deep

theorem frames_of {W : World} (h : Lib.VarReads Tryz.prog W "deckle/entry.frames" Rows.laid_deckle_entry_frames) : Frs W := by
  have e : (Rows.laid_deckle_entry_frames : DataW Unit) = Lib.tabData .i64 [2, 1] := by kernel_rfl
  rw [e] at h
  obtain ⟨g', t', cs, fuel, p, hg', ht', hvar, hd⟩ := h
  have hg : Tryz.prog.globalNamed "deckle/entry.frames" = some 0 := by kernel_rfl
  have hty : (Tryz.prog.globals[0]?).map (·.type) = some 69 := by kernel_rfl
  obtain rfl := Option.some.inj (hg.symm.trans hg')
  obtain rfl := Option.some.inj (hty.symm.trans ht')
  have hT : Lib.TabIs Tryz.prog W "deckle/entry.frames" .i64 [2, 1] := by
    unfold Lib.TabIs
    rw [hvar, ← Lib.cells_of_tab (n := 2) (e := 3) (by kernel_rfl) (by kernel_rfl) (by kernel_rfl) (by kernel_rfl) hd]
  exact ⟨hT.cell (g := 0) (by kernel_rfl) 0 (by decide), hT.cell (g := 0) (by kernel_rfl) 1 (by decide)⟩

section
variable {H : Type} {enc : TypeId × Value → H} {W : World}

theorem entry_open {v : Value} {d : DataW H} {pl : List MemPlace} {ts : List TypeId} {ds : List (DataW H)} {j : Nat}
    (h : DataW.Trod enc Tryz.prog W 0 (fun _ => true) true 25 v d pl) (hz : (DataW.weightsEach Tryz.prog ts ds).all (· ≤ reachBytes) = true) (ht : ts[j]? = some 25) (hd : ds[j]? = some d) : ∃ x : EntB, RdN W v x ∧ EnO x := by
  have hzd : ∀ n ∈ d.weights Tryz.prog 25, n ≤ reachBytes := fun n hn => by
    have := List.all_eq_true.1 hz _ (DataW.weights_mem_each ht hd n hn)
    simpa using this
  obtain ⟨fuel, hf⟩ := h
  obtain ⟨y0, y1, y2, n, hx, hl, h0, h1, h2⟩ := Go.Deep.trod_struct3 Tryz.underlying25 hf
  have hc : Tryz.prog.cellsOf 25 = 3 := by kernel_rfl
  rw [hc] at hl
  obtain ⟨c0, c1, c2, hcs⟩ : ∃ c0 c1 c2, v.cells.toList = [c0, c1, c2] := by
    match hq : v.cells.toList, (hl : _) with
    | [c0, c1, c2], _ => exact ⟨c0, c1, c2, rfl⟩
  rw [hcs] at h0 h1 h2
  have k9 : Tryz.prog.cellsOf 3 = 1 := by kernel_rfl
  have k8 : Tryz.prog.cellsOf 2 = 1 := by kernel_rfl
  have k7 : Tryz.prog.cellsOf 23 = 1 := by kernel_rfl
  simp [k9, k8, k7] at h0 h1 h2
  obtain ⟨a, e0, e1, wa⟩ := DataW.trod_int Tryz.underlying3 h0
  obtain ⟨b, e2, e3, wb⟩ := DataW.trod_int Tryz.underlying2 h1
  simp at e0 e2
  subst e0 e2
  injection hx with hx1 hx2
  obtain ⟨ps, hr, hp, _⟩ := pairs_core (d := y2.1) (pl := y2.2) h2 (fun n hn => hzd n (by
    rw [hx1]
    simp only [DataW.weights, Tryz.underlying25]
    simp [DataW.weightsEach, hn]))
  refine ⟨(a, b, ps), ⟨c2, ?_, hr⟩, bd_i64 wa, bd_i64 wb, hp⟩
  exact cells_exact (by simp) hcs

end

end Go.Proofs.YteiphdcgffapbaaGreatDoor
