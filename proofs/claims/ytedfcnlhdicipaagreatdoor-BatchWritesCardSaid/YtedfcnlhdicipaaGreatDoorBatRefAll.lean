/-
  The document's own answers for layer 10 (deckleref10), with no premise left: Write, Read.
-/
import Derived.Test.YtedfcnlhdicipaaGreatDoorBatRefTake
import Derived.Test.YtedfcnlhdicipaaGreatDoorGBatP
import Derived.Test.YtedfcnlhdicipaaGreatDoorColRefRead
import Derived.Test.YtedfcnlhdicipaaGreatDoorGZRef
import Derived.Test.YtedfcnlhdicipaaGreatDoorGSchema
import Derived.Test.YtedfcnlhdicipaaGreatDoorGRow
set_option linter.unusedVariables false
set_option linter.unusedSimpArgs false
set_option maxRecDepth 1000000
namespace Go.Proofs.YtedfcnlhdicipaaGreatDoor
open Go.RowKit Go.Shelf

/-- A model's block holds no column. -/
theorem model_apart {w : World} {m : Nat} {v sv : Value} {l : List UInt8} {k x : Nat} {cs : List ColB} (hM : Mdl w m v l k x) (h : RdC w sv cs) : ∀ i, i < cs.length → (adr sv (i * 2)).block ≠ m := by
  intro i hi e
  obtain ⟨ao, cap, hv, _⟩ := hM.rd.shape
  obtain ⟨b, o, ha, hc⟩ := RdG.at h (i := i) (by rw [List.length_map]; exact hi)
  have h0 := hc 0 (.string (cs.getD i default).1) (by rw [getD_map colV cs i hi default]; rfl)
  have ha' : adr sv (i * 2) = ⟨b, o, none⟩ := ha
  rw [ha'] at e
  have e : b = m := e
  subst e
  rw [Nat.add_zero, cell_of_row _ _ _ _ _ _ hM.blk, hv] at h0
  rcases o with _ | _ | _ | o
  · simp at h0
  · simp at h0
  · simp at h0
  · simp at h0
theorem RdC.aside {w w' : World} {m : Nat} {v sv : Value} {l : List UInt8} {k x : Nat} {cs : List ColB} (hM : Mdl w m v l k x) (h : RdC w sv cs) (hg : w.grownBy w' (some m)) : RdC w' sv cs :=
  RdG.same h fun i hi => hg.block _ (RdG.block h colOk hi) (fun e => by
    injection e with e
    exact model_apart hM h i (by rw [List.length_map] at hi; exact hi) e)

theorem ref_Read10F (v sv : Value) (l : List UInt8) (cs : List ColB) (w : World) (h : Rd w v l) (hsv : RdC w sv cs) (hC : CS cs) :
    Calls Tryz.prog 15 #[v, sv] w (RdO10 w l (bat (ltE cs) (errS (colsL cs)) l (kindsL cs) 0)) := by
  refine ref_Read10 sv v l w h _ (fun wz m vz hb hM => ?_)
  have hz := hsv.later hb (Nat.le_refl _)
  exact ref_Take10 sv cs m vz l 0 wz hM hC (errS (colsL cs)) (cmpE cs) (fun w9 hg => RdC.aside hM hz hg) (ref_Check05 sv cs wz hz hC)
    (fun hE => by have := (errS_zero hE).2.1; rw [colsL_length] at this; exact this)
    (fun w9 va vb a b hg ha hb' hA hB => by
      have := ref_Compare06 sv va vb cs a b w9 (RdC.aside hM hz hg) ha hb' hC hA hB
      unfold cmpE
      rw [cesB_cesL, cesB_cesL]
      exact this)
    (fun w9 k kd n hM9 => ref_Take09 m vz l k w9 hM9 kd n)

theorem ref_Write10F (sv av : Value) (cs : List ColB) (ps : List PairB) (w : World) (hR : RdC w sv cs) (hP : RdP w av ps) (hC : CS cs) (hPS : PSO ps) :
    Calls Tryz.prog 11 #[sv, av] w fun e w' => ∃ b, e = .returned (.tuple #[b, .int .i64 (chkZ cs ps : Nat)]) ∧ Own w' w.heap.size b (if chkZ cs ps = 0 then btWr (kindsL cs) (psL ps) else []) ∧ Below w.heap.size w w' :=
  ref_Write10 sv av cs ps w hR hP hC hPS (chkZ cs ps) (fun wz hz => ref_Check08 sv av cs ps wz (hR.later hz (Nat.le_refl _)) (hP.later hz (Nat.le_refl _)) hC hPS) (fun h => (set_ok hPS h).1)

end Go.Proofs.YtedfcnlhdicipaaGreatDoor
