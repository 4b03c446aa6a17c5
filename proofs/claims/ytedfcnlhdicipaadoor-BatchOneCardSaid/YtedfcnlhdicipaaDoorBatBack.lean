/-
  A set's bytes are read as the set, and what is read has those bytes (no program in it).
-/
import Derived.Test.YtedfcnlhdicipaaDoorGBatP
import Derived.Test.YtedfcnlhdicipaaDoorBatDefs
set_option linter.unusedVariables false
set_option linter.unusedSimpArgs false
set_option maxRecDepth 1000000
namespace Go.Proofs.YtedfcnlhdicipaaDoor
open Go.RowKit Go.Shelf

/-- What is read of bytes by a schema. -/
abbrev batS (cs : List ColB) (l : List UInt8) (k : Nat) : List Bp × Nat × Nat := bat (ltE cs) (errS (colsL cs)) l (kindsL cs) k
theorem chk_schema {cs : List ColB} {ps : List PairB} (hP : PSO ps) (h : chkZ cs ps = 0) : errS (colsL cs) = 0 := ((chkZ_zero hP).1 h).1
theorem batS_eq {cs : List ColB} (h : errS (colsL cs) = 0) (l : List UInt8) (k : Nat) : batS cs l k = btRd (ltE cs) l (kindsL cs) k := by
  unfold batS bat
  rw [if_neg (by simpa using h)]
theorem bat_put {cs : List ColB} {ps : List PairB} (hP : PSO ps) (h : chkZ cs ps = 0) {l m : List UInt8} {k : Nat} (hd : l.drop k = btWr (kindsL cs) (psL ps) ++ m) : batS cs l k = (psL ps, k + (btWr (kindsL cs) (psL ps)).length, 0) := by
  rw [batS_eq (chk_schema hP h)]
  exact btRd_put (set_ok hP h).2 hd
theorem bat_less {cs : List ColB} {ps : List PairB} (hP : PSO ps) (h : chkZ cs ps = 0) {l : List UInt8} {k e : Nat} (hd : l.drop k = (btWr (kindsL cs) (psL ps)).take e) (he : e < (btWr (kindsL cs) (psL ps)).length) : (batS cs l k).2.2 = 5 := by
  rw [batS_eq (chk_schema hP h)]
  exact btRd_less (set_ok hP h).2 hd he
theorem batE_zero {R : List Bp × Nat × Nat} {l : List UInt8} (h : batE R l = 0) : R.2.2 = 0 ∧ l.length ≤ R.2.1 ∧ batC R l = R.1 := by
  have hc : batC R l = R.1 := by unfold batC; rw [if_pos h]
  unfold batE told at h
  by_cases hx : R.2.2 = 0
  · rw [if_pos hx] at h
    by_cases hk : R.2.1 < l.length
    · rw [if_pos hk] at h; cases h
    · exact ⟨hx, by omega, hc⟩
  · rw [if_neg hx] at h; exact absurd h hx
theorem batE_of {R : List Bp × Nat × Nat} {l : List UInt8} (h : R.2.2 = 0) (hk : l.length ≤ R.2.1) : batE R l = 0 ∧ batC R l = R.1 := by
  have : batE R l = 0 := by unfold batE told; rw [if_pos h, if_neg (by omega)]
  exact ⟨this, by unfold batC; rw [if_pos this]⟩
/-- What is read of all bytes is a set, and has them. -/
theorem bat_whole {cs : List ColB} {ps : List PairB} {l : List UInt8} (hP : PSO ps) (h : batE (batS cs l 0) l = 0) (hps : psL ps = batC (batS cs l 0) l) : chkZ cs ps = 0 ∧ (batS cs l 0).2.1 = l.length ∧ btWr (kindsL cs) (psL ps) = l := by
  obtain ⟨h1, h2, h3⟩ := batE_zero h
  rw [h3] at hps
  have hS : errS (colsL cs) = 0 := by
    apply Decidable.of_not_not
    intro h9
    unfold batS bat at h1
    rw [if_pos h9] at h1
    exact h9 h1
  rw [batS_eq hS] at h1 h2 hps ⊢
  obtain ⟨e1, e2, e3⟩ := btRd_enc (Nat.zero_le _) h1
  have hk : (btRd (ltE cs) l (kindsL cs) 0).2.1 = l.length := by omega
  rw [hk, List.take_length, List.take_zero, List.nil_append] at e1
  rw [← hps] at e1 e3
  exact ⟨ok_set hP hS e3, hk, e1.symm⟩
theorem batS_place (cs : List ColB) (l : List UInt8) : (batS cs l 0).2.1 ≤ l.length := by
  unfold batS bat
  split
  · exact Nat.zero_le _
  · exact btRd_place (Nat.zero_le _)
theorem batC_no {R : List Bp × Nat × Nat} {l : List UInt8} (h : batE R l ≠ 0) : batC R l = [] := by unfold batC; rw [if_neg h]
theorem psL_nil {ps : List PairB} (h : psL ps = []) : ps = [] := by
  unfold psL at h
  exact List.map_eq_nil_iff.1 h
/-- How many bytes: at most so many. -/
theorem text_small {cs : List ColB} : ∀ {ps : List PairB}, (∀ p ∈ ps, errRow cs p.1 = 0 ∧ CES p.1) → btText (rowsL ps) ≤ 2048 * ps.length
  | [], _ => by simp [rowsL, btText]
  | p :: t, h => by
    have ih := text_small (ps := t) (fun q hq => h q (by simp [hq]))
    obtain ⟨h1, h2⟩ := h p (by simp)
    have hl := (errRow_len h1).2.1
    have hc : cs.length ≤ 8 := by have := (errS_zero (errRow_len h1).1).2.1; rw [colsL_length] at this; exact this
    rw [rowsL_cons, btText, List.length_cons]
    have hs : sumT (cesL p.1) ≤ 256 * (cesL p.1).length := by
      have key : ∀ r : List Ce, (∀ c ∈ r, c.2.length ≤ 256) → sumT r ≤ 256 * r.length := fun r => by
        induction r with
        | nil => intro _; simp [sumT]
        | cons c r ih2 => intro hr; have := ih2 (fun x hx => hr x (by simp [hx])); have := hr c (by simp); rw [sumT, List.length_cons]; omega
      refine key _ (fun c hc9 => ?_)
      obtain ⟨i, hi⟩ := List.getElem?_of_mem hc9
      obtain ⟨hi1, hi2⟩ := List.getElem?_eq_some_iff.1 hi
      rw [cesL_length] at hi1
      have hf := row_fit h1 h2 (i := i) (kd := (cs[i]'(by omega)).2) (by unfold kindsL; simp [show i < cs.length by omega])
      have e : (cesL p.1).getD i (0, []) = c := by simp [List.getD, hi]
      rw [e] at hf
      by_cases ht : (cs[i]'(by omega)).2 = 3 ∨ (cs[i]'(by omega)).2 = 4
      · exact (hf.text ht).2.1
      · rw [(hf.num ht).1]; simp
    rw [cesL_length] at hs
    omega
theorem wr_le {cs : List ColB} {ps : List PairB} (hP : PSO ps) (h : chkZ cs ps = 0) : (btWr (kindsL cs) (psL ps)).length ≤ 12 + 10 * ps.length * (cs.length + 1) + btText (rowsL ps) := by
  have := btWr_le (set_ok hP h).2
  rw [psL_length, psL_rows, show (kindsL cs).length = cs.length from by unfold kindsL; rw [List.length_map]] at this
  exact this
theorem wr_small {cs : List ColB} {ps : List PairB} (hP : PSO ps) (h : chkZ cs ps = 0) : (btWr (kindsL cs) (psL ps)).length ≤ 2500000 := by
  have h1 := wr_le hP h
  obtain ⟨hS, hn, hs⟩ := (chkZ_zero hP).1 h
  have h2 := text_small (cs := cs) (ps := ps) (fun p hp => hs.all p hp)
  have hc : cs.length ≤ 8 := by have := (errS_zero hS).2.1; rw [colsL_length] at this; exact this
  have h3 : 10 * ps.length * (cs.length + 1) ≤ 10 * ps.length * 9 := Nat.mul_le_mul_left _ (by omega)
  omega
theorem wr_pos (cs : List ColB) (ps : List PairB) : 0 < (btWr (kindsL cs) (psL ps)).length := by
  unfold btWr
  rw [List.length_append]
  have := encU_pos (psL ps).length
  omega

end Go.Proofs.YtedfcnlhdicipaaDoor
