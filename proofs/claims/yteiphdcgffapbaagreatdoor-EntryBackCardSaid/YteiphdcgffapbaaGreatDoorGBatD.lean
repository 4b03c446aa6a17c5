/-
  What is told of a set that is taken off bytes, in lists: of the program's reader and of the document's (no program in it).
-/
import Derived.Test.YteiphdcgffapbaaGreatDoorGBatP
import Derived.Test.YteiphdcgffapbaaGreatDoorGBaseB
import Derived.Test.YteiphdcgffapbaaGreatDoorGRdr
set_option linter.unusedVariables false
set_option linter.unusedSimpArgs false
set_option maxRecDepth 1000000
namespace Go.Proofs.YteiphdcgffapbaaGreatDoor
open Go.RowKit

/-- A set off bytes, by a schema that has a fault (E) or none. -/
def bat (lt : List Ce → List Ce → Bool) (E : Nat) (l : List UInt8) (kinds : List Int) (k : Nat) : List Bp × Nat × Nat := if E ≠ 0 then ([], k, E) else btRd lt l kinds k
/-- What is left behind the columns: weights, and the order of the rows. -/
def btFin (lt : List Ce → List Ce → Bool) (l : List UInt8) (n : Nat) (cols : List (List Ce)) (k : Nat) : List Bp × Nat × Nat :=
  if (btRdWs l n k).2.2 ≠ 0 then ([], (btRdWs l n k).2.1, (btRdWs l n k).2.2)
  else if btAsc lt (btRows n cols) = false then ([], (btRdWs l n k).2.1, 9)
  else ((btRows n cols).zip (btRdWs l n k).1, (btRdWs l n k).2.1, 0)
/-- .. with some weights there already, and so many to come. -/
def btFin2 (lt : List Ce → List Ce → Bool) (l : List UInt8) (n : Nat) (cols : List (List Ce)) (ws : List Int) (r k : Nat) : List Bp × Nat × Nat :=
  if (btRdWs l r k).2.2 ≠ 0 then ([], (btRdWs l r k).2.1, (btRdWs l r k).2.2)
  else if btAsc lt (btRows n cols) = false then ([], (btRdWs l r k).2.1, 9)
  else ((btRows n cols).zip (ws ++ (btRdWs l r k).1), (btRdWs l r k).2.1, 0)
theorem btFin2_end {lt : List Ce → List Ce → Bool} {l : List UInt8} {n : Nat} {cols : List (List Ce)} {ws : List Int} {r k : Nat} (h : (rdU l k 18446744073709551615).2.2 ≠ 0) :
    btFin2 lt l n cols ws (r + 1) k = ([], (rdU l k 18446744073709551615).2.1, (rdU l k 18446744073709551615).2.2) := by
  have e : btRdWs l (r + 1) k = ([], (rdU l k 18446744073709551615).2.1, (rdU l k 18446744073709551615).2.2) := by rw [btRdWs, if_pos h]
  unfold btFin2
  rw [e, if_pos h]
theorem btFin2_zero {lt : List Ce → List Ce → Bool} {l : List UInt8} {n : Nat} {cols : List (List Ce)} {ws : List Int} {r k : Nat} (h : (rdU l k 18446744073709551615).2.2 = 0) (hz : zag (rdU l k 18446744073709551615).1 = 0) :
    btFin2 lt l n cols ws (r + 1) k = ([], (rdU l k 18446744073709551615).2.1, 2) := by
  have e : btRdWs l (r + 1) k = ([], (rdU l k 18446744073709551615).2.1, 2) := by rw [btRdWs, if_neg (fun hh => hh h), if_pos hz]
  unfold btFin2
  rw [e, if_pos (by simp)]
theorem btFin2_go {lt : List Ce → List Ce → Bool} {l : List UInt8} {n : Nat} {cols : List (List Ce)} {ws : List Int} {r k : Nat} (h : (rdU l k 18446744073709551615).2.2 = 0) (hz : zag (rdU l k 18446744073709551615).1 ≠ 0) :
    btFin2 lt l n cols ws (r + 1) k = btFin2 lt l n cols (ws ++ [zag (rdU l k 18446744073709551615).1]) r (rdU l k 18446744073709551615).2.1 := by
  have e : btRdWs l (r + 1) k = if (btRdWs l r (rdU l k 18446744073709551615).2.1).2.2 ≠ 0 then ([], (btRdWs l r (rdU l k 18446744073709551615).2.1).2.1, (btRdWs l r (rdU l k 18446744073709551615).2.1).2.2) else (zag (rdU l k 18446744073709551615).1 :: (btRdWs l r (rdU l k 18446744073709551615).2.1).1, (btRdWs l r (rdU l k 18446744073709551615).2.1).2.1, 0) := by
    rw [btRdWs, if_neg (fun hh => hh h), if_neg hz]
  unfold btFin2
  rw [e]
  by_cases h2 : (btRdWs l r (rdU l k 18446744073709551615).2.1).2.2 ≠ 0
  · simp only [if_pos h2]
  · simp only [if_neg h2]
    rw [if_neg (by simp), List.append_assoc]; rfl
theorem btFin2_nil (lt : List Ce → List Ce → Bool) (l : List UInt8) (n : Nat) (cols : List (List Ce)) (ws : List Int) (k : Nat) :
    btFin2 lt l n cols ws 0 k = if btAsc lt (btRows n cols) = false then ([], k, 9) else ((btRows n cols).zip ws, k, 0) := by
  unfold btFin2
  rw [btRdWs, if_neg (by simp)]
  dsimp only
  rw [List.append_nil]
theorem btAsc_iff (lt : List Ce → List Ce → Bool) : ∀ L : List (List Ce), btAsc lt L = true ↔ ∀ j, j + 1 < L.length → lt (L.getD j []) (L.getD (j + 1) []) = true
  | [] => by simp [btAsc]
  | [_] => by simp [btAsc]
  | a :: b :: r => by
    rw [btAsc, Bool.and_eq_true, btAsc_iff lt (b :: r)]
    constructor
    · rintro ⟨h1, h2⟩ j hj
      cases j with
      | zero => exact h1
      | succ j => exact h2 j (by simpa using hj)
    · intro h
      exact ⟨h 0 (by simp), fun j hj => h (j + 1) (by simpa using hj)⟩
def btCont (lt : List Ce → List Ce → Bool) (l : List UInt8) (n : Nat) (done : List (List Ce)) (kinds : List Int) (k : Nat) : List Bp × Nat × Nat :=
  if (btRdCols l n kinds k).2.2 ≠ 0 then ([], (btRdCols l n kinds k).2.1, (btRdCols l n kinds k).2.2)
  else btFin lt l n (done ++ (btRdCols l n kinds k).1) (btRdCols l n kinds k).2.1
theorem btCont_nil (lt : List Ce → List Ce → Bool) (l : List UInt8) (n : Nat) (done : List (List Ce)) (k : Nat) : btCont lt l n done [] k = btFin lt l n done k := by
  unfold btCont
  rw [btRdCols, if_neg (by simp), List.append_nil]
theorem btCont_cons {lt : List Ce → List Ce → Bool} {l : List UInt8} {n : Nat} {done : List (List Ce)} {kd : Int} {r : List Int} {k : Nat} (h : (rdK l kd n k).2.2 = 0) :
    btCont lt l n done (kd :: r) k = btCont lt l n (done ++ [(rdK l kd n k).1]) r (rdK l kd n k).2.1 := by
  unfold btCont
  have e : btRdCols l n (kd :: r) k = if (btRdCols l n r (rdK l kd n k).2.1).2.2 ≠ 0 then ([], (btRdCols l n r (rdK l kd n k).2.1).2.1, (btRdCols l n r (rdK l kd n k).2.1).2.2) else ((rdK l kd n k).1 :: (btRdCols l n r (rdK l kd n k).2.1).1, (btRdCols l n r (rdK l kd n k).2.1).2.1, 0) := by
    rw [btRdCols, if_neg (fun hh => hh h)]
  rw [e]
  by_cases h2 : (btRdCols l n r (rdK l kd n k).2.1).2.2 ≠ 0
  · simp only [if_pos h2]
  · simp only [if_neg h2]
    rw [if_neg (by simp), List.append_assoc]; rfl
theorem btCont_end {lt : List Ce → List Ce → Bool} {l : List UInt8} {n : Nat} {done : List (List Ce)} {kd : Int} {r : List Int} {k : Nat} (h : (rdK l kd n k).2.2 ≠ 0) :
    btCont lt l n done (kd :: r) k = ([], (rdK l kd n k).2.1, (rdK l kd n k).2.2) := by
  unfold btCont
  have e : btRdCols l n (kd :: r) k = ([], (rdK l kd n k).2.1, (rdK l kd n k).2.2) := by rw [btRdCols, if_pos h]
  rw [e, if_pos h]
theorem btRd_cont {lt : List Ce → List Ce → Bool} {l : List UInt8} {kinds : List Int} {k : Nat} (h : (rdU l k 1024).2.2 = 0) : btRd lt l kinds k = btCont lt l (rdU l k 1024).1 [] kinds (rdU l k 1024).2.1 := by
  unfold btRd btCont btFin
  rw [if_neg (fun hh => hh h), List.nil_append]
theorem CES.nil9 : CES [] := fun c hc => absurd hc (by simp)
theorem CES.snoc9 {cs : List CellB} (h : CES cs) {c : CellB} (hc : ceS c) : CES (cs ++ [c]) := by
  intro x hx
  rcases List.mem_append.1 hx with hx | hx
  · exact h x hx
  · rw [List.mem_singleton.1 hx]; exact hc
theorem cesL_getD9 {cs : List CellB} {k : Nat} (hk : k < cs.length) : (cesL cs).getD k (0, []) = ceL (cs.getD k default) := by
  unfold cesL; simp [List.getD, hk]
/-- The rows hold these columns' cells. -/
def RowsAre (ts : List TriB) (done : List (List Ce)) : Prop := ∀ (i : Nat) (t : TriB), ts[i]? = some t → cesL t.2.1 = (done.map fun c => c.getD i (0, [])) ∧ t.2.2 = 0 ∧ CES t.2.1

end Go.Proofs.YteiphdcgffapbaaGreatDoor


/-
  A set's bytes are read as the set, and what is read has those bytes (no program in it).
-/
namespace Go.Proofs.YteiphdcgffapbaaGreatDoor
open Go.RowKit Go.Shelf

/-- What is read of bytes by a schema. -/
abbrev batS (cs : List ColB) (l : List UInt8) (k : Nat) : List Bp × Nat × Nat := bat (ltE cs) (errS (colsL cs)) l (kindsL cs) k
theorem chk_schema {cs : List ColB} {ps : List PairB} (hP : PSO ps) (h : chkZ cs ps = 0) : errS (colsL cs) = 0 := ((chkZ_zero hP).1 h).1
theorem batS_eq {cs : List ColB} (h : errS (colsL cs) = 0) (l : List UInt8) (k : Nat) : batS cs l k = btRd (ltE cs) l (kindsL cs) k := by
  unfold batS bat
  rw [if_neg (by simpa using h)]
theorem bat_put {cs : List ColB} {ps : List PairB} (hP : PSO ps) (h : chkZ cs ps = 0) {l m : List UInt8} {k : Nat} (hd : l.drop k = btWr (kindsL cs) (psL ps) ++ m) : batS cs l k = (psL ps, k + (btWr (kindsL cs) (psL ps)).length, 0) := by
  rw [batS_eq (chk_schema hP h)]
  exact btRd_put (set_ok hP h).2 hd
theorem psL_nil {ps : List PairB} (h : psL ps = []) : ps = [] := by
  unfold psL at h
  exact List.map_eq_nil_iff.1 h
/-- How many bytes: at most so many. -/
theorem text_small {cs : List ColB} : ∀ {ps : List PairB}, (∀ p ∈ ps, errRow cs p.1 = 0 ∧ CES p.1) → btText (rowsL ps) ≤ 2048 * ps.length
  | [], _ => by simp [rowsL, btText]
  | p :: t, h => by
    have ih := text_small (ps := t) (fun q hq => h q (by simp [hq]))
    obtain ⟨h1, h2⟩ := h p (by simp)
    have hl := (errRow_len h1).2.1
    have hc : cs.length ≤ 8 := by have := (errS_zero (errRow_len h1).1).2.1; rw [colsL_length] at this; exact this
    rw [rowsL_cons, btText, List.length_cons]
    have hs : sumT (cesL p.1) ≤ 256 * (cesL p.1).length := by
      have key : ∀ r : List Ce, (∀ c ∈ r, c.2.length ≤ 256) → sumT r ≤ 256 * r.length := fun r => by
        induction r with
        | nil => intro _; simp [sumT]
        | cons c r ih2 => intro hr; have := ih2 (fun x hx => hr x (by simp [hx])); have := hr c (by simp); rw [sumT, List.length_cons]; omega
      refine key _ (fun c hc9 => ?_)
      obtain ⟨i, hi⟩ := List.getElem?_of_mem hc9
      obtain ⟨hi1, hi2⟩ := List.getElem?_eq_some_iff.1 hi
      rw [cesL_length] at hi1
      have hf := row_fit h1 h2 (i := i) (kd := (cs[i]'(by omega)).2) (by unfold kindsL; simp [show i < cs.length by omega])
      have e : (cesL p.1).getD i (0, []) = c := by simp [List.getD, hi]
      rw [e] at hf
      by_cases ht : (cs[i]'(by omega)).2 = 3 ∨ (cs[i]'(by omega)).2 = 4
      · exact (hf.text ht).2.1
      · rw [(hf.num ht).1]; simp
    rw [cesL_length] at hs
    omega
theorem wr_le {cs : List ColB} {ps : List PairB} (hP : PSO ps) (h : chkZ cs ps = 0) : (btWr (kindsL cs) (psL ps)).length ≤ 12 + 10 * ps.length * (cs.length + 1) + btText (rowsL ps) := by
  have := btWr_le (set_ok hP h).2
  rw [psL_length, psL_rows, show (kindsL cs).length = cs.length from by unfold kindsL; rw [List.length_map]] at this
  exact this
theorem wr_small {cs : List ColB} {ps : List PairB} (hP : PSO ps) (h : chkZ cs ps = 0) : (btWr (kindsL cs) (psL ps)).length ≤ 2500000 := by
  have h1 := wr_le hP h
  obtain ⟨hS, hn, hs⟩ := (chkZ_zero hP).1 h
  have h2 := text_small (cs := cs) (ps := ps) (fun p hp => hs.all p hp)
  have hc : cs.length ≤ 8 := by have := (errS_zero hS).2.1; rw [colsL_length] at this; exact this
  have h3 : 10 * ps.length * (cs.length + 1) ≤ 10 * ps.length * 9 := Nat.mul_le_mul_left _ (by omega)
  omega
theorem wr_pos (cs : List ColB) (ps : List PairB) : 0 < (btWr (kindsL cs) (psL ps)).length := by
  unfold btWr
  rw [List.length_append]
  have := encU_pos (psL ps).length
  omega

end Go.Proofs.YteiphdcgffapbaaGreatDoor

