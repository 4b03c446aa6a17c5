/-
  What is told of a set that is taken off bytes, in lists: of the program's reader and of the document's (no program in it).
-/
import Derived.Test.YteiphdcgffapbaaGreatDoorGBatP
import Derived.Test.YteiphdcgffapbaaGreatDoorGBaseB
import Derived.Test.YteiphdcgffapbaaGreatDoorGRdr
set_option linter.unusedVariables false
set_option linter.unusedSimpArgs false
set_option maxRecDepth 1000000
namespace Go.Proofs.YteiphdcgffapbaaGreatDoor
open Go.RowKit

/-- A set off bytes, by a schema that has a fault (E) or none. -/
def bat (lt : List Ce → List Ce → Bool) (E : Nat) (l : List UInt8) (kinds : List Int) (k : Nat) : List Bp × Nat × Nat := if E ≠ 0 then ([], k, E) else btRd lt l kinds k
/-- What is left behind the columns: weights, and the order of the rows. -/
def btFin (lt : List Ce → List Ce → Bool) (l : List UInt8) (n : Nat) (cols : List (List Ce)) (k : Nat) : List Bp × Nat × Nat :=
  if (btRdWs l n k).2.2 ≠ 0 then ([], (btRdWs l n k).2.1, (btRdWs l n k).2.2)
  else if btAsc lt (btRows n cols) = false then ([], (btRdWs l n k).2.1, 9)
  else ((btRows n cols).zip (btRdWs l n k).1, (btRdWs l n k).2.1, 0)
/-- .. with some weights there already, and so many to come. -/
def btFin2 (lt : List Ce → List Ce → Bool) (l : List UInt8) (n : Nat) (cols : List (List Ce)) (ws : List Int) (r k : Nat) : List Bp × Nat × Nat :=
  if (btRdWs l r k).2.2 ≠ 0 then ([], (btRdWs l r k).2.1, (btRdWs l r k).2.2)
  else if btAsc lt (btRows n cols) = false then ([], (btRdWs l r k).2.1, 9)
  else ((btRows n cols).zip (ws ++ (btRdWs l r k).1), (btRdWs l r k).2.1, 0)
theorem btFin2_end {lt : List Ce → List Ce → Bool} {l : List UInt8} {n : Nat} {cols : List (List Ce)} {ws : List Int} {r k : Nat} (h : (rdU l k 18446744073709551615).2.2 ≠ 0) :
    btFin2 lt l n cols ws (r + 1) k = ([], (rdU l k 18446744073709551615).2.1, (rdU l k 18446744073709551615).2.2) := by
  have e : btRdWs l (r + 1) k = ([], (rdU l k 18446744073709551615).2.1, (rdU l k 18446744073709551615).2.2) := by rw [btRdWs, if_pos h]
  unfold btFin2
  rw [e, if_pos h]
theorem btFin2_zero {lt : List Ce → List Ce → Bool} {l : List UInt8} {n : Nat} {cols : List (List Ce)} {ws : List Int} {r k : Nat} (h : (rdU l k 18446744073709551615).2.2 = 0) (hz : zag (rdU l k 18446744073709551615).1 = 0) :
    btFin2 lt l n cols ws (r + 1) k = ([], (rdU l k 18446744073709551615).2.1, 2) := by
  have e : btRdWs l (r + 1) k = ([], (rdU l k 18446744073709551615).2.1, 2) := by rw [btRdWs, if_neg (fun hh => hh h), if_pos hz]
  unfold btFin2
  rw [e, if_pos (by simp)]
theorem btFin2_go {lt : List Ce → List Ce → Bool} {l : List UInt8} {n : Nat} {cols : List (List Ce)} {ws : List Int} {r k : Nat} (h : (rdU l k 18446744073709551615).2.2 = 0) (hz : zag (rdU l k 18446744073709551615).1 ≠ 0) :
    btFin2 lt l n cols ws (r + 1) k = btFin2 lt l n cols (ws ++ [zag (rdU l k 18446744073709551615).1]) r (rdU l k 18446744073709551615).2.1 := by
  have e : btRdWs l (r + 1) k = if (btRdWs l r (rdU l k 18446744073709551615).2.1).2.2 ≠ 0 then ([], (btRdWs l r (rdU l k 18446744073709551615).2.1).2.1, (btRdWs l r (rdU l k 18446744073709551615).2.1).2.2) else (zag (rdU l k 18446744073709551615).1 :: (btRdWs l r (rdU l k 18446744073709551615).2.1).1, (btRdWs l r (rdU l k 18446744073709551615).2.1).2.1, 0) := by
    rw [btRdWs, if_neg (fun hh => hh h), if_neg hz]
  unfold btFin2
  rw [e]
  by_cases h2 : (btRdWs l r (rdU l k 18446744073709551615).2.1).2.2 ≠ 0
  · simp only [if_pos h2]
  · simp only [if_neg h2]
    rw [if_neg (by simp), List.append_assoc]; rfl
theorem btFin2_nil (lt : List Ce → List Ce → Bool) (l : List UInt8) (n : Nat) (cols : List (List Ce)) (ws : List Int) (k : Nat) :
    btFin2 lt l n cols ws 0 k = if btAsc lt (btRows n cols) = false then ([], k, 9) else ((btRows n cols).zip ws, k, 0) := by
  unfold btFin2
  rw [btRdWs, if_neg (by simp)]
  dsimp only
  rw [List.append_nil]
theorem btAsc_iff (lt : List Ce → List Ce → Bool) : ∀ L : List (List Ce), btAsc lt L = true ↔ ∀ j, j + 1 < L.length → lt (L.getD j []) (L.getD (j + 1) []) = true
  | [] => by simp [btAsc]
  | [_] => by simp [btAsc]
  | a :: b :: r => by
    rw [btAsc, Bool.and_eq_true, btAsc_iff lt (b :: r)]
    constructor
    · rintro ⟨h1, h2⟩ j hj
      cases j with
      | zero => exact h1
      | succ j => exact h2 j (by simpa using hj)
    · intro h
      exact ⟨h 0 (by simp), fun j hj => h (j + 1) (by simpa using hj)⟩
def btCont (lt : List Ce → List Ce → Bool) (l : List UInt8) (n : Nat) (done : List (List Ce)) (kinds : List Int) (k : Nat) : List Bp × Nat × Nat :=
  if (btRdCols l n kinds k).2.2 ≠ 0 then ([], (btRdCols l n kinds k).2.1, (btRdCols l n kinds k).2.2)
  else btFin lt l n (done ++ (btRdCols l n kinds k).1) (btRdCols l n kinds k).2.1
theorem btCont_nil (lt : List Ce → List Ce → Bool) (l : List UInt8) (n : Nat) (done : List (List Ce)) (k : Nat) : btCont lt l n done [] k = btFin lt l n done k := by
  unfold btCont
  rw [btRdCols, if_neg (by simp), List.append_nil]
theorem btCont_cons {lt : List Ce → List Ce → Bool} {l : List UInt8} {n : Nat} {done : List (List Ce)} {kd : Int} {r : List Int} {k : Nat} (h : (rdK l kd n k).2.2 = 0) :
    btCont lt l n done (kd :: r) k = btCont lt l n (done ++ [(rdK l kd n k).1]) r (rdK l kd n k).2.1 := by
  unfold btCont
  have e : btRdCols l n (kd :: r) k = if (btRdCols l n r (rdK l kd n k).2.1).2.2 ≠ 0 then ([], (btRdCols l n r (rdK l kd n k).2.1).2.1, (btRdCols l n r (rdK l kd n k).2.1).2.2) else ((rdK l kd n k).1 :: (btRdCols l n r (rdK l kd n k).2.1).1, (btRdCols l n r (rdK l kd n k).2.1).2.1, 0) := by
    rw [btRdCols, if_neg (fun hh => hh h)]
  rw [e]
  by_cases h2 : (btRdCols l n r (rdK l kd n k).2.1).2.2 ≠ 0
  · simp only [if_pos h2]
  · simp only [if_neg h2]
    rw [if_neg (by simp), List.append_assoc]; rfl
theorem btCont_end {lt : List Ce → List Ce → Bool} {l : List UInt8} {n : Nat} {done : List (List Ce)} {kd : Int} {r : List Int} {k : Nat} (h : (rdK l kd n k).2.2 ≠ 0) :
    btCont lt l n done (kd :: r) k = ([], (rdK l kd n k).2.1, (rdK l kd n k).2.2) := by
  unfold btCont
  have e : btRdCols l n (kd :: r) k = ([], (rdK l kd n k).2.1, (rdK l kd n k).2.2) := by rw [btRdCols, if_pos h]
  rw [e, if_pos h]
theorem btRd_cont {lt : List Ce → List Ce → Bool} {l : List UInt8} {kinds : List Int} {k : Nat} (h : (rdU l k 1024).2.2 = 0) : btRd lt l kinds k = btCont lt l (rdU l k 1024).1 [] kinds (rdU l k 1024).2.1 := by
  unfold btRd btCont btFin
  rw [if_neg (fun hh => hh h), List.nil_append]
theorem CES.nil9 : CES [] := fun c hc => absurd hc (by simp)
theorem CES.snoc9 {cs : List CellB} (h : CES cs) {c : CellB} (hc : ceS c) : CES (cs ++ [c]) := by
  intro x hx
  rcases List.mem_append.1 hx with hx | hx
  · exact h x hx
  · rw [List.mem_singleton.1 hx]; exact hc
theorem cesL_getD9 {cs : List CellB} {k : Nat} (hk : k < cs.length) : (cesL cs).getD k (0, []) = ceL (cs.getD k default) := by
  unfold cesL; simp [List.getD, hk]
/-- The rows hold these columns' cells. -/
def RowsAre (ts : List TriB) (done : List (List Ce)) : Prop := ∀ (i : Nat) (t : TriB), ts[i]? = some t → cesL t.2.1 = (done.map fun c => c.getD i (0, [])) ∧ t.2.2 = 0 ∧ CES t.2.1

end Go.Proofs.YteiphdcgffapbaaGreatDoor


/-
  A set's bytes are read as the set, and what is read has those bytes (no program in it).
-/
namespace Go.Proofs.YteiphdcgffapbaaGreatDoor
open Go.RowKit Go.Shelf

/-- What is read of bytes by a schema. -/
abbrev batS (cs : List ColB) (l : List UInt8) (k : Nat) : List Bp × Nat × Nat := bat (ltE cs) (errS (colsL cs)) l (kindsL cs) k
end Go.Proofs.YteiphdcgffapbaaGreatDoor

