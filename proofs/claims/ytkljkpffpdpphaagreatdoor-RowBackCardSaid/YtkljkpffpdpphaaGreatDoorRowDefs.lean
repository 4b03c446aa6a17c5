/-
  What the document says of rows, in lists (no program in it).
-/
import Derived.Test.YtkljkpffpdpphaaGreatDoorGCols
import Derived.Test.YtkljkpffpdpphaaGreatDoorCellCompare
set_option linter.unusedVariables false
set_option linter.unusedSimpArgs false
set_option maxRecDepth 1000000
namespace Go.Proofs.YtkljkpffpdpphaaGreatDoor
open Go.RowKit

abbrev CP := ColB × CellB
def chk (x : CP) : Nat := checkC x.1.2 x.2.1 x.2.2.data.toList
/-- What is wrong with the first cell with which something is. -/
def errP : List CP → Nat
  | [] => 0
  | x :: r => if chk x ≠ 0 then chk x else errP r
theorem errP_append : ∀ (l m : List CP), errP (l ++ m) = if errP l ≠ 0 then errP l else errP m
  | [], m => by simp [errP]
  | x :: r, m => by
    rw [List.cons_append, errP, errP_append r m, errP]
    by_cases h : chk x = 0
    · have h' : ¬ chk x ≠ 0 := fun h9 => h9 h
      rw [if_neg h', if_neg h']
    · rw [if_pos h, if_pos h, if_pos h]
theorem errP_snoc (l : List CP) (x : CP) (h : errP l = 0) : errP (l ++ [x]) = chk x := by
  rw [errP_append, h, if_neg (by simp), errP, errP]
  by_cases h : chk x = 0
  · rw [if_neg (by simpa using h), h]
  · rw [if_pos h]
theorem errP_take {l : List CP} {k : Nat} (h : errP (l.take k) ≠ 0) : errP l = errP (l.take k) := by
  have := errP_append (l.take k) (l.drop k)
  rw [List.take_append_drop, if_pos h] at this
  exact this
theorem checkC_codes (kind : Int) (n : Nat) (l : List UInt8) : checkC kind n l ≤ 11 := by
  unfold checkC
  repeat' split
  all_goals omega
theorem errP_codes : ∀ l : List CP, errP l ≤ 11
  | [] => by simp [errP]
  | x :: r => by
    rw [errP]
    split
    · exact checkC_codes _ _ _
    · exact errP_codes r
theorem errP_zero {l : List CP} (h : errP l = 0) : ∀ x ∈ l, chk x = 0 := by
  induction l with
  | nil => intro x hx; simp at hx
  | cons a r ih =>
    rw [errP] at h
    by_cases ha : chk a = 0
    · rw [if_neg (by simpa using ha)] at h
      intro x hx
      rcases List.mem_cons.1 hx with rfl | hx
      · exact ha
      · exact ih h x hx
    · rw [if_pos ha] at h; exact absurd h ha
theorem errP_of {l : List CP} (h : ∀ x ∈ l, chk x = 0) : errP l = 0 := by
  induction l with
  | nil => rfl
  | cons a r ih =>
    rw [errP, if_neg (by simpa using h a (by simp))]
    exact ih fun x hx => h x (by simp [hx])

/-- What is wrong with a row, its columns being as they may be. -/
def errC (cs : List ColB) (rs : List CellB) : Nat := if rs.length = cs.length then errP (cs.zip rs) else 2
theorem errC_codes (cs : List ColB) (rs : List CellB) : errC cs rs ≤ 11 := by
  unfold errC
  split
  · exact errP_codes _
  · omega
end Go.Proofs.YtkljkpffpdpphaaGreatDoor
