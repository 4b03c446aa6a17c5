/-
  The order of two rows, in lists (no program in it).
-/
import Derived.Test.YtkljkpffpdpphaaGreatDoorRowPlain
import Derived.Test.YtkljkpffpdpphaaGreatDoorCellCompare
set_option linter.unusedVariables false
set_option linter.unusedSimpArgs false
set_option maxRecDepth 1000000
namespace Go.Proofs.YtkljkpffpdpphaaGreatDoor
open Go.RowKit Go.Shelf

def cmpX (kind : Int) (a b : CellB) : Int := cmpC kind a.1 a.2.data.toList b.1 b.2.data.toList
/-- The order of the first cells that are unlike. -/
def cmpL : List ColB → List (CellB × CellB) → Int
  | c :: cs, p :: ps => if cmpX c.2 p.1 p.2 ≠ 0 then cmpX c.2 p.1 p.2 else cmpL cs ps
  | _, _ => 0
theorem cmpL_append : ∀ (cs : List ColB) (l m : List (CellB × CellB)), l.length ≤ cs.length → cmpL cs (l ++ m) = if cmpL cs l ≠ 0 then cmpL cs l else cmpL (cs.drop l.length) m
  | [], [], m, _ => by
    have e : cmpL [] [] = 0 := by rw [cmpL]; intros; contradiction
    rw [if_neg (fun h => h e)]; rfl
  | c :: cs, [], m, _ => by
    have e : cmpL (c :: cs) [] = 0 := by rw [cmpL]; intros; contradiction
    rw [if_neg (fun h => h e)]; rfl
  | [], p :: l, m, h => by simp at h
  | c :: cs, p :: l, m, h => by
    rw [List.cons_append, cmpL, cmpL_append cs l m (by simpa using h), cmpL]
    by_cases h0 : cmpX c.2 p.1 p.2 = 0
    · have h' : ¬ cmpX c.2 p.1 p.2 ≠ 0 := fun h9 => h9 h0
      rw [if_neg h', if_neg h']; rfl
    · rw [if_pos h0, if_pos h0, if_pos h0]
theorem cmpL_one (cs : List ColB) (x : CellB × CellB) (h : 0 < cs.length) : cmpL cs [x] = cmpX (cs.getD 0 default).2 x.1 x.2 := by
  cases cs with
  | nil => simp at h
  | cons c r =>
    rw [cmpL]
    have e : cmpL r [] = 0 := by
      cases r with
      | nil => rw [cmpL]; intros; contradiction
      | cons _ _ => rw [cmpL]; intros; contradiction
    rw [e]
    show _ = cmpX c.2 x.1 x.2
    split
    · rfl
    · rename_i h9; exact (Decidable.of_not_not h9).symm
theorem cmpL_snoc (cs : List ColB) (l : List (CellB × CellB)) (x : CellB × CellB) (h : l.length < cs.length) (h0 : cmpL cs l = 0) : cmpL cs (l ++ [x]) = cmpX (cs.getD l.length default).2 x.1 x.2 := by
  rw [cmpL_append cs l [x] (by omega), if_neg (fun h9 => h9 h0), cmpL_one _ _ (by rw [List.length_drop]; omega)]
  have e : (cs.drop l.length).getD 0 default = cs.getD l.length default := by simp [List.getD]
  rw [e]
theorem cmpL_take {cs : List ColB} {l : List (CellB × CellB)} {k : Nat} (hl : l.length ≤ cs.length) (h : cmpL cs (l.take k) ≠ 0) : cmpL cs l = cmpL cs (l.take k) := by
  have := cmpL_append cs (l.take k) (l.drop k) (by rw [List.length_take]; omega)
  rw [List.take_append_drop, if_pos h] at this
  exact this

/-- The order of two rows of a schema. -/
def cmpR (cs : List ColB) (a b : List CellB) : Int := if errRow cs a ≠ 0 ∨ errRow cs b ≠ 0 then 0 else cmpL cs (a.zip b)
theorem errRow_len {cs : List ColB} {a : List CellB} (h : errRow cs a = 0) : errS (colsL cs) = 0 ∧ a.length = cs.length ∧ errP (cs.zip a) = 0 := by
  unfold errRow at h
  by_cases h0 : errS (colsL cs) = 0
  · rw [if_pos h0] at h
    unfold errC at h
    by_cases h1 : a.length = cs.length
    · rw [if_pos h1] at h; exact ⟨h0, h1, h⟩
    · rw [if_neg h1] at h; cases h
  · rw [if_neg h0] at h; exact absurd h h0
theorem cmpC_small (kind : Int) (x : Nat) (l : List UInt8) (y : Nat) (m : List UInt8) : -9223372036854775808 ≤ cmpC kind x l y m ∧ cmpC kind x l y m ≤ 9223372036854775807 := by
  unfold cmpC
  repeat' split
  all_goals omega

end Go.Proofs.YtkljkpffpdpphaaGreatDoor

