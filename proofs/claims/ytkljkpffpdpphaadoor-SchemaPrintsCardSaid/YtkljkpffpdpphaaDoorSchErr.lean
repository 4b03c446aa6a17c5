/-
  What the document says of a schema, in lists: faults, bytes, texts (no program in it).
-/
import Derived.Test.YtkljkpffpdpphaaDoorWireGet
import Derived.Test.YtkljkpffpdpphaaDoorLater
import Derived.Test.YtkljkpffpdpphaaDoorBlocks
import Derived.Lib.Join
set_option linter.unusedVariables false
set_option linter.unusedSimpArgs false
set_option maxRecDepth 1000000
namespace Go.Proofs.YtkljkpffpdpphaaDoor
open Go.RowKit

/-- A column: its name's bytes, its kind. -/
abbrev Col := List UInt8 × Int
def names (cs : List Col) : List (List UInt8) := cs.map (·.1)

def letterB (c : Nat) : Bool := decide (97 ≤ c ∧ c ≤ 122 ∨ 48 ≤ c ∧ c ≤ 57 ∨ c = 95)
/-- A name that may be, behind some others. -/
def fine (n : List UInt8) (ahead : List (List UInt8)) : Bool := !n.isEmpty && (n.all (fun c => letterB c.toNat) && !ahead.contains n)

def colErr (ah : List (List UInt8)) (c : Col) : Nat := if 32 < c.1.length then 7 else if fine c.1 ah = false then 2 else if c.2 < 0 ∨ 5 < c.2 then 10 else 0
def errFrom : List (List UInt8) → List Col → Nat
  | _, [] => 0
  | ah, c :: r => if colErr ah c ≠ 0 then colErr ah c else errFrom (ah ++ [c.1]) r
/-- What is wrong with a schema. -/
def errS (cs : List Col) : Nat := if cs.length = 0 then 4 else if 8 < cs.length then 13 else errFrom [] cs

theorem drop_cons {α : Type} {l : List α} {k : Nat} (h : k < l.length) (d : α) : l.drop k = l.getD k d :: l.drop (k + 1) := by
  rw [List.drop_eq_getElem_cons h]; simp [List.getD, h]
theorem take_succD {α : Type} {l : List α} {k : Nat} (h : k < l.length) (d : α) : l.take (k + 1) = l.take k ++ [l.getD k d] := by
  rw [List.take_succ_eq_append_getElem h]; simp [List.getD, h]

theorem errFrom_step {cs : List Col} {k : Nat} (h : k < cs.length) : errFrom (names (cs.take k)) (cs.drop k) = if colErr (names (cs.take k)) (cs.getD k default) ≠ 0 then colErr (names (cs.take k)) (cs.getD k default) else errFrom (names (cs.take (k + 1))) (cs.drop (k + 1)) := by
  rw [drop_cons h default, errFrom, take_succD h default]
  simp [names]

theorem colErr_zero {ah : List (List UInt8)} {c : Col} (h : colErr ah c = 0) : c.1.length ≤ 32 ∧ fine c.1 ah = true ∧ 0 ≤ c.2 ∧ c.2 ≤ 5 := by
  unfold colErr at h
  split at h
  · cases h
  · split at h
    · cases h
    · split at h
      · cases h
      · rename_i h1 h2 h3
        exact ⟨by omega, by simpa using h2, by omega, by omega⟩
theorem errFrom_zero : ∀ (cs : List Col) (ah : List (List UInt8)), errFrom ah cs = 0 → ∀ c ∈ cs, c.1.length ≤ 32 ∧ 0 ≤ c.2 ∧ c.2 ≤ 5
  | [], _, _, c, hc => absurd hc (by simp)
  | x :: r, ah, h, c, hc => by
    rw [errFrom] at h
    split at h
    · rename_i h1; exact absurd h h1
    · rename_i h1
      have h0 : colErr ah x = 0 := Decidable.of_not_not h1
      obtain ⟨a1, _, a3, a4⟩ := colErr_zero h0
      rcases List.mem_cons.1 hc with rfl | hc
      · exact ⟨a1, a3, a4⟩
      · exact errFrom_zero r _ h c hc
theorem errS_zero {cs : List Col} (h : errS cs = 0) : 0 < cs.length ∧ cs.length ≤ 8 ∧ errFrom [] cs = 0 ∧ ∀ c ∈ cs, c.1.length ≤ 32 ∧ 0 ≤ c.2 ∧ c.2 ≤ 5 := by
  unfold errS at h
  split at h
  · cases h
  · split at h
    · cases h
    · exact ⟨by omega, by omega, h, errFrom_zero cs [] h⟩
theorem colErr_codes (ah : List (List UInt8)) (c : Col) : colErr ah c ≤ 10 := by
  unfold colErr
  split
  · omega
  · split
    · omega
    · split <;> omega
theorem errFrom_codes : ∀ (cs : List Col) (ah : List (List UInt8)), errFrom ah cs ≤ 10
  | [], _ => by rw [errFrom]; omega
  | c :: r, ah => by
    rw [errFrom]
    split
    · exact colErr_codes _ _
    · exact errFrom_codes r _
theorem errS_codes (cs : List Col) : errS cs ≤ 13 := by
  unfold errS
  split
  · omega
  · split
    · omega
    · have := errFrom_codes cs []; omega

/-- A column's bytes; a schema's. -/
def wrCol (c : Col) : List UInt8 := encB c.1 ++ [UInt8.ofNat c.2.toNat]
def wrCols (cs : List Col) : List UInt8 := cs.flatMap wrCol
def wrS (cs : List Col) : List UInt8 := encU cs.length ++ wrCols cs
theorem wrCols_succ {cs : List Col} {k : Nat} (h : k < cs.length) : wrCols (cs.take (k + 1)) = (wrCols (cs.take k) ++ encB (cs.getD k default).1) ++ [UInt8.ofNat (cs.getD k default).2.toNat] := by
  rw [take_succD h default]
  simp [wrCols, wrCol]

/-- The kinds' names. -/
def kindNames : List (List UInt8) := [[105, 110, 116], [117, 105, 110, 116], [98, 111, 111, 108], [98, 121, 116, 101, 115], [116, 101, 120, 116], [102, 108, 111, 97, 116]]
def txCol (c : Col) : List UInt8 := c.1 ++ [58] ++ kindNames.getD c.2.toNat []
def txS (cs : List Col) : List UInt8 := Lib.join (cs.map txCol) [44]
theorem join_snoc (l : List (List UInt8)) (x sep : List UInt8) : Lib.join (l ++ [x]) sep = if l = [] then x else Lib.join l sep ++ sep ++ x := by
  cases l with
  | nil => rw [if_pos rfl, List.nil_append, Lib.join_one]
  | cons y r =>
    rw [if_neg (by simp), List.cons_append, Lib.join_cons, Lib.join_cons]
    simp [Lib.joinTail]

end Go.Proofs.YtkljkpffpdpphaaDoor
