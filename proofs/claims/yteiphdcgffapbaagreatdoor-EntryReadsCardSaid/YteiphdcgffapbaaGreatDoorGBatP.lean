/-
  What the document says of a set's bytes, in lists (no program in it).
-/
import Derived.Test.YteiphdcgffapbaaGreatDoorGColM
import Derived.Test.YteiphdcgffapbaaGreatDoorGColSh
import Derived.Test.YteiphdcgffapbaaGreatDoorGBaseB
import Derived.Test.YteiphdcgffapbaaGreatDoorGZDefs
set_option linter.unusedVariables false
set_option linter.unusedSimpArgs false
set_option maxRecDepth 1000000
namespace Go.Proofs.YteiphdcgffapbaaGreatDoor
open Go.RowKit

/-- A row, and its weight. -/
abbrev Bp := List Ce × Int
/-- Columns off bytes, one behind the other. -/
def btRdCols (l : List UInt8) (n : Int) : List Int → Nat → List (List Ce) × Nat × Nat
  | [], k => ([], k, 0)
  | kd :: r, k =>
    if (rdK l kd n k).2.2 ≠ 0 then ([], (rdK l kd n k).2.1, (rdK l kd n k).2.2)
    else if (btRdCols l n r (rdK l kd n k).2.1).2.2 ≠ 0 then ([], (btRdCols l n r (rdK l kd n k).2.1).2.1, (btRdCols l n r (rdK l kd n k).2.1).2.2)
    else ((rdK l kd n k).1 :: (btRdCols l n r (rdK l kd n k).2.1).1, (btRdCols l n r (rdK l kd n k).2.1).2.1, 0)
/-- Weights off bytes. -/
def btRdWs (l : List UInt8) : Nat → Nat → List Int × Nat × Nat
  | 0, k => ([], k, 0)
  | m + 1, k =>
    if (rdU l k 18446744073709551615).2.2 ≠ 0 then ([], (rdU l k 18446744073709551615).2.1, (rdU l k 18446744073709551615).2.2)
    else if zag (rdU l k 18446744073709551615).1 = 0 then ([], (rdU l k 18446744073709551615).2.1, 2)
    else if (btRdWs l m (rdU l k 18446744073709551615).2.1).2.2 ≠ 0 then ([], (btRdWs l m (rdU l k 18446744073709551615).2.1).2.1, (btRdWs l m (rdU l k 18446744073709551615).2.1).2.2)
    else (zag (rdU l k 18446744073709551615).1 :: (btRdWs l m (rdU l k 18446744073709551615).2.1).1, (btRdWs l m (rdU l k 18446744073709551615).2.1).2.1, 0)
/-- The rows of some columns. -/
def btRows (n : Nat) (cols : List (List Ce)) : List (List Ce) := (List.range n).map fun i => cols.map fun c => c.getD i (0, [])
/-- Each one is ahead of the next. -/
def btAsc (lt : List Ce → List Ce → Bool) : List (List Ce) → Bool
  | [] => true
  | [_] => true
  | a :: b :: r => lt a b && btAsc lt (b :: r)
/-- A set off bytes: it, the place behind it, what is wrong. -/
def btRd (lt : List Ce → List Ce → Bool) (l : List UInt8) (kinds : List Int) (k : Nat) : List Bp × Nat × Nat :=
  if (rdU l k 1024).2.2 ≠ 0 then ([], (rdU l k 1024).2.1, (rdU l k 1024).2.2)
  else if (btRdCols l (rdU l k 1024).1 kinds (rdU l k 1024).2.1).2.2 ≠ 0 then ([], (btRdCols l (rdU l k 1024).1 kinds (rdU l k 1024).2.1).2.1, (btRdCols l (rdU l k 1024).1 kinds (rdU l k 1024).2.1).2.2)
  else if (btRdWs l (rdU l k 1024).1 (btRdCols l (rdU l k 1024).1 kinds (rdU l k 1024).2.1).2.1).2.2 ≠ 0 then ([], (btRdWs l (rdU l k 1024).1 (btRdCols l (rdU l k 1024).1 kinds (rdU l k 1024).2.1).2.1).2.1, (btRdWs l (rdU l k 1024).1 (btRdCols l (rdU l k 1024).1 kinds (rdU l k 1024).2.1).2.1).2.2)
  else if btAsc lt (btRows (rdU l k 1024).1 (btRdCols l (rdU l k 1024).1 kinds (rdU l k 1024).2.1).1) = false then ([], (btRdWs l (rdU l k 1024).1 (btRdCols l (rdU l k 1024).1 kinds (rdU l k 1024).2.1).2.1).2.1, 9)
  else ((btRows (rdU l k 1024).1 (btRdCols l (rdU l k 1024).1 kinds (rdU l k 1024).2.1).1).zip (btRdWs l (rdU l k 1024).1 (btRdCols l (rdU l k 1024).1 kinds (rdU l k 1024).2.1).2.1).1, (btRdWs l (rdU l k 1024).1 (btRdCols l (rdU l k 1024).1 kinds (rdU l k 1024).2.1).2.1).2.1, 0)

/-! ## Columns -/
/-! ## Weights -/
theorem zag_range {y : Nat} (h : y < 18446744073709551616) : -9223372036854775808 ≤ zag y ∧ zag y ≤ 9223372036854775807 := by
  unfold zag; split <;> omega
/-! ## Rows and columns -/
theorem btRows_length (n : Nat) (cols : List (List Ce)) : (btRows n cols).length = n := by unfold btRows; simp
/-! ## A whole set -/
/-! ## How many bytes -/
end Go.Proofs.YteiphdcgffapbaaGreatDoor


/-
  The document's own answers for layer 10 (deckleref10): Write, Bound.
-/
namespace Go.Proofs.YteiphdcgffapbaaGreatDoor
open Go.RowKit

def kindsL (cs : List ColB) : List Int := cs.map fun c => c.2
def psL (ps : List PairB) : List Bp := ps.map fun p => (cesL p.1, p.2)
end Go.Proofs.YteiphdcgffapbaaGreatDoor


/-
  A set as layer 8 has it, and as its bytes have it (no program in it).
-/
namespace Go.Proofs.YteiphdcgffapbaaGreatDoor
open Go.RowKit Go.Shelf

def ceB (c : Ce) : CellB := (c.1, ⟨c.2.toArray⟩)
theorem ceB_ceL (c : CellB) : ceB (ceL c) = c := by
  obtain ⟨x, t⟩ := c
  simp [ceB, ceL]
def cesB (r : List Ce) : List CellB := r.map ceB
theorem cesB_cesL (r : List CellB) : cesB (cesL r) = r := by
  unfold cesB cesL
  rw [List.map_map]
  conv => rhs; rw [← List.map_id r]
  exact List.map_congr_left fun c _ => ceB_ceL c
def psB (a : List Bp) : List PairB := a.map fun p => (cesB p.1, p.2)
theorem psB_psL (ps : List PairB) : psB (psL ps) = ps := by
  unfold psB psL
  rw [List.map_map]
  conv => rhs; rw [← List.map_id ps]
  exact List.map_congr_left fun p _ => by simp only [Function.comp, cesB_cesL]; rfl
theorem psL_inj {a b : List PairB} (h : psL a = psL b) : a = b := by rw [← psB_psL a, h, psB_psL]
/-- The rows' order, by their cells' bytes. -/
def cmpE (cs : List ColB) (a b : List Ce) : Int := cmpR cs (cesB a) (cesB b)
abbrev ltE (cs : List ColB) : List Ce → List Ce → Bool := fun a b => decide (cmpE cs a b < 0)
theorem ltE_L (cs : List ColB) (a b : List CellB) : ltE cs (cesL a) (cesL b) = decide (cmpR cs a b < 0) := by
  show decide (cmpR cs (cesB (cesL a)) (cesB (cesL b)) < 0) = _
  rw [cesB_cesL, cesB_cesL]

end Go.Proofs.YteiphdcgffapbaaGreatDoor

