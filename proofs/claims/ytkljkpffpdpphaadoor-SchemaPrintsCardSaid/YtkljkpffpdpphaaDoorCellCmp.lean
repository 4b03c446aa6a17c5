/-
  The document's own answer for layer 4 (deckleref04): Compare.
-/
import Derived.Test.YtkljkpffpdpphaaDoorCellOrd
import Derived.Test.YtkljkpffpdpphaaDoorBlocks
set_option linter.unusedVariables false
set_option linter.unusedSimpArgs false
set_option maxRecDepth 1000000
namespace Go.Proofs.YtkljkpffpdpphaaDoor
open Go.RowKit

theorem new_cellC {w : World} {t : TypeId} {c : Array Value} {i : Nat} {u : Value} {b : Nat} (h : w.heap[b]? = some (.cells c t (0, 0))) (hu : c[i]? = some u) : w.cell? ⟨b, i, none⟩ = some u := by rw [cell_of_row _ _ _ _ _ _ h, hu]

/-- Is one cell ahead of another one? -/
def aheadK (kind : Int) (x : Nat) (l : List UInt8) (y : Nat) (m : List UInt8) : Bool :=
  if kind = 0 then decide (wrap64 (x : Int) < wrap64 (y : Int)) else if kind = 3 ∨ kind = 4 then Op.bytesLess l m else if kind = 5 then decide (tkey x < tkey y) else decide (x < y)

theorem check_kind {kind : Int} {x : Nat} {l : List UInt8} (h : checkC kind x l = 0) : 0 ≤ kind ∧ kind ≤ 5 := by
  unfold checkC at h
  by_cases h1 : kind < 0 ∨ 5 < kind
  · rw [if_pos h1] at h; exact absurd h (by decide)
  · omega

/-- How two cells stand to each other. -/
def cmpC (kind : Int) (x : Nat) (l : List UInt8) (y : Nat) (m : List UInt8) : Int :=
  if checkC kind x l ≠ 0 ∨ checkC kind y m ≠ 0 then 0 else if aheadK kind x l y m = true then -1 else if aheadK kind y m x l = true then 1 else 0

end Go.Proofs.YtkljkpffpdpphaaDoor
