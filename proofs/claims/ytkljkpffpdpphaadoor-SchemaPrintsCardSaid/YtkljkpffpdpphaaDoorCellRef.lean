/-
  The document's own answers for layer 4 (deckleref04): Check, the order.
-/
import Derived.Test.YtkljkpffpdpphaaDoorUtf8
import Derived.Lib.Strings
set_option linter.unusedVariables false
set_option linter.unusedSimpArgs false
set_option maxRecDepth 1000000
namespace Go.Proofs.YtkljkpffpdpphaaDoor
open Go.RowKit

/-- A cell's value. -/
def cellV (num : Nat) (s : ByteArray) : Value := .agg #[.int .u64 (num : Int), .string s]

theorem RdS.toList {s : ByteArray} {l : List UInt8} (h : RdS s l) : s.toList = l := by
  rw [h.eq, Lib.toList_data]

/-- What is wrong with a cell. -/
def checkC (kind : Int) (num : Nat) (l : List UInt8) : Nat :=
  if kind < 0 ∨ 5 < kind then 10
  else if ((kind = 3 ∨ kind = 4) ∧ num ≠ 0) ∨ (¬ (kind = 3 ∨ kind = 4) ∧ l ≠ []) ∨ (kind = 2 ∧ 1 < num) ∨ (kind = 4 ∧ utf8 l = false) then 11
  else if 256 < l.length then 7 else 0

end Go.Proofs.YtkljkpffpdpphaaDoor
