/-
  Package column: Read.
-/
import Derived.Test.YtedfcnlhdicipaaGreatDoorGColRd
set_option linter.unusedVariables false
set_option linter.unusedSimpArgs false
set_option maxRecDepth 1000000
namespace Go.Proofs.YtedfcnlhdicipaaGreatDoor
open Go.RowKit Go.Shelf

/-- What Run's closure leaves, in the variable in block c. -/
def ReadP9 (wR : World) (c : Nat) (R : List Ce × Nat × Nat) (g k x : Nat) (a : World) : Prop :=
  Only (fun j => j = c ∨ wR.heap.size ≤ j) wR a ∧ k = R.2.1 ∧ x = R.2.2 ∧ (x = 0 → ∃ tv cs, a.heap[c]? = some (.cells #[tv] 43 (0, 0)) ∧ OwnE a (wR.heap.size + 4) tv cs ∧ CES cs ∧ cesL cs = R.1)

/-- What is told of bytes: why there are no cells, and the cells. -/
def rdE9 (l : List UInt8) (kind n : Int) : Nat := told l (rdK l kind n 0).2.1 (rdK l kind n 0).2.2
def rdC9 (l : List UInt8) (kind n : Int) : List Ce := if rdE9 l kind n = 0 then (rdK l kind n 0).1 else []
/-- What Read answers. -/
def RdO9 (w : World) (l : List UInt8) (kind n : Int) (e : Ending) (w' : World) : Prop :=
  Below w.heap.size w w' ∧ ∃ tv cs, e = .returned (.tuple #[tv, .int .i64 ((rdK l kind n 0).2.1 : Int), .int .i64 (rdE9 l kind n : Int)]) ∧ OwnE w' w.heap.size tv cs ∧ CES cs ∧ cesL cs = rdC9 l kind n

end Go.Proofs.YtedfcnlhdicipaaGreatDoor
