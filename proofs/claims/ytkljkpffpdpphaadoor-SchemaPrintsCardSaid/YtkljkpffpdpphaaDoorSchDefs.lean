/-
  What the document says of a schema, in lists: faults, bytes, texts, and what is read of bytes (no program in it).
-/
import Derived.Test.YtkljkpffpdpphaaDoorReader
import Derived.Test.YtkljkpffpdpphaaDoorSchErr
set_option linter.unusedVariables false
set_option linter.unusedSimpArgs false
set_option maxRecDepth 1000000
namespace Go.Proofs.YtkljkpffpdpphaaDoor
open Go.RowKit

/-- A column off bytes, behind some: it, the place behind it, what is wrong. -/
def rdCol (l : List UInt8) (ah : List (List UInt8)) (k : Nat) : Col × Nat × Nat :=
  if (rdB l k 32).2.2 ≠ 0 then (([], 0), (rdB l k 32).2.1, (rdB l k 32).2.2)
  else if fine (rdB l k 32).1 ah = false then (([], 0), (rdB l k 32).2.1, 2)
  else if ¬ (rdB l k 32).2.1 < l.length then (([], 0), (rdB l k 32).2.1, 5)
  else if 5 < at8 l (rdB l k 32).2.1 then (([], 0), (rdB l k 32).2.1 + 1, 10)
  else (((rdB l k 32).1, at8 l (rdB l k 32).2.1), (rdB l k 32).2.1 + 1, 0)
def rdCols (l : List UInt8) : Nat → List Col → Nat → List Col × Nat × Nat
  | 0, acc, k => (acc, k, 0)
  | m + 1, acc, k => if (rdCol l (names acc) k).2.2 ≠ 0 then ([], (rdCol l (names acc) k).2.1, (rdCol l (names acc) k).2.2) else rdCols l m (acc ++ [(rdCol l (names acc) k).1]) (rdCol l (names acc) k).2.1
/-- What stands at the front of bytes: the columns, the place behind them, what is wrong. -/
def rdTake (l : List UInt8) : List Col × Nat × Nat :=
  if (rdU l 0 8).2.2 ≠ 0 then ([], (rdU l 0 8).2.1, (rdU l 0 8).2.2)
  else if (rdU l 0 8).1 = 0 then ([], (rdU l 0 8).2.1, 4)
  else rdCols l (rdU l 0 8).1 [] (rdU l 0 8).2.1

end Go.Proofs.YtkljkpffpdpphaaDoor
