/-
  Numbers of either sign read, as the document's own answer for layer 4 tells them.
-/
import Derived.Test.YtfleebllabolgaaDoorUndec
set_option linter.unusedVariables false
set_option linter.unusedSimpArgs false
namespace Go.Proofs.YtfleebllabolgaaDoor
open Go.RowKit

/-- The number of either sign that bytes tell. -/
def unsC (l : List UInt8) : Option Int :=
  if l.head? = some 45 then match undecC l.tail with
    | some n => if 0 < n ∧ n ≤ 9223372036854775808 then some (-(n : Int)) else none
    | none => none
  else match undecC l with
    | some n => if n ≤ 9223372036854775807 then some (n : Int) else none
    | none => none

theorem RdS.tail {s : ByteArray} {l : List UInt8} (h : RdS s l) : RdS (s.extract 1 s.size) l.tail := by
  refine ⟨?_, by have := h.small; simp; omega⟩
  rw [h.eq]
  apply ByteArray.ext
  simp [ByteArray.size]
  cases l <;> simp

end Go.Proofs.YtfleebllabolgaaDoor
