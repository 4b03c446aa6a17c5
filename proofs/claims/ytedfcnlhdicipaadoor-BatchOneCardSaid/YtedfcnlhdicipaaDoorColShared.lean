/-
  The document's own answers for layer 9 (deckleref09): Shared, Bound.
-/
import Derived.Test.YtedfcnlhdicipaaDoorGColM
import Derived.Deep.QuietTactic
import Derived.BigQuiet
set_option linter.unusedVariables false
set_option linter.unusedSimpArgs false
set_option maxRecDepth 1000000
namespace Go.Proofs.YtedfcnlhdicipaaDoor
open Go.RowKit

theorem shr_at {l m : List UInt8} {k : Nat} (hl : k ≤ l.length) (hm : k ≤ m.length) (ht : l.take k = m.take k) (h : k < l.length → k < m.length → l.getD k 0 ≠ m.getD k 0) : shr l m = k := shr_eq hl hm ht h
theorem shr_next {l m : List UInt8} {k : Nat} (hl : k < l.length) (hm : k < m.length) (ht : l.take k = m.take k) (h : l.getD k 0 = m.getD k 0) : l.take (k + 1) = m.take (k + 1) := by
  rw [List.take_succ_eq_append_getElem hl, List.take_succ_eq_append_getElem hm, ht]
  simp [List.getD, hl, hm] at h
  rw [h]

end Go.Proofs.YtedfcnlhdicipaaDoor
