/-
  The document's Check and Same of layer 8.
-/
import Derived.Test.YteiphdcgffapbaaDoorGZDefs
import Derived.Test.YteiphdcgffapbaaDoorGRow
import Derived.StillTailTactics
import Derived.IntWalk
import Derived.WalkSmall
import Derived.Deep.QuietTactic
import Derived.BigQuiet
set_option linter.unusedVariables false
set_option linter.unusedSimpArgs false
set_option maxRecDepth 1000000
namespace Go.Proofs.YteiphdcgffapbaaDoor
open Go.RowKit Go.Shelf

/-- The row ahead of place k. -/
def prevR (ps : List PairB) : Nat → Option (List CellB)
  | 0 => none
  | k + 1 => some (ps.getD k default).1
theorem drop_get {α : Type} [Inhabited α] {l : List α} {k : Nat} (h : k < l.length) : l.drop k = l.getD k default :: l.drop (k + 1) := by
  rw [List.drop_eq_getElem_cons h]; simp [List.getD, h]
theorem chkF_step {cs : List ColB} {ps : List PairB} {k : Nat} (h : k < ps.length) (h1 : errRow cs (ps.getD k default).1 = 0) (h2 : (ps.getD k default).2 ≠ 0) (h3 : ∀ r, prevR ps k = some r → cmpR cs r (ps.getD k default).1 < 0) :
    chkF cs (prevR ps k) (ps.drop k) = chkF cs (prevR ps (k + 1)) (ps.drop (k + 1)) := by
  rw [drop_get h]
  conv => lhs; unfold chkF
  rw [if_neg (fun h9 => h9 h1), if_neg h2]
  cases hq : prevR ps k with
  | none => rfl
  | some r =>
    have := h3 r hq
    show (if _ then _ else _) = _
    rw [if_neg (by omega)]; rfl

end Go.Proofs.YteiphdcgffapbaaDoor


/-
  The document's Same, Weight of layer 8.
-/
namespace Go.Proofs.YteiphdcgffapbaaDoor
open Go.RowKit Go.Shelf

end Go.Proofs.YteiphdcgffapbaaDoor

