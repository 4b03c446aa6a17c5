/-
  The document's Neg of layer 8.
-/
import Derived.Test.YteiphdcgffapbaaDoorGZRef
import Derived.Test.YteiphdcgffapbaaDoorGW
set_option linter.unusedVariables false
set_option linter.unusedSimpArgs false
set_option maxRecDepth 1000000
namespace Go.Proofs.YteiphdcgffapbaaDoor
open Go.RowKit Go.Shelf

theorem minB_snoc (ps : List PairB) (k : Nat) (h : k < ps.length) (h0 : minB (ps.take k) = false) : minB (ps.take (k + 1)) = ((ps.getD k default).2 == -9223372036854775808) := by
  have e : ps.take (k + 1) = ps.take k ++ [ps.getD k default] := by
    rw [List.take_add_one]; simp [List.getD, h]
  unfold minB at h0 ⊢
  rw [e, List.any_append, h0]; simp
theorem negs_snoc (ps : List PairB) (k : Nat) (h : k < ps.length) : Z.negs (ps.take (k + 1)) = Z.negs (ps.take k) ++ [((ps.getD k default).1, -(ps.getD k default).2)] := by
  have e : ps.take (k + 1) = ps.take k ++ [ps.getD k default] := by
    rw [List.take_add_one]; simp [List.getD, h]
  unfold Z.negs
  rw [e, List.map_append]; rfl
theorem minB_take {ps : List PairB} {k : Nat} (h : minB (ps.take k) = true) : minB ps = true := by
  unfold minB at h ⊢
  obtain ⟨p, hp, h⟩ := List.any_eq_true.1 h
  exact List.any_eq_true.2 ⟨p, List.mem_of_mem_take hp, h⟩

end Go.Proofs.YteiphdcgffapbaaDoor

