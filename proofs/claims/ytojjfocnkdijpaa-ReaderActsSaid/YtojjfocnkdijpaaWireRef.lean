/-
  The walks of the document's own answers for layer 1.
-/
import Derived.Test.YtojjfocnkdijpaaWireGet
set_option linter.unusedVariables false
set_option linter.unusedSimpArgs false
namespace Go.Proofs.Ytojjfocnkdijpaa
open Go.RowKit

theorem preU_enc {m k : Nat} (h : 127 < m / 128 ^ k) : preU m (k + 1) = preU m k ++ [UInt8.ofNat (128 + m / 128 ^ k % 128)] := rfl

theorem preU_append_enc (m k : Nat) (h : ∀ j, j < k → 127 < m / 128 ^ j) : encU m = preU m k ++ encU (m / 128 ^ k) := by
  induction k with
  | zero => simp [preU]
  | succ k ih =>
    rw [ih (fun j hj => h j (by omega)), encU_ge (x := m / 128 ^ k) (by have := h k (by omega); omega), preU, Nat.pow_succ, Nat.div_div_eq_div_mul]
    simp

end Go.Proofs.Ytojjfocnkdijpaa
