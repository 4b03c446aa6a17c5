/-
  The walks of the document's own answers for layer 1.
-/
import Derived.Test.YtedfcnlhdicipaaDoorGWire
set_option linter.unusedVariables false
set_option linter.unusedSimpArgs false
set_option maxRecDepth 1000000
namespace Go.Proofs.YtedfcnlhdicipaaDoor
open Go.RowKit

theorem preU_enc {m k : Nat} (h : 127 < m / 128 ^ k) : preU m (k + 1) = preU m k ++ [UInt8.ofNat (128 + m / 128 ^ k % 128)] := rfl

theorem preU_append_enc (m k : Nat) (h : ∀ j, j < k → 127 < m / 128 ^ j) : encU m = preU m k ++ encU (m / 128 ^ k) := by
  induction k with
  | zero => simp [preU]
  | succ k ih =>
    rw [ih (fun j hj => h j (by omega)), encU_ge (x := m / 128 ^ k) (by have := h k (by omega); omega), preU, Nat.pow_succ, Nat.div_div_eq_div_mul]
    simp

end Go.Proofs.YtedfcnlhdicipaaDoor


/-
  The walks of the document's own answers for layer 1 that get: GetUint, GetBytes.
-/
namespace Go.Proofs.YtedfcnlhdicipaaDoor
open Go.RowKit

theorem valU_drop (l : List UInt8) (n j : Nat) (hn : n < l.length) (hj : j ≤ n) : (valU ((l.take (n + 1)).drop j) : Int) = at8 l j % 128 + 128 * valU ((l.take (n + 1)).drop (j + 1)) := by
  have hlen : j < (l.take (n + 1)).length := by simp; omega
  rw [List.drop_eq_getElem_cons hlen, valU_cons, at8_eq (by omega)]
  simp

theorem valU_cut (l : List UInt8) (j : Nat) (hj : j ≤ l.length) : 128 ^ j * valU (l.drop j) ≤ valU l := by
  have h := valU_append (l.take j) (l.drop j)
  rw [List.take_append_drop, List.length_take, Nat.min_eq_left hj] at h
  omega

theorem valU_over (l : List UInt8) (n j : Nat) (hn : n < l.length) (hj : j ≤ n) (h : 144115188075855871 < valU ((l.take (n + 1)).drop (j + 1))) : 2 ^ 64 ≤ valU (l.take (n + 1)) := by
  have h1 := valU_cut (l.take (n + 1)) (j + 1) (by simp; omega)
  have h2 : 128 ^ 1 ≤ 128 ^ (j + 1) := Nat.pow_le_pow_right (by decide) (by omega)
  have h3 : 128 ^ 1 * 144115188075855872 ≤ 128 ^ (j + 1) * valU ((l.take (n + 1)).drop (j + 1)) := Nat.mul_le_mul h2 (by omega)
  omega

theorem getU_over {l : List UInt8} {k : Nat} (h1 : ∀ j, j < k → 128 ≤ at8 l j) (hk : k < 10) (hl : k < l.length) (h2 : at8 l k < 128) (hb : 2 ^ 64 ≤ valU (l.take (k + 1))) : getU l = (0, 0, 7) := by
  have := leadU_eq (k := 10) (n := k) (l := l) (by omega) (by omega) h1 (fun _ _ => h2)
  simp only [getU, this]
  rw [if_neg (by omega), if_neg (by omega), if_pos hb]

theorem getU_zero {l : List UInt8} {k : Nat} (h1 : ∀ j, j < k → 128 ≤ at8 l j) (hk : k < 10) (hl : k < l.length) (h2 : at8 l k = 0) (h0 : 0 < k) (hb : valU (l.take (k + 1)) < 2 ^ 64) : getU l = (0, 0, 6) := by
  have := leadU_eq (k := 10) (n := k) (l := l) (by omega) (by omega) h1 (fun _ _ => by omega)
  simp only [getU, this]
  rw [if_neg (by omega), if_neg (by omega), if_neg (by omega), if_pos ⟨h0, h2⟩]

theorem getU_fine {l : List UInt8} {k : Nat} (h1 : ∀ j, j < k → 128 ≤ at8 l j) (hk : k < 10) (hl : k < l.length) (h2 : at8 l k < 128) (h0 : ¬ (0 < k ∧ at8 l k = 0)) (hb : valU (l.take (k + 1)) < 2 ^ 64) : getU l = (valU (l.take (k + 1)), k + 1, 0) := by
  have := leadU_eq (k := 10) (n := k) (l := l) (by omega) (by omega) h1 (fun _ _ => h2)
  simp only [getU, this]
  rw [if_neg (by omega), if_neg (by omega), if_neg (by omega), if_neg h0]

theorem own_block {w : World} {base : Nat} {v : Value} {l : List UInt8} (h : Own w base v l) : ∀ b, v.ownBlock = some b → base ≤ b := fun b hb => (World.ownsRow.lt h b hb).1

end Go.Proofs.YtedfcnlhdicipaaDoor

