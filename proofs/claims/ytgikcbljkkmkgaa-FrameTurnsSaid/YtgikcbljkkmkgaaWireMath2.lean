/-
  What is put is got: the mathematics of layer 1's laws without the document. No program.
-/
import Derived.Test.YtgikcbljkkmkgaaWireGet
set_option linter.unusedVariables false
set_option linter.unusedSimpArgs false
set_option maxRecDepth 1000000
namespace Go.Proofs.Ytgikcbljkkmkgaa

theorem valU_enc (x : Nat) : valU (encU x) = x := by
  by_cases h : x < 128
  · rw [encU_lt h, valU_cons, valU_nil, UInt8.toNat_ofNat']; omega
  · rw [encU_ge h, valU_cons, valU_enc (x / 128), UInt8.toNat_ofNat']; omega
termination_by x
decreasing_by omega

theorem at8_append_left {l m : List UInt8} {i : Nat} (h : i < l.length) : at8 (l ++ m) i = at8 l i := by
  unfold at8; simp [List.getD, List.getElem?_append_left h]
theorem at8_append_right {l m : List UInt8} {i : Nat} (h : l.length ≤ i) : at8 (l ++ m) i = at8 m (i - l.length) := by
  unfold at8; simp [List.getD, List.getElem?_append_right h]

theorem at8_preU {x k j : Nat} (h : j < k) : 128 ≤ at8 (preU x k) j := by
  induction k with
  | zero => omega
  | succ k ih =>
    rw [preU]
    by_cases e : j < k
    · rw [at8_append_left (by rw [preU_length]; exact e)]; exact ih e
    · obtain rfl : j = k := by omega
      rw [at8_append_right (by rw [preU_length]; exact Nat.le_refl _), preU_length]
      simp [at8]; omega

/-- The bytes of a number, one by one: all but the last are not below 128. -/
theorem at8_enc (x : Nat) : ∃ k, (encU x).length = k + 1 ∧ (∀ j, j < k → 128 ≤ at8 (encU x) j) ∧ at8 (encU x) k = ((x / 128 ^ k : Nat) : Int) ∧ x / 128 ^ k < 128 ∧ (0 < k → 0 < x / 128 ^ k) := by
  obtain ⟨k, h1, h2, h3, h4⟩ := encU_pre x
  refine ⟨k, h1, fun j hj => ?_, ?_, h2, h4⟩
  · rw [h3, at8_append_left (by rw [preU_length]; exact hj)]; exact at8_preU hj
  · rw [h3, at8_append_right (by rw [preU_length]; exact Nat.le_refl _), preU_length]
    have hz := h2
    generalize x / 128 ^ k = z at hz ⊢
    simp [at8]; omega

/-- What is put is got, whatever stands behind. -/
theorem getU_put (x : Nat) (hx : x < 2 ^ 64) (m : List UInt8) : getU (encU x ++ m) = (x, (encU x).length, 0) := by
  obtain ⟨k, h1, h2, h3, h4, h5⟩ := at8_enc x
  have hle := encU_le x hx
  have ha : ∀ j, j < k + 1 → at8 (encU x ++ m) j = at8 (encU x) j := fun j hj => at8_append_left (by omega)
  have hk9 : k = 9 → at8 (encU x ++ m) k ≤ 1 := by
    intro e
    rw [ha k (by omega), h3]
    subst e
    have : x / 128 ^ 9 < 2 := by
      rw [Nat.div_lt_iff_lt_mul (by decide)]
      have : (2 : Nat) * 128 ^ 9 = 2 ^ 64 := by decide
      omega
    omega
  have := getU_ok (l := encU x ++ m) (k := k) (fun j hj => by rw [ha j (by omega)]; exact h2 j hj) (by omega) (by simp; omega) (by rw [ha k (by omega), h3]; omega) hk9 (fun hp => by rw [ha k (by omega), h3]; have := h5 hp; omega)
  rw [this, ← h1, List.take_left, valU_enc]

theorem getU_cut (x i : Nat) (hx : x < 2 ^ 64) (hi : i < (encU x).length) : getU ((encU x).take i) = (0, 0, 5) := by
  obtain ⟨k, h1, h2, _⟩ := at8_enc x
  have hle := encU_le x hx
  have hlen : ((encU x).take i).length = i := by simp; omega
  have := getU_short (l := (encU x).take i) (k := i) (fun j hj => by
    have e : at8 ((encU x).take i) j = at8 (encU x) j := by unfold at8; simp only [List.getD]; rw [List.getElem?_take_of_lt hj]
    rw [e]; exact h2 j (by omega)) (by omega) hlen.symm
  exact this

theorem getB_put (l m : List UInt8) (hl : l.length < 2 ^ 63) : getB (encB l ++ m) l.length = (l, (encB l).length, 0) := by
  have h := getU_put l.length (by omega) (l ++ m)
  unfold getB encB
  rw [List.append_assoc, h]
  dsimp only
  rw [if_neg (by simp), if_neg (by omega), if_neg (by simp)]
  rw [List.drop_left, List.take_left]
  simp

theorem getB_cut (l : List UInt8) (i : Nat) (hl : l.length < 2 ^ 63) (hi : i < (encB l).length) : getB ((encB l).take i) l.length = ([], 0, 5) := by
  have hlen : (encB l).length = (encU l.length).length + l.length := by simp [encB]
  by_cases h : i < (encU l.length).length
  · have e : (encB l).take i = (encU l.length).take i := by unfold encB; rw [List.take_append_of_le_length (by omega)]
    rw [e]
    unfold getB
    rw [getU_cut l.length i (by omega) h]
    simp
  · have e : (encB l).take i = encU l.length ++ l.take (i - (encU l.length).length) := by
      unfold encB; rw [List.take_append, List.take_of_length_le (by omega)]
    rw [e]
    unfold getB
    rw [getU_put l.length (by omega)]
    dsimp only
    rw [if_neg (by simp), if_neg (by omega), if_pos (by simp; omega)]

theorem getB_less (l : List UInt8) (hl : l.length < 2 ^ 63) : getB (encB l) ((l.length : Int) - 1) = ([], 0, 13) := by
  have h := getU_put l.length (by omega) l
  unfold getB encB
  rw [h]
  dsimp only
  rw [if_neg (by simp), if_pos (by omega)]

/-- The bytes of numbers, one behind the other. -/
def encsU (l : List Int) : List UInt8 := l.flatMap fun x => encU x.toNat

theorem encsU_snoc (l : List Int) (k : Nat) (h : k < l.length) : encsU (l.take (k + 1)) = encsU (l.take k) ++ encU (l.getD k 0).toNat := by
  unfold encsU
  rw [List.take_succ_eq_append_getElem h, List.flatMap_append]
  simp [List.getD, h]

theorem encsU_drop (l : List Int) (k : Nat) (h : k < l.length) : encsU (l.drop k) = encU (l.getD k 0).toNat ++ encsU (l.drop (k + 1)) := by
  unfold encsU
  rw [List.drop_eq_getElem_cons h, List.flatMap_cons]
  simp [List.getD, h]

theorem encsU_le (l : List Int) (h : ∀ n ∈ l, 0 ≤ n ∧ n ≤ 18446744073709551615) : (encsU l).length ≤ 10 * l.length := by
  induction l with
  | nil => simp [encsU]
  | cons a l ih =>
    have h1 := encU_le a.toNat (by have := h a (by simp); omega)
    have h2 := ih (fun n hn => h n (by simp [hn]))
    unfold encsU at h2 ⊢
    rw [List.flatMap_cons, List.length_append, List.length_cons]
    omega

end Go.Proofs.Ytgikcbljkkmkgaa
