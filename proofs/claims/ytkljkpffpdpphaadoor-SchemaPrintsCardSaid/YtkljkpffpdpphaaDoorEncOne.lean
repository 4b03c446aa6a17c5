/-
  What is got of any bytes is put as those (no program in it).
-/
import Derived.Test.YtkljkpffpdpphaaDoorWireGet
set_option linter.unusedVariables false
set_option linter.unusedSimpArgs false
set_option maxRecDepth 1000000
namespace Go.Proofs.YtkljkpffpdpphaaDoor
open Go.RowKit

/-- A number's bytes are the only ones that are read as it. -/
theorem encU_val (n : Nat) : ∀ (l : List UInt8), n < l.length → (∀ j, j < n → 128 ≤ at8 l j) → at8 l n < 128 → (0 < n → at8 l n ≠ 0) → encU (valU (l.take (n + 1))) = l.take (n + 1) := by
  induction n with
  | zero =>
    intro l hl _ h1 _
    cases l with
    | nil => simp at hl
    | cons b l =>
      simp [at8] at h1
      simp only [List.take_succ_cons, List.take_zero, valU_cons, valU_nil]
      rw [encU_lt (by omega)]
      congr 1
      apply UInt8.toNat_inj.1
      rw [UInt8.toNat_ofNat']; omega
  | succ n ih =>
    intro l hl h0 h1 h2
    cases l with
    | nil => simp at hl
    | cons b l =>
      have hb := h0 0 (by omega)
      simp [at8] at hb
      have e : ∀ j, at8 (b :: l) (j + 1) = at8 l j := fun j => by simp [at8]
      have ih' := ih l (by simpa using hl) (fun j hj => by have := h0 (j + 1) (by omega); rwa [e] at this) (by rw [e] at h1; exact h1) (fun hn => by have := h2 (by omega); rwa [e] at this)
      rw [List.take_succ_cons, valU_cons]
      have hpos : 0 < valU (l.take (n + 1)) := by
        apply Nat.pos_of_ne_zero
        intro h
        rw [h, encU_lt (by decide)] at ih'
        have hlen : (l.take (n + 1)).length = 1 := by rw [← ih']; rfl
        simp at hlen
        have hn0 : n = 0 := by simp at hl; omega
        subst hn0
        cases l with
        | nil => simp at hl
        | cons c l =>
          simp at ih'
          have := h2 (by omega)
          rw [e] at this
          apply this
          simp [at8, ← ih']
      rw [encU_ge (by omega)]
      have d1 : (b.toNat % 128 + 128 * valU (l.take (n + 1))) / 128 = valU (l.take (n + 1)) := by omega
      have d2 : 128 + (b.toNat % 128 + 128 * valU (l.take (n + 1))) % 128 = b.toNat := by
        have := b.toNat_lt
        omega
      rw [d1, d2, ih']
      simp

/-- What is got is put as the bytes that it had. -/
theorem getU_enc {l : List UInt8} {x n : Nat} (h : getU l = (x, n, 0)) : encU x = l.take n := by
  have hle := leadU_le 10 l
  have hge := fun i hi => leadU_ge (k := 10) (l := l) i hi
  unfold getU at h
  simp only at h
  by_cases h1 : leadU 10 l = 10
  · simp [h1] at h
  · by_cases h2 : leadU 10 l = l.length
    · simp only [if_neg h1, if_pos h2] at h; simp at h
    · by_cases h3 : 2 ^ 64 ≤ valU (l.take (leadU 10 l + 1))
      · simp only [if_neg h1, if_neg h2, if_pos h3] at h; simp at h
      · by_cases h4 : 0 < leadU 10 l ∧ at8 l (leadU 10 l) = 0
        · simp only [if_neg h1, if_neg h2, if_neg h3, if_pos h4] at h; simp at h
        · simp only [if_neg h1, if_neg h2, if_neg h3, if_neg h4, Prod.mk.injEq, and_true] at h
          obtain ⟨rfl, rfl⟩ := h
          exact encU_val (leadU 10 l) l (by omega) hge (leadU_next (by omega) (by omega)) (fun hp hz => h4 ⟨hp, hz⟩)

theorem getB_enc {l c : List UInt8} {most : Int} {n : Nat} (h : getB l most = (c, n, 0)) : encB c = l.take n ∧ 1 ≤ n ∧ n ≤ l.length ∧ c.length ≤ l.length := by
  unfold getB at h
  split at h
  · rename_i he; simp at h; exact absurd h.2.2 he
  · rename_i he
    have he' : (getU l).2.2 = 0 := by omega
    obtain ⟨g1, g2, g3, g4⟩ := getU_good l he'
    split at h
    · simp at h
    · split at h
      · simp at h
      · simp only [Prod.mk.injEq, and_true] at h
        obtain ⟨rfl, rfl⟩ := h
        have hu := getU_enc (l := l) (x := (getU l).1) (n := (getU l).2.1) (by rw [← he'])
        have hlen : ((l.drop (getU l).2.1).take (getU l).1).length = (getU l).1 := by simp; omega
        refine ⟨?_, by omega, by omega, by simp; omega⟩
        unfold encB
        rw [hlen, hu, List.take_add]

end Go.Proofs.YtkljkpffpdpphaaDoor
