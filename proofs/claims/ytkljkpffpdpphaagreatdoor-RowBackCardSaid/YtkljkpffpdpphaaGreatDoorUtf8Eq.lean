/-
  UTF-8 as the library's ValidString answers, and as the document's own answer tells it: they are one. No program.
-/
import Derived.Test.YtkljkpffpdpphaaGreatDoorUtf8
import Derived.Lib.ValidLaws
import Derived.Lib.DecodeNEq
set_option linter.unusedVariables false
set_option linter.unusedSimpArgs false
set_option maxRecDepth 1000000
namespace Go.Proofs.YtkljkpffpdpphaaGreatDoor
open Go.Lib

theorem cont_iff {b : Nat} (hb : b < 256) : b / 64 = 2 ↔ ¬ (b < 128 ∨ 191 < b) := by omega

theorem valid_two (c : UInt8) (r : List UInt8) (h : 194 ≤ c.toNat ∧ c.toNat < 224) (ih : ∀ r' : List UInt8, r'.length ≤ r.length → validD r' = utf8 r') : validD (c :: r) = utf8 (c :: r) := by
  have hl : leadOf c.toNat = some (1, c.toNat % 32, 128) := by unfold leadOf; rw [if_pos (by omega)]
  rw [validD_lead _ (by simp) (by simp; omega), utf8_lead (by omega) hl]
  simp only [List.getD_cons_zero, List.getD_cons_succ]
  rw [firstT_C2 h]
  rw [show accLo (2 / 16) = 128 from by decide, show accHi (2 / 16) = 191 from by decide, show (2 % 8 : Nat) = 2 from rfl]
  unfold checkN
  rw [if_pos rfl]
  match r with
  | [] => simp [utf8V]
  | b :: r' =>
    have hb : b.toNat < 256 := b.toNat_lt
    simp only [List.getD_cons_zero, List.length_cons, utf8V]
    by_cases h1 : b.toNat / 64 = 2
    · have h2 := (cont_iff hb).1 h1
      rw [if_neg (by omega), if_pos h1]
      simp only [List.drop_succ_cons, List.drop_zero]
      rw [show runeOK 128 (64 * (c.toNat % 32) + b.toNat % 64) = true from by unfold runeOK; simp; omega, Bool.true_and]
      exact ih r' (by simp)
    · have h2 := fun h => h1 ((cont_iff hb).2 h)
      rw [if_pos (by omega), if_neg h1]

theorem valid_three (c : UInt8) (r : List UInt8) (lo hi ft : Nat) (h : 224 ≤ c.toNat ∧ c.toNat < 240) (hft : firstT c.toNat = ft) (h8 : ft % 8 = 3) (hlo : accLo (ft / 16) = lo) (hhi : accHi (ft / 16) = hi)
    (hr : (lo = 128 ∧ hi = 191 ∧ c.toNat ≠ 224 ∧ c.toNat ≠ 237) ∨ (lo = 160 ∧ hi = 191 ∧ c.toNat = 224) ∨ (lo = 128 ∧ hi = 159 ∧ c.toNat = 237)) (ih : ∀ r' : List UInt8, r'.length ≤ r.length → validD r' = utf8 r') : validD (c :: r) = utf8 (c :: r) := by
  have hl : leadOf c.toNat = some (2, c.toNat % 16, 2048) := by unfold leadOf; rw [if_neg (by omega), if_pos (by omega)]
  rw [validD_lead _ (by simp) (by simp; omega), utf8_lead (by omega) hl]
  simp only [List.getD_cons_zero, List.getD_cons_succ]
  rw [hft, hlo, hhi, h8]
  unfold checkN
  rw [if_neg (by decide), if_pos rfl]
  match r with
  | [] => simp [utf8V]
  | [b] =>
    simp only [utf8V, List.length_cons, List.length_nil]
    rw [if_pos (.inl (by omega))]
    by_cases h1 : b.toNat / 64 = 2
    · rw [if_pos h1]
    · rw [if_neg h1]
  | b :: d :: r' =>
    have hb : b.toNat < 256 := b.toNat_lt
    have hd : d.toNat < 256 := d.toNat_lt
    simp only [List.getD_cons_zero, List.getD_cons_succ, List.length_cons, utf8V]
    by_cases h1 : b.toNat / 64 = 2
    · by_cases h2 : d.toNat / 64 = 2
      · rw [if_pos h1, if_pos h2]
        simp only [List.drop_succ_cons, List.drop_zero]
        by_cases h3 : b.toNat < lo ∨ hi < b.toNat
        · rw [if_pos (by omega)]
          rw [show runeOK 2048 (64 * (64 * (c.toNat % 16) + b.toNat % 64) + d.toNat % 64) = false from by unfold runeOK; simp; omega, Bool.false_and]
        · rw [if_neg (by omega)]
          rw [show runeOK 2048 (64 * (64 * (c.toNat % 16) + b.toNat % 64) + d.toNat % 64) = true from by unfold runeOK; simp; omega, Bool.true_and]
          exact ih r' (by simp; omega)
      · rw [if_pos h1, if_neg h2, if_pos (by omega)]
    · rw [if_neg h1, if_pos (by omega)]

theorem valid_four (c : UInt8) (r : List UInt8) (lo hi ft : Nat) (h : 240 ≤ c.toNat ∧ c.toNat < 245) (hft : firstT c.toNat = ft) (h8 : ft % 8 = 4) (hlo : accLo (ft / 16) = lo) (hhi : accHi (ft / 16) = hi)
    (hr : (lo = 128 ∧ hi = 191 ∧ c.toNat ≠ 240 ∧ c.toNat ≠ 244) ∨ (lo = 144 ∧ hi = 191 ∧ c.toNat = 240) ∨ (lo = 128 ∧ hi = 143 ∧ c.toNat = 244)) (ih : ∀ r' : List UInt8, r'.length ≤ r.length → validD r' = utf8 r') : validD (c :: r) = utf8 (c :: r) := by
  have hl : leadOf c.toNat = some (3, c.toNat % 8, 65536) := by unfold leadOf; rw [if_neg (by omega), if_neg (by omega), if_pos (by omega)]
  rw [validD_lead _ (by simp) (by simp; omega), utf8_lead (by omega) hl]
  simp only [List.getD_cons_zero, List.getD_cons_succ]
  rw [hft, hlo, hhi, h8]
  unfold checkN
  rw [if_neg (by decide), if_neg (by decide), if_pos rfl]
  match r with
  | [] => simp [utf8V]
  | [b] =>
    simp only [utf8V, List.length_cons, List.length_nil]
    rw [if_pos (.inl (by omega))]
    by_cases h1 : b.toNat / 64 = 2
    · rw [if_pos h1]
    · rw [if_neg h1]
  | [b, d] =>
    simp only [utf8V, List.length_cons, List.length_nil]
    rw [if_pos (.inl (by omega))]
    by_cases h1 : b.toNat / 64 = 2
    · by_cases h2 : d.toNat / 64 = 2
      · rw [if_pos h1, if_pos h2]
      · rw [if_pos h1, if_neg h2]
    · rw [if_neg h1]
  | b :: d :: g :: r' =>
    have hb : b.toNat < 256 := b.toNat_lt
    have hd : d.toNat < 256 := d.toNat_lt
    have hg : g.toNat < 256 := g.toNat_lt
    simp only [List.getD_cons_zero, List.getD_cons_succ, List.length_cons, utf8V]
    by_cases h1 : b.toNat / 64 = 2
    · by_cases h2 : d.toNat / 64 = 2
      · by_cases h4 : g.toNat / 64 = 2
        · rw [if_pos h1, if_pos h2, if_pos h4]
          simp only [List.drop_succ_cons, List.drop_zero]
          by_cases h3 : b.toNat < lo ∨ hi < b.toNat
          · rw [if_pos (by omega)]
            rw [show runeOK 65536 (64 * (64 * (64 * (c.toNat % 8) + b.toNat % 64) + d.toNat % 64) + g.toNat % 64) = false from by unfold runeOK; simp; omega, Bool.false_and]
          · rw [if_neg (by omega)]
            rw [show runeOK 65536 (64 * (64 * (64 * (c.toNat % 8) + b.toNat % 64) + d.toNat % 64) + g.toNat % 64) = true from by unfold runeOK; simp; omega, Bool.true_and]
            exact ih r' (by simp; omega)
        · rw [if_pos h1, if_pos h2, if_neg h4, if_pos (by omega)]
      · rw [if_pos h1, if_neg h2, if_pos (by omega)]
    · rw [if_neg h1, if_pos (by omega)]

theorem utf8_valid_to : ∀ (k : Nat) (l : List UInt8), l.length ≤ k → validD l = utf8 l
  | _, [], _ => by rw [validD_nil, utf8_nil]
  | 0, c :: r, h => by simp at h
  | k + 1, c :: r, h => by
    have hk : r.length ≤ k := by simpa using h
    have ih : ∀ r' : List UInt8, r'.length ≤ r.length → validD r' = utf8 r' := fun r' hr => utf8_valid_to k r' (by omega)
    have hc : c.toNat < 256 := c.toNat_lt
    by_cases h0 : c.toNat < 128
    · rw [validD_cons c r h0, utf8_low h0]; exact ih r (Nat.le_refl _)
    · by_cases h1 : c.toNat < 194
      · rw [validD_lead _ (by simp) (by simp; omega), utf8_none (by omega) (by unfold leadOf; rw [if_neg (by omega), if_neg (by omega), if_neg (by omega)])]
        simp only [List.getD_cons_zero]
        rw [show firstT c.toNat = 241 from by simp [firstT, show ¬ c.toNat < 128 by omega, h1]]
        rfl
      · by_cases h2 : c.toNat < 224
        · exact valid_two c r ⟨by omega, h2⟩ ih
        · by_cases h3 : c.toNat < 240
          · by_cases e0 : c.toNat = 224
            · exact valid_three c r 160 191 19 ⟨by omega, h3⟩ (firstT_E0 e0) rfl (by decide) (by decide) (.inr (.inl ⟨rfl, rfl, e0⟩)) ih
            · by_cases e1 : c.toNat = 237
              · exact valid_three c r 128 159 35 ⟨by omega, h3⟩ (firstT_ED e1) rfl (by decide) (by decide) (.inr (.inr ⟨rfl, rfl, e1⟩)) ih
              · exact valid_three c r 128 191 3 ⟨by omega, h3⟩ (firstT_E1 (by omega)) rfl (by decide) (by decide) (.inl ⟨rfl, rfl, e0, e1⟩) ih
          · by_cases h4 : c.toNat < 245
            · by_cases e0 : c.toNat = 240
              · exact valid_four c r 144 191 52 ⟨by omega, h4⟩ (firstT_F0 e0) rfl (by decide) (by decide) (.inr (.inl ⟨rfl, rfl, e0⟩)) ih
              · by_cases e1 : c.toNat = 244
                · exact valid_four c r 128 143 68 ⟨by omega, h4⟩ (firstT_F4 e1) rfl (by decide) (by decide) (.inr (.inr ⟨rfl, rfl, e1⟩)) ih
                · exact valid_four c r 128 191 4 ⟨by omega, h4⟩ (firstT_F1 (by omega)) rfl (by decide) (by decide) (.inl ⟨rfl, rfl, e0, e1⟩) ih
            · rw [validD_lead _ (by simp) (by simp; omega), utf8_none (by omega) (by unfold leadOf; rw [if_neg (by omega), if_neg (by omega), if_neg (by omega)])]
              simp only [List.getD_cons_zero]
              rw [show firstT c.toNat = 241 from by unfold firstT; rw [if_neg (by omega), if_neg (by omega), if_neg (by omega), if_neg (by omega), if_neg (by omega), if_neg (by omega), if_neg (by omega), if_neg (by omega), if_neg (by omega), if_neg (by omega)]]
              rfl

theorem utf8_valid (l : List UInt8) : validD l = utf8 l := utf8_valid_to l.length l (Nat.le_refl _)

end Go.Proofs.YtkljkpffpdpphaaGreatDoor
