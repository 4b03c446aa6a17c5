/-
  Small whole numbers as binary64: their words stand in their order. No program.
-/
import Derived.Test.YtfleebllabolgaaDoorCellOrd
set_option linter.unusedVariables false
set_option linter.unusedSimpArgs false
set_option maxRecDepth 1000000
namespace Go.Proofs.YtfleebllabolgaaDoor
open Ieee

/-- The rung of a small natural number. -/
def rungI (m : Nat) : Nat := if m = 0 then 0 else (m.log2 + 1022) * 4503599627370496 + m * 2 ^ (52 - m.log2)

theorem log_le {m : Nat} (h0 : m ≠ 0) (hm : m < 9007199254740992) : m.log2 ≤ 52 := by
  have := (Nat.log2_lt h0 (k := 53)).2 (by simpa using hm)
  omega

theorem shift_bounds {m : Nat} (h0 : m ≠ 0) (hm : m < 9007199254740992) : 4503599627370496 ≤ m * 2 ^ (52 - m.log2) ∧ m * 2 ^ (52 - m.log2) < 9007199254740992 := by
  have hl := log_le h0 hm
  have h1 := Nat.log2_self_le h0
  have h2 : m < 2 ^ (m.log2 + 1) := Nat.lt_log2_self
  have e1 : 2 ^ m.log2 * 2 ^ (52 - m.log2) = 4503599627370496 := by rw [← Nat.pow_add, Nat.add_sub_cancel' hl]
  have e2 : 2 ^ (m.log2 + 1) * 2 ^ (52 - m.log2) = 9007199254740992 := by
    rw [← Nat.pow_add, show m.log2 + 1 + (52 - m.log2) = 53 from by omega]
  have hp : 0 < 2 ^ (52 - m.log2) := Nat.pow_pos (by decide)
  constructor
  · rw [← e1]; exact Nat.mul_le_mul_right _ h1
  · rw [← e2]; exact Nat.mul_lt_mul_of_pos_right h2 hp

theorem rungI_lt {m k : Nat} (h : m < k) (hk : k < 9007199254740992) : rungI m < rungI k := by
  have hk0 : k ≠ 0 := by omega
  have bk := shift_bounds hk0 hk
  unfold rungI
  rw [if_neg hk0]
  by_cases hm0 : m = 0
  · rw [if_pos hm0]; omega
  · rw [if_neg hm0]
    have bm := shift_bounds hm0 (by omega)
    have hle : m.log2 ≤ k.log2 := by
      have h1 := Nat.log2_self_le hm0
      exact (Nat.le_log2 hk0).2 (by omega)
    rcases Nat.lt_or_ge m.log2 k.log2 with hlt | hge
    · have h2 : (m.log2 + 1 + 1022) * 4503599627370496 ≤ (k.log2 + 1022) * 4503599627370496 := Nat.mul_le_mul_right _ (by omega)
      have h3 : (m.log2 + 1 + 1022) * 4503599627370496 = (m.log2 + 1022) * 4503599627370496 + 4503599627370496 := by
        rw [show m.log2 + 1 + 1022 = (m.log2 + 1022) + 1 from by omega, Nat.add_mul, Nat.one_mul]
      omega
    · have e : m.log2 = k.log2 := Nat.le_antisymm hle hge
      rw [e]
      have hp : 0 < 2 ^ (52 - k.log2) := Nat.pow_pos (by decide)
      have := Nat.mul_lt_mul_of_pos_right h hp
      omega

theorem rungI_bound {m : Nat} (hm : m < 9007199254740992) : rungI m < 4841369599423283200 + 9007199254740992 := by
  unfold rungI
  by_cases h0 : m = 0
  · rw [if_pos h0]; decide
  · rw [if_neg h0]
    have b := shift_bounds h0 hm
    have hl := log_le h0 hm
    have : (m.log2 + 1022) * 4503599627370496 ≤ (52 + 1022) * 4503599627370496 := Nat.mul_le_mul_right _ (by omega)
    omega

theorem cut_zero (neg : Bool) (n : Nat) : Toward.even.cut neg n 0 = n := by
  unfold Toward.cut
  simp [Nat.mod_one]

theorem nearest_int (neg : Bool) (m : Nat) (hm : m < 9007199254740992) : double.nearest neg m 0 = if neg then 9223372036854775808 + rungI m else rungI m := by
  have hw : ∀ r, double.word neg r = if neg then 9223372036854775808 + r else r := fun r => by
    unfold Format.word; rw [Flt.weight_eq]; rfl
  unfold Format.nearest
  by_cases h0 : m = 0
  · rw [if_pos h0, hw]
    rw [show rungI m = 0 from if_pos h0]
  · rw [if_neg h0]
    have hl := log_le h0 hm
    have hlp : double.leastPlace = -1074 := by decide
    have hfb : (double.fractionBits : Int) = 52 := rfl
    have hlast : max (0 + (m.log2 : Int) - (double.fractionBits : Int)) (-1074) = (m.log2 : Int) - 52 := by
      rw [hfb]; omega
    simp only [hlp, hlast]
    rw [show ((m.log2 : Int) - 52 - 0).toNat = 0 from by omega, show (0 - ((m.log2 : Int) - 52)).toNat = 52 - m.log2 from by omega, cut_zero, Flt.binade_eq, Flt.rung_eq,
      show ((m.log2 : Int) - 52 - -1074).toNat = m.log2 + 1022 from by omega, Nat.shiftLeft_eq, hw]
    have hr : (m.log2 + 1022) * Flt.B + m * 2 ^ (52 - m.log2) = rungI m := by unfold rungI; rw [if_neg h0]; rfl
    rw [hr]
    have hb := rungI_bound hm
    rw [Nat.min_eq_left (by unfold Flt.R; omega)]

/-- A small whole number's word. -/
def fl (n : Int) : Nat := FloatKind.f64.nearest n
theorem fl_eq (n : Int) (h : n.natAbs < 9007199254740992) : fl n = if n < 0 then 9223372036854775808 + rungI n.natAbs else rungI n.natAbs := by
  have e : fl n = double.nearest (decide (n < 0)) n.natAbs 0 := rfl
  rw [e, nearest_int _ _ h]
  by_cases hn : n < 0
  · rw [decide_eq_true hn, if_pos rfl, if_pos hn]
  · rw [decide_eq_false hn, if_neg (by decide), if_neg hn]
theorem fl_lt (n : Int) (h : n.natAbs < 9007199254740992) : fl n < 18446744073709551616 := by
  have hb := rungI_bound h
  rw [fl_eq n h]
  split <;> omega

theorem tkey_fl (n : Int) (h : n.natAbs < 9007199254740992) : tkey (fl n) = if n < 0 then -1 - (rungI n.natAbs : Int) else (rungI n.natAbs : Int) := by
  have hb := rungI_bound h
  rw [fl_eq n h]
  by_cases hn : n < 0
  · rw [if_pos hn, if_pos hn, tkey_hi (by omega)]; omega
  · rw [if_neg hn, if_neg hn, tkey_lo (by omega)]

theorem tkey_mono {a b : Int} (h : a < b) (ha : a.natAbs < 9007199254740992) (hb : b.natAbs < 9007199254740992) : tkey (fl a) < tkey (fl b) := by
  rw [tkey_fl a ha, tkey_fl b hb]
  by_cases h1 : a < 0
  · rw [if_pos h1]
    by_cases h2 : b < 0
    · rw [if_pos h2]
      have := rungI_lt (show b.natAbs < a.natAbs by omega) ha
      omega
    · rw [if_neg h2]; omega
  · rw [if_neg h1, if_neg (by omega)]
    have := rungI_lt (show a.natAbs < b.natAbs by omega) hb
    omega

end Go.Proofs.YtfleebllabolgaaDoor
