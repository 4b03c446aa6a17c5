/-
  The document's own answers for layer 4 (deckleref04): the order of cells.
-/
import Derived.Test.YtkljkpffpdpphaaDoorCellRef
import Derived.Test.YtkljkpffpdpphaaDoorFloat
import Derived.Laws.Externs
set_option linter.unusedVariables false
set_option linter.unusedSimpArgs false
set_option maxRecDepth 1000000
namespace Go.Proofs.YtkljkpffpdpphaaDoor
open Go.RowKit

theorem nan_ne (x : Nat) (hx : x < 18446744073709551616) : (FloatKind.f64.format.order x x != some Ordering.eq) = Flt.nan x := by
  have h := Flt.order_eq x x (by simpa [Flt.W] using hx) (by simpa [Flt.W] using hx)
  have e : FloatKind.f64.format.order x x = Ieee.double.order x x := rfl
  rw [e, h]
  cases hn : Flt.nan x with
  | true => simp
  | false => simp

/-- Where a float stands: 0 no number with a sign, 1 a number, 2 no number without one. -/
def placeC (x : Nat) : Nat := if Flt.nan x = true then (if 9223372036854775808 ≤ x then 0 else 2) else 1

/-- A float's place in the order, as a number. -/
def tkey (x : Nat) : Int := if x < 9223372036854775808 then (x : Int) else 9223372036854775807 - (x : Int)

/-- Is one cell ahead of another one? -/
def aheadC (kind : Int) (x : Nat) (l : List UInt8) (y : Nat) (m : List UInt8) : Bool :=
  if kind = 0 then decide (wrap64 (x : Int) < wrap64 (y : Int)) else if kind = 3 ∨ kind = 4 then Op.bytesLess l m else if kind = 5 then decide (tkey x < tkey y) else decide (x < y)

theorem nan_iff (x : Nat) : Flt.nan x = true ↔ 9218868437227405312 < x % 9223372036854775808 := by
  unfold Flt.nan
  rw [decide_eq_true_iff]
  rfl
theorem placeC_cases {x p : Nat} (h : placeC x = p) : (p = 0 ∧ 9218868437227405312 < x % 9223372036854775808 ∧ 9223372036854775808 ≤ x) ∨ (p = 2 ∧ 9218868437227405312 < x % 9223372036854775808 ∧ ¬ 9223372036854775808 ≤ x) ∨ (p = 1 ∧ ¬ 9218868437227405312 < x % 9223372036854775808) := by
  unfold placeC at h
  by_cases h1 : Flt.nan x = true
  · rw [if_pos h1] at h
    have h2 := (nan_iff x).1 h1
    by_cases h3 : 9223372036854775808 ≤ x
    · rw [if_pos h3] at h; exact .inl ⟨h.symm, h2, h3⟩
    · rw [if_neg h3] at h; exact .inr (.inl ⟨h.symm, h2, h3⟩)
  · rw [if_neg h1] at h
    exact .inr (.inr ⟨h.symm, fun h2 => h1 ((nan_iff x).2 h2)⟩)

/-- Floats that are of two places. -/
theorem tkey_place {x y p q : Nat} (hx : x < 18446744073709551616) (hy : y < 18446744073709551616) (hp : placeC x = p) (hq : placeC y = q) (h : p ≠ q) : decide (tkey x < tkey y) = decide (p < q) := by
  have h1 := placeC_cases hp
  have h2 := placeC_cases hq
  rw [decide_eq_decide]
  unfold tkey
  split <;> split <;> omega
theorem tkey_0 {x y : Nat} (hx : x < 18446744073709551616) (hy : y < 18446744073709551616) (hp : placeC x = 0) (hq : placeC y = 0) : decide (tkey x < tkey y) = decide (x > y) := by
  have h1 := placeC_cases hp
  have h2 := placeC_cases hq
  rw [decide_eq_decide]
  unfold tkey
  split <;> split <;> omega
theorem tkey_2 {x y : Nat} (hx : x < 18446744073709551616) (hy : y < 18446744073709551616) (hp : placeC x = 2) (hq : placeC y = 2) : decide (tkey x < tkey y) = decide (x < y) := by
  have h1 := placeC_cases hp
  have h2 := placeC_cases hq
  rw [decide_eq_decide]
  unfold tkey
  split <;> split <;> omega
theorem place_num {x : Nat} (hp : placeC x = 1) : Flt.nan x = false := by
  have h1 := placeC_cases hp
  cases h : Flt.nan x with
  | false => rfl
  | true => have := (nan_iff x).1 h; omega
theorem key_lo {x : Nat} (h : x < 9223372036854775808) : Flt.key x = x := if_pos h
theorem key_hi {x : Nat} (h : ¬ x < 9223372036854775808) : Flt.key x = -((x - 9223372036854775808 : Nat) : Int) := if_neg h
theorem tkey_lo {x : Nat} (h : x < 9223372036854775808) : tkey x = x := if_pos h
theorem tkey_hi {x : Nat} (h : ¬ x < 9223372036854775808) : tkey x = 9223372036854775807 - (x : Int) := if_neg h
/-- Numbers: as they are, and the zeros by their bits. -/
theorem tkey_zero {x y : Nat} (h1 : Flt.key x = 0) (h2 : Flt.key y = 0) : decide (tkey x < tkey y) = decide (x > y) := by
  rw [decide_eq_decide]
  by_cases a : x < 9223372036854775808
  · rw [key_lo a] at h1
    rw [tkey_lo a]
    by_cases b : y < 9223372036854775808
    · rw [key_lo b] at h2; rw [tkey_lo b]; omega
    · rw [key_hi b] at h2; rw [tkey_hi b]; omega
  · rw [key_hi a] at h1
    rw [tkey_hi a]
    by_cases b : y < 9223372036854775808
    · rw [key_lo b] at h2; rw [tkey_lo b]; omega
    · rw [key_hi b] at h2; rw [tkey_hi b]; omega
theorem tkey_num {x y : Nat} (h : ¬ (Flt.key x = 0 ∧ Flt.key y = 0)) : decide (tkey x < tkey y) = decide (Flt.key x < Flt.key y) := by
  rw [decide_eq_decide]
  by_cases a : x < 9223372036854775808
  · rw [key_lo a] at h ⊢
    rw [tkey_lo a]
    by_cases b : y < 9223372036854775808
    · rw [key_lo b] at h ⊢; rw [tkey_lo b]
    · rw [key_hi b] at h ⊢; rw [tkey_hi b]; omega
  · rw [key_hi a] at h ⊢
    rw [tkey_hi a]
    by_cases b : y < 9223372036854775808
    · rw [key_lo b] at h ⊢; rw [tkey_lo b]; omega
    · rw [key_hi b] at h ⊢; rw [tkey_hi b]; omega
theorem ford {x y : Nat} (hx : x < 18446744073709551616) (hy : y < 18446744073709551616) (h1 : Flt.nan x = false) (h2 : Flt.nan y = false) : FloatKind.f64.format.order x y = some (compare (Flt.key x) (Flt.key y)) := by
  have e : FloatKind.f64.format.order x y = Ieee.double.order x y := rfl
  rw [e, Flt.order_eq x y (by simpa [Flt.W] using hx) (by simpa [Flt.W] using hy), if_neg (by simp [h1, h2])]
theorem key_zero : Flt.key 0 = 0 := by decide
theorem ford_eq0 {x : Nat} (hx : x < 18446744073709551616) (h1 : Flt.nan x = false) : (FloatKind.f64.format.order x 0 == some Ordering.eq) = decide (Flt.key x = 0) := by
  rw [ford hx (by decide) h1 (by decide), key_zero]
  by_cases h : Flt.key x = 0
  · rw [Int.compare_eq_eq.2 h, decide_eq_true h]; rfl
  · rw [decide_eq_false h]
    rcases Int.lt_trichotomy (Flt.key x) 0 with h2 | h2 | h2
    · rw [Int.compare_eq_lt.2 h2]; rfl
    · exact absurd h2 h
    · rw [Int.compare_eq_gt.2 h2]; rfl
theorem ford_lt {x y : Nat} (hx : x < 18446744073709551616) (hy : y < 18446744073709551616) (h1 : Flt.nan x = false) (h2 : Flt.nan y = false) : (FloatKind.f64.format.order x y == some Ordering.lt) = decide (Flt.key x < Flt.key y) := by
  rw [ford hx hy h1 h2]
  rcases Int.lt_trichotomy (Flt.key x) (Flt.key y) with h | h | h
  · rw [Int.compare_eq_lt.2 h, decide_eq_true h]; rfl
  · rw [Int.compare_eq_eq.2 h, decide_eq_false (by omega)]; rfl
  · rw [Int.compare_eq_gt.2 h, decide_eq_false (by omega)]; rfl

end Go.Proofs.YtkljkpffpdpphaaDoor
