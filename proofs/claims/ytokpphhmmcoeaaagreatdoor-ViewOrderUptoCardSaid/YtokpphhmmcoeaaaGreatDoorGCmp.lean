/-
  The order of float64s by their bits: how two words of IEEE 754 binary64 stand to each other, told by their bits as whole numbers. No program.
-/
import Derived.WalkKit
import Derived.Below
import Derived.Test.YtokpphhmmcoeaaaGreatDoorGBaseA
import Derived.Laws.Externs
import Derived.Laws.BitsAllLaws
set_option linter.unusedVariables false
set_option linter.unusedSimpArgs false
set_option maxRecDepth 1000000
namespace Go.Proofs.YtokpphhmmcoeaaaGreatDoor.Flt
open Ieee

def B : Nat := 4503599627370496
def W : Nat := 9223372036854775808
def R : Nat := 9218868437227405312

theorem binade_eq : double.binade = B := by decide
theorem weight_eq : double.signWeight = W := by decide
theorem rung_eq : double.infRung = R := by decide

/-- The size of a finite number on rung a, in units of the least one. -/
def val (a : Nat) : Nat := if a < B then a else (B + a % B) * 2 ^ (a / B - 1)

theorem val_lt {a b : Nat} (h : a < b) : val a < val b := by
  have hB : 0 < B := by decide
  unfold val
  by_cases h1 : a < B
  · rw [if_pos h1]
    by_cases h2 : b < B
    · rw [if_pos h2]; exact h
    · rw [if_neg h2]
      have : 1 ≤ 2 ^ (b / B - 1) := Nat.one_le_two_pow
      have : (B + b % B) * 1 ≤ (B + b % B) * 2 ^ (b / B - 1) := Nat.mul_le_mul_left _ this
      omega
  · have h2 : ¬ b < B := by omega
    rw [if_neg h1, if_neg h2]
    have ha := Nat.div_add_mod a B
    have hb := Nat.div_add_mod b B
    have ra := Nat.mod_lt a hB
    have rb := Nat.mod_lt b hB
    have qa : 1 ≤ a / B := by
      rcases Nat.eq_zero_or_pos (a / B) with h | h
      · rw [h] at ha; omega
      · exact h
    have hq : a / B ≤ b / B := Nat.div_le_div_right (Nat.le_of_lt h)
    rcases Nat.lt_or_ge (a / B) (b / B) with hlt | hge
    · have e1 : (B + a % B) * 2 ^ (a / B - 1) < 2 * B * 2 ^ (a / B - 1) := Nat.mul_lt_mul_of_pos_right (by omega) (Nat.two_pow_pos _)
      have e2 : 2 * B * 2 ^ (a / B - 1) = B * 2 ^ (a / B) := by
        obtain ⟨q, hq⟩ : ∃ q, a / B = q + 1 := ⟨a / B - 1, by omega⟩
        rw [hq, Nat.add_sub_cancel, Nat.pow_succ]
        rw [Nat.mul_comm 2 B, Nat.mul_assoc, Nat.mul_comm 2]
      have e3 : B * 2 ^ (a / B) ≤ B * 2 ^ (b / B - 1) := Nat.mul_le_mul_left _ (Nat.pow_le_pow_right (by decide) (by omega))
      have e4 : B * 2 ^ (b / B - 1) ≤ (B + b % B) * 2 ^ (b / B - 1) := Nat.mul_le_mul_right _ (by omega)
      omega
    · have hqq : a / B = b / B := by omega
      rw [hqq] at ha ⊢
      have : a % B < b % B := by omega
      exact Nat.mul_lt_mul_of_pos_right (by omega) (Nat.two_pow_pos _)

theorem val_le {a b : Nat} : val a ≤ val b ↔ a ≤ b := by
  constructor
  · intro h
    rcases Nat.lt_or_ge b a with h1 | h1
    · have := val_lt h1; omega
    · exact h1
  · intro h
    rcases Nat.lt_or_ge a b with h1 | h1
    · exact Nat.le_of_lt (val_lt h1)
    · have : a = b := by omega
      rw [this]; exact Nat.le_refl _
theorem val_lt_iff {a b : Nat} : val a < val b ↔ a < b := by
  have := val_le (a := b) (b := a)
  omega

/-- A word's sign and magnitude as one number. -/
def key (x : Nat) : Int := if x < W then (x : Int) else -((x - W : Nat) : Int)
/-- .. is it no number? -/
def nan (x : Nat) : Bool := decide (R < x % W)

theorem read_eq (x : Nat) (hx : x < 2 * W) : double.read x =
    (if x % W < B then .number (decide (W ≤ x)) (x % W) double.leastPlace
     else if x % W < R then .number (decide (W ≤ x)) (B + x % W % B) (double.leastPlace + (x % W / B - 1 : Nat))
     else if x % W = R then .infinity (decide (W ≤ x))
     else .nan (decide (W ≤ x)) (x % W - R)) := by
  have hs : (x / W % 2 == 1) = decide (W ≤ x) := by
    by_cases h : W ≤ x
    · have : x / W = 1 := by simp only [W] at *; omega
      rw [this]; simp [h]
    · have : x / W = 0 := by simp only [W] at *; omega
      rw [this]; simp [h]
  unfold Format.read
  rw [binade_eq, weight_eq, rung_eq]
  simp only [hs]

theorem cmp_congr {p q p' q' : Int} (h1 : p < q ↔ p' < q') (h2 : q < p ↔ q' < p') : compare p q = compare p' q' := by
  rcases Int.lt_trichotomy p q with h | h | h
  · rw [Int.compare_eq_lt.2 h, Int.compare_eq_lt.2 (h1.1 h)]
  · have : p' = q' := by omega
    rw [Int.compare_eq_eq.2 h, Int.compare_eq_eq.2 this]
  · rw [Int.compare_eq_gt.2 h, Int.compare_eq_gt.2 (h2.1 h)]

/-- A finite word is a number whose size is that of its rung. -/
theorem read_fin {x : Nat} (hx : x < 2 * W) (h : x % W < R) : ∃ m k, double.read x = .number (decide (W ≤ x)) m (double.leastPlace + (k : Nat)) ∧ m * 2 ^ k = val (x % W) := by
  rw [read_eq x hx]
  by_cases h1 : x % W < B
  · refine ⟨x % W, 0, ?_, ?_⟩
    · rw [if_pos h1]; simp
    · unfold val; rw [if_pos h1]; simp
  · refine ⟨B + x % W % B, x % W / B - 1, ?_, ?_⟩
    · rw [if_neg h1, if_pos h]
    · unfold val; rw [if_neg h1]

theorem signed_eq (s : Bool) (m u : Nat) : signed s m u = if s then -((m * 2 ^ u : Nat) : Int) else ((m * 2 ^ u : Nat) : Int) := by
  unfold signed
  rw [Nat.shiftLeft_eq]

theorem key_eq (x : Nat) (hx : x < 2 * W) : key x = if decide (W ≤ x) = true then -((x % W : Nat) : Int) else ((x % W : Nat) : Int) := by
  unfold key
  by_cases h : W ≤ x
  · rw [if_neg (by omega), if_pos (by simpa using h)]
    have : x % W = x - W := by simp only [W] at *; omega
    rw [this]
  · rw [if_pos (by omega), if_neg (by simpa using h)]
    have : x % W = x := Nat.mod_eq_of_lt (by omega)
    rw [this]

/-- Two sizes, each with its sign. -/
theorem sgn_cmp {a b A C : Nat} (s t : Bool) (h1 : A < C ↔ a < b) (h2 : C < A ↔ b < a) (h3 : A = 0 ↔ a = 0) (h4 : C = 0 ↔ b = 0) :
    compare (if s = true then -(A : Int) else (A : Int)) (if t = true then -(C : Int) else (C : Int)) = compare (if s = true then -(a : Int) else (a : Int)) (if t = true then -(b : Int) else (b : Int)) := by
  cases s <;> cases t <;> simp only [if_true, Bool.false_eq_true, if_false] <;> exact cmp_congr (by omega) (by omega)

theorem val_zero {a : Nat} : val a = 0 ↔ a = 0 := by
  have h0 : val 0 = 0 := by decide
  constructor
  · intro h
    rcases Nat.eq_zero_or_pos a with h1 | h1
    · exact h1
    · have := val_lt h1; omega
  · rintro rfl; exact h0

/-- How two words stand to each other, by their bits. -/
theorem order_eq (x y : Nat) (hx : x < 2 * W) (hy : y < 2 * W) : double.order x y = if nan x = true ∨ nan y = true then none else some (compare (key x) (key y)) := by
  unfold Format.order
  have nx : ∀ z, nan z = true ↔ R < z % W := fun z => by unfold nan; simp
  simp only [nx]
  rw [key_eq x hx, key_eq y hy]
  have rd3 : ∀ z, z < 2 * W → z % W = R → double.read z = .infinity (decide (W ≤ z)) := fun z hz h => by
    rw [read_eq z hz, if_neg (by rw [h]; decide), if_neg (by omega), if_pos h]
  have rd4 : ∀ z, z < 2 * W → R < z % W → double.read z = .nan (decide (W ≤ z)) (z % W - R) := fun z hz h => by
    have : B ≤ R := by decide
    rw [read_eq z hz, if_neg (by omega), if_neg (by omega), if_neg (by omega)]
  by_cases ax : R < x % W
  · rw [if_pos (.inl ax), rd4 x hx ax]
    rfl
  · by_cases ay : R < y % W
    · rw [if_pos (.inr ay), rd4 y hy ay]
      cases double.read x <;> rfl
    · rw [if_neg (by omega)]
      generalize hs : decide (W ≤ x) = s
      generalize ht : decide (W ≤ y) = t
      by_cases bx : x % W = R
      · rw [rd3 x hx bx, hs]
        by_cases bY : y % W = R
        · rw [rd3 y hy bY, ht, bx, bY]
          cases s <;> cases t <;> rfl
        · obtain ⟨n, j, e, _⟩ := read_fin hy (by omega)
          rw [e, ht, bx]
          have hlt : y % W < R := by omega
          cases s with
          | true =>
            show some (if true = true then Ordering.lt else Ordering.gt) = _
            rw [if_pos rfl, if_pos rfl, Int.compare_eq_lt.2 (by cases t <;> simp <;> omega)]
          | false =>
            show some (if false = true then Ordering.lt else Ordering.gt) = _
            rw [if_neg (by simp), if_neg (by simp), Int.compare_eq_gt.2 (by cases t <;> simp <;> omega)]
      · obtain ⟨m, k, e, hv⟩ := read_fin hx (by omega)
        rw [e, hs]
        have hlx : x % W < R := by omega
        by_cases bY : y % W = R
        · rw [rd3 y hy bY, ht, bY]
          cases t with
          | true =>
            show some (if true = true then Ordering.gt else Ordering.lt) = _
            rw [if_pos rfl, if_pos rfl, Int.compare_eq_gt.2 (by cases s <;> simp <;> omega)]
          | false =>
            show some (if false = true then Ordering.gt else Ordering.lt) = _
            simp only [Bool.false_eq_true, if_false]
            rw [Int.compare_eq_lt.2 (by cases s <;> simp <;> omega)]
        · obtain ⟨n, j, e2, hv2⟩ := read_fin hy (by omega)
          rw [e2, ht]
          show some (compare (signed s m (double.leastPlace + (k : Nat) - min (double.leastPlace + (k : Nat)) (double.leastPlace + (j : Nat))).toNat) (signed t n (double.leastPlace + (j : Nat) - min (double.leastPlace + (k : Nat)) (double.leastPlace + (j : Nat))).toNat)) = _
          obtain ⟨q, hq⟩ : ∃ q, q = min k j := ⟨_, rfl⟩
          rw [show (double.leastPlace + (k : Nat) - min (double.leastPlace + (k : Nat)) (double.leastPlace + (j : Nat))).toNat = k - q from by omega, show (double.leastPlace + (j : Nat) - min (double.leastPlace + (k : Nat)) (double.leastPlace + (j : Nat))).toNat = j - q from by omega, signed_eq, signed_eq]
          have e3 : m * 2 ^ (k - q) * 2 ^ q = val (x % W) := by rw [Nat.mul_assoc, ← Nat.pow_add, Nat.sub_add_cancel (by omega)]; exact hv
          have e4 : n * 2 ^ (j - q) * 2 ^ q = val (y % W) := by rw [Nat.mul_assoc, ← Nat.pow_add, Nat.sub_add_cancel (by omega)]; exact hv2
          have hp := Nat.two_pow_pos q
          congr 1
          refine sgn_cmp s t ?_ ?_ ?_ ?_
          · rw [← val_lt_iff (a := x % W), ← e3, ← e4]; exact (Nat.mul_lt_mul_right hp).symm
          · rw [← val_lt_iff (a := y % W), ← e3, ← e4]; exact (Nat.mul_lt_mul_right hp).symm
          · rw [← val_zero (a := x % W), ← e3]; exact ⟨fun h => by rw [h, Nat.zero_mul], fun h => (Nat.mul_eq_zero.1 h).resolve_right (by omega)⟩
          · rw [← val_zero (a := y % W), ← e4]; exact ⟨fun h => by rw [h, Nat.zero_mul], fun h => (Nat.mul_eq_zero.1 h).resolve_right (by omega)⟩

end Go.Proofs.YtokpphhmmcoeaaaGreatDoor.Flt


/-
  The document's own answers for layer 4 (deckleref04): the order of cells.
-/
namespace Go.Proofs.YtokpphhmmcoeaaaGreatDoor
open Go.RowKit

theorem from_bits (x : Nat) (w : World) : (callFunc 118 #[.int .u64 (x : Int)]).run Tryz.prog w = .ok (.value (.float .f64 x)) w := by
  have := run_callFunc_extern (P := Tryz.prog) (f := 118) (e := Extern.MathFloatBits.float64frombits) Tryz.func118 (by kernel_rfl) (by kernel_rfl) (by kernel_rfl) (by kernel_rfl) #[.int .u64 (x : Int)] w
  rw [this]
  rfl

theorem nan_ne (x : Nat) (hx : x < 18446744073709551616) : (FloatKind.f64.format.order x x != some Ordering.eq) = Flt.nan x := by
  have h := Flt.order_eq x x (by simpa [Flt.W] using hx) (by simpa [Flt.W] using hx)
  have e : FloatKind.f64.format.order x x = Ieee.double.order x x := rfl
  rw [e, h]
  cases hn : Flt.nan x with
  | true => simp
  | false => simp

theorem math_IsNaN (x : Nat) (hx : x < 18446744073709551616) (w : World) :
    Calls Tryz.prog 126 #[.float .f64 x] w fun e w' => e = .returned (.bool (Flt.nan x)) ∧ w = w' := by
  go_enter Tryz.func126, Tryz.ntmps126
  have hf := nan_ne x hx
  go_wp2
  go_ret
  exact ⟨rfl, rfl⟩

/-- Where a float stands: 0 no number with a sign, 1 a number, 2 no number without one. -/
def placeC (x : Nat) : Nat := if Flt.nan x = true then (if 9223372036854775808 ≤ x then 0 else 2) else 1

set_option maxRecDepth 1000000 in
theorem ref_place (x : Nat) (hx : x < 18446744073709551616) (w : World) :
    Calls Tryz.prog 117 #[.int .u64 (x : Int)] w fun e w' => e = .returned (.int .i64 (placeC x : Nat)) ∧ w = w' := by
  have hfb := from_bits x
  cases hn : Flt.nan x with
  | true =>
    by_cases hW : 9223372036854775808 ≤ x
    · rw [show placeC x = 0 from by unfold placeC; rw [if_pos hn, if_pos hW]]
      have hd : decide ((9223372036854775808 : Int) ≤ (x : Int)) = true := decide_eq_true (by omega)
      go_enter Tryz.func117, Tryz.ntmps117
      go_wp2_with fail
      refine (math_IsNaN x hx _).mono ?_
      rintro e w1 ⟨rfl, rfl⟩
      rw [hn]
      go_wp2
      go_ret
      exact ⟨rfl, rfl⟩
    · rw [show placeC x = 2 from by unfold placeC; rw [if_pos hn, if_neg hW]]
      have hd : decide ((9223372036854775808 : Int) ≤ (x : Int)) = false := decide_eq_false (by omega)
      go_enter Tryz.func117, Tryz.ntmps117
      go_wp2_with fail
      refine (math_IsNaN x hx _).mono ?_
      rintro e w1 ⟨rfl, rfl⟩
      rw [hn]
      go_wp2
      go_ret
      exact ⟨rfl, rfl⟩
  | false =>
    rw [show placeC x = 1 from by unfold placeC; rw [if_neg (by simp [hn])]]
    go_enter Tryz.func117, Tryz.ntmps117
    go_wp2_with fail
    refine (math_IsNaN x hx _).mono ?_
    rintro e w1 ⟨rfl, rfl⟩
    rw [hn]
    go_wp2
    go_ret
    exact ⟨rfl, rfl⟩

/-- A float's place in the order, as a number. -/
def tkey (x : Nat) : Int := if x < 9223372036854775808 then (x : Int) else 9223372036854775807 - (x : Int)

/-- Is one cell ahead of another one? -/
def aheadC (kind : Int) (x : Nat) (l : List UInt8) (y : Nat) (m : List UInt8) : Bool :=
  if kind = 0 then decide (wrap64 (x : Int) < wrap64 (y : Int)) else if kind = 3 ∨ kind = 4 then Op.bytesLess l m else if kind = 5 then decide (tkey x < tkey y) else decide (x < y)

theorem nan_iff (x : Nat) : Flt.nan x = true ↔ 9218868437227405312 < x % 9223372036854775808 := by
  unfold Flt.nan
  rw [decide_eq_true_iff]
  rfl
theorem placeC_cases {x p : Nat} (h : placeC x = p) : (p = 0 ∧ 9218868437227405312 < x % 9223372036854775808 ∧ 9223372036854775808 ≤ x) ∨ (p = 2 ∧ 9218868437227405312 < x % 9223372036854775808 ∧ ¬ 9223372036854775808 ≤ x) ∨ (p = 1 ∧ ¬ 9218868437227405312 < x % 9223372036854775808) := by
  unfold placeC at h
  by_cases h1 : Flt.nan x = true
  · rw [if_pos h1] at h
    have h2 := (nan_iff x).1 h1
    by_cases h3 : 9223372036854775808 ≤ x
    · rw [if_pos h3] at h; exact .inl ⟨h.symm, h2, h3⟩
    · rw [if_neg h3] at h; exact .inr (.inl ⟨h.symm, h2, h3⟩)
  · rw [if_neg h1] at h
    exact .inr (.inr ⟨h.symm, fun h2 => h1 ((nan_iff x).2 h2)⟩)

/-- Floats that are of two places. -/
theorem tkey_place {x y p q : Nat} (hx : x < 18446744073709551616) (hy : y < 18446744073709551616) (hp : placeC x = p) (hq : placeC y = q) (h : p ≠ q) : decide (tkey x < tkey y) = decide (p < q) := by
  have h1 := placeC_cases hp
  have h2 := placeC_cases hq
  rw [decide_eq_decide]
  unfold tkey
  split <;> split <;> omega
theorem tkey_0 {x y : Nat} (hx : x < 18446744073709551616) (hy : y < 18446744073709551616) (hp : placeC x = 0) (hq : placeC y = 0) : decide (tkey x < tkey y) = decide (x > y) := by
  have h1 := placeC_cases hp
  have h2 := placeC_cases hq
  rw [decide_eq_decide]
  unfold tkey
  split <;> split <;> omega
theorem tkey_2 {x y : Nat} (hx : x < 18446744073709551616) (hy : y < 18446744073709551616) (hp : placeC x = 2) (hq : placeC y = 2) : decide (tkey x < tkey y) = decide (x < y) := by
  have h1 := placeC_cases hp
  have h2 := placeC_cases hq
  rw [decide_eq_decide]
  unfold tkey
  split <;> split <;> omega
theorem place_num {x : Nat} (hp : placeC x = 1) : Flt.nan x = false := by
  have h1 := placeC_cases hp
  cases h : Flt.nan x with
  | false => rfl
  | true => have := (nan_iff x).1 h; omega
theorem key_lo {x : Nat} (h : x < 9223372036854775808) : Flt.key x = x := if_pos h
theorem key_hi {x : Nat} (h : ¬ x < 9223372036854775808) : Flt.key x = -((x - 9223372036854775808 : Nat) : Int) := if_neg h
theorem tkey_lo {x : Nat} (h : x < 9223372036854775808) : tkey x = x := if_pos h
theorem tkey_hi {x : Nat} (h : ¬ x < 9223372036854775808) : tkey x = 9223372036854775807 - (x : Int) := if_neg h
/-- Numbers: as they are, and the zeros by their bits. -/
theorem tkey_zero {x y : Nat} (h1 : Flt.key x = 0) (h2 : Flt.key y = 0) : decide (tkey x < tkey y) = decide (x > y) := by
  rw [decide_eq_decide]
  by_cases a : x < 9223372036854775808
  · rw [key_lo a] at h1
    rw [tkey_lo a]
    by_cases b : y < 9223372036854775808
    · rw [key_lo b] at h2; rw [tkey_lo b]; omega
    · rw [key_hi b] at h2; rw [tkey_hi b]; omega
  · rw [key_hi a] at h1
    rw [tkey_hi a]
    by_cases b : y < 9223372036854775808
    · rw [key_lo b] at h2; rw [tkey_lo b]; omega
    · rw [key_hi b] at h2; rw [tkey_hi b]; omega
theorem tkey_num {x y : Nat} (h : ¬ (Flt.key x = 0 ∧ Flt.key y = 0)) : decide (tkey x < tkey y) = decide (Flt.key x < Flt.key y) := by
  rw [decide_eq_decide]
  by_cases a : x < 9223372036854775808
  · rw [key_lo a] at h ⊢
    rw [tkey_lo a]
    by_cases b : y < 9223372036854775808
    · rw [key_lo b] at h ⊢; rw [tkey_lo b]
    · rw [key_hi b] at h ⊢; rw [tkey_hi b]; omega
  · rw [key_hi a] at h ⊢
    rw [tkey_hi a]
    by_cases b : y < 9223372036854775808
    · rw [key_lo b] at h ⊢; rw [tkey_lo b]; omega
    · rw [key_hi b] at h ⊢; rw [tkey_hi b]; omega
theorem ford {x y : Nat} (hx : x < 18446744073709551616) (hy : y < 18446744073709551616) (h1 : Flt.nan x = false) (h2 : Flt.nan y = false) : FloatKind.f64.format.order x y = some (compare (Flt.key x) (Flt.key y)) := by
  have e : FloatKind.f64.format.order x y = Ieee.double.order x y := rfl
  rw [e, Flt.order_eq x y (by simpa [Flt.W] using hx) (by simpa [Flt.W] using hy), if_neg (by simp [h1, h2])]
theorem key_zero : Flt.key 0 = 0 := by decide
theorem ford_eq0 {x : Nat} (hx : x < 18446744073709551616) (h1 : Flt.nan x = false) : (FloatKind.f64.format.order x 0 == some Ordering.eq) = decide (Flt.key x = 0) := by
  rw [ford hx (by decide) h1 (by decide), key_zero]
  by_cases h : Flt.key x = 0
  · rw [Int.compare_eq_eq.2 h, decide_eq_true h]; rfl
  · rw [decide_eq_false h]
    rcases Int.lt_trichotomy (Flt.key x) 0 with h2 | h2 | h2
    · rw [Int.compare_eq_lt.2 h2]; rfl
    · exact absurd h2 h
    · rw [Int.compare_eq_gt.2 h2]; rfl
theorem ford_lt {x y : Nat} (hx : x < 18446744073709551616) (hy : y < 18446744073709551616) (h1 : Flt.nan x = false) (h2 : Flt.nan y = false) : (FloatKind.f64.format.order x y == some Ordering.lt) = decide (Flt.key x < Flt.key y) := by
  rw [ford hx hy h1 h2]
  rcases Int.lt_trichotomy (Flt.key x) (Flt.key y) with h | h | h
  · rw [Int.compare_eq_lt.2 h, decide_eq_true h]; rfl
  · rw [Int.compare_eq_eq.2 h, decide_eq_false (by omega)]; rfl
  · rw [Int.compare_eq_gt.2 h, decide_eq_false (by omega)]; rfl

set_option maxHeartbeats 2000000 in
set_option maxRecDepth 1000000 in
theorem ref_ahead0 (x y : Nat) (hx : x < 18446744073709551616) (hy : y < 18446744073709551616) (s t : ByteArray) (l m : List UInt8) (w : World) (hs : RdS s l) (ht : RdS t m) :
    Calls Tryz.prog 100 #[.int .i64 0, cellV x s, cellV y t] w fun e w' => e = .returned (.bool (decide (wrap64 (x : Int) < wrap64 (y : Int)))) ∧ Below w.heap.size w w' := by
  have hsl := hs.toList
  have htl := ht.toList
  have hbl : Below w.heap.size w ((w.alloc (.cells #[.int .u64 (x : Int), .string s] 71)).alloc (.cells #[.int .u64 (y : Int), .string t] 71)) := ((Below.refl _ w).alloc (Nat.le_refl _) _).alloc (by simp) _
  have HB := Lib.hid hbl
  clear hs ht hbl
  unfold cellV
  go_enter Tryz.func100, Tryz.ntmps100
  go_wp2
  go_ret
  exact ⟨rfl, HB.out⟩

set_option maxHeartbeats 2000000 in
set_option maxRecDepth 1000000 in
theorem ref_ahead1 (x y : Nat) (hx : x < 18446744073709551616) (hy : y < 18446744073709551616) (s t : ByteArray) (l m : List UInt8) (w : World) (hs : RdS s l) (ht : RdS t m) :
    Calls Tryz.prog 100 #[.int .i64 1, cellV x s, cellV y t] w fun e w' => e = .returned (.bool (decide (x < y))) ∧ Below w.heap.size w w' := by
  have hsl := hs.toList
  have htl := ht.toList
  have hbl : Below w.heap.size w ((w.alloc (.cells #[.int .u64 (x : Int), .string s] 71)).alloc (.cells #[.int .u64 (y : Int), .string t] 71)) := ((Below.refl _ w).alloc (Nat.le_refl _) _).alloc (by simp) _
  have HB := Lib.hid hbl
  clear hs ht hbl
  unfold cellV
  go_enter Tryz.func100, Tryz.ntmps100
  go_wp2
  go_ret
  exact ⟨rfl, HB.out⟩

set_option maxHeartbeats 2000000 in
set_option maxRecDepth 1000000 in
theorem ref_ahead2 (x y : Nat) (hx : x < 18446744073709551616) (hy : y < 18446744073709551616) (s t : ByteArray) (l m : List UInt8) (w : World) (hs : RdS s l) (ht : RdS t m) :
    Calls Tryz.prog 100 #[.int .i64 2, cellV x s, cellV y t] w fun e w' => e = .returned (.bool (decide (x < y))) ∧ Below w.heap.size w w' := by
  have hsl := hs.toList
  have htl := ht.toList
  have hbl : Below w.heap.size w ((w.alloc (.cells #[.int .u64 (x : Int), .string s] 71)).alloc (.cells #[.int .u64 (y : Int), .string t] 71)) := ((Below.refl _ w).alloc (Nat.le_refl _) _).alloc (by simp) _
  have HB := Lib.hid hbl
  clear hs ht hbl
  unfold cellV
  go_enter Tryz.func100, Tryz.ntmps100
  go_wp2
  go_ret
  exact ⟨rfl, HB.out⟩

set_option maxHeartbeats 2000000 in
set_option maxRecDepth 1000000 in
theorem ref_ahead3 (x y : Nat) (hx : x < 18446744073709551616) (hy : y < 18446744073709551616) (s t : ByteArray) (l m : List UInt8) (w : World) (hs : RdS s l) (ht : RdS t m) :
    Calls Tryz.prog 100 #[.int .i64 3, cellV x s, cellV y t] w fun e w' => e = .returned (.bool (Op.bytesLess l m)) ∧ Below w.heap.size w w' := by
  have hsl := hs.toList
  have htl := ht.toList
  have hbl : Below w.heap.size w ((w.alloc (.cells #[.int .u64 (x : Int), .string s] 71)).alloc (.cells #[.int .u64 (y : Int), .string t] 71)) := ((Below.refl _ w).alloc (Nat.le_refl _) _).alloc (by simp) _
  have HB := Lib.hid hbl
  clear hs ht hbl
  unfold cellV
  go_enter Tryz.func100, Tryz.ntmps100
  go_wp2
  go_ret
  exact ⟨rfl, HB.out⟩

set_option maxHeartbeats 2000000 in
set_option maxRecDepth 1000000 in
theorem ref_ahead4 (x y : Nat) (hx : x < 18446744073709551616) (hy : y < 18446744073709551616) (s t : ByteArray) (l m : List UInt8) (w : World) (hs : RdS s l) (ht : RdS t m) :
    Calls Tryz.prog 100 #[.int .i64 4, cellV x s, cellV y t] w fun e w' => e = .returned (.bool (Op.bytesLess l m)) ∧ Below w.heap.size w w' := by
  have hsl := hs.toList
  have htl := ht.toList
  have hbl : Below w.heap.size w ((w.alloc (.cells #[.int .u64 (x : Int), .string s] 71)).alloc (.cells #[.int .u64 (y : Int), .string t] 71)) := ((Below.refl _ w).alloc (Nat.le_refl _) _).alloc (by simp) _
  have HB := Lib.hid hbl
  clear hs ht hbl
  unfold cellV
  go_enter Tryz.func100, Tryz.ntmps100
  go_wp2
  go_ret
  exact ⟨rfl, HB.out⟩

set_option maxHeartbeats 2000000 in
set_option maxRecDepth 1000000 in
theorem ref_ahead5 (x y : Nat) (hx : x < 18446744073709551616) (hy : y < 18446744073709551616) (s t : ByteArray) (l m : List UInt8) (w : World) (hs : RdS s l) (ht : RdS t m) :
    Calls Tryz.prog 100 #[.int .i64 5, cellV x s, cellV y t] w fun e w' => e = .returned (.bool (decide (tkey x < tkey y))) ∧ Below w.heap.size w w' := by
  have hsl := hs.toList
  have htl := ht.toList
  have hbl : Below w.heap.size w ((w.alloc (.cells #[.int .u64 (x : Int), .string s] 71)).alloc (.cells #[.int .u64 (y : Int), .string t] 71)) := ((Below.refl _ w).alloc (Nat.le_refl _) _).alloc (by simp) _
  have HB := Lib.hid hbl
  clear hs ht hbl
  unfold cellV
  have hfx := from_bits x
  have hfy := from_bits y
  obtain ⟨p, hp⟩ : ∃ p, placeC x = p := ⟨_, rfl⟩
  obtain ⟨q, hq⟩ : ∃ q, placeC y = q := ⟨_, rfl⟩
  have HPp := Lib.hid hp
  have HQq := Lib.hid hq
  by_cases hpq : p = q
  · subst hpq
    obtain rfl | rfl | rfl : p = 0 ∨ p = 2 ∨ p = 1 := by have := placeC_cases hp; omega
    · rw [tkey_0 hx hy hp hq]
      clear hp hq
      go_enter Tryz.func100, Tryz.ntmps100
      go_wp2_with fail
      refine (ref_place x hx _).mono ?_
      rintro e w1 ⟨rfl, rfl⟩
      rw [HPp.out]
      go_wp2_with fail
      refine (ref_place y hy _).mono ?_
      rintro e w1 ⟨rfl, rfl⟩
      rw [HQq.out]
      go_wp2
      go_ret
      exact ⟨rfl, HB.out⟩
    · rw [tkey_2 hx hy hp hq]
      clear hp hq
      go_enter Tryz.func100, Tryz.ntmps100
      go_wp2_with fail
      refine (ref_place x hx _).mono ?_
      rintro e w1 ⟨rfl, rfl⟩
      rw [HPp.out]
      go_wp2_with fail
      refine (ref_place y hy _).mono ?_
      rintro e w1 ⟨rfl, rfl⟩
      rw [HQq.out]
      go_wp2
      go_ret
      exact ⟨rfl, HB.out⟩
    · have nx := place_num hp
      have ny := place_num hq
      have fx := ford_eq0 hx nx
      have fy := ford_eq0 hy ny
      have fl := ford_lt hx hy nx ny
      clear hp hq nx ny
      by_cases zx : Flt.key x = 0
      · rw [decide_eq_true zx] at fx
        by_cases zy : Flt.key y = 0
        · rw [decide_eq_true zy] at fy
          rw [tkey_zero zx zy]
          clear fl zx zy
          go_enter Tryz.func100, Tryz.ntmps100
          go_wp2_with fail
          refine (ref_place x hx _).mono ?_
          rintro e w1 ⟨rfl, rfl⟩
          rw [HPp.out]
          go_wp2_with fail
          refine (ref_place y hy _).mono ?_
          rintro e w1 ⟨rfl, rfl⟩
          rw [HQq.out]
          go_wp2
          go_ret
          exact ⟨rfl, HB.out⟩
        · rw [decide_eq_false zy] at fy
          rw [tkey_num (fun h => zy h.2)]
          clear zx zy
          go_enter Tryz.func100, Tryz.ntmps100
          go_wp2_with fail
          refine (ref_place x hx _).mono ?_
          rintro e w1 ⟨rfl, rfl⟩
          rw [HPp.out]
          go_wp2_with fail
          refine (ref_place y hy _).mono ?_
          rintro e w1 ⟨rfl, rfl⟩
          rw [HQq.out]
          go_wp2
          go_ret
          exact ⟨rfl, HB.out⟩
      · rw [decide_eq_false zx] at fx
        rw [tkey_num (fun h => zx h.1)]
        clear zx fy
        go_enter Tryz.func100, Tryz.ntmps100
        go_wp2_with fail
        refine (ref_place x hx _).mono ?_
        rintro e w1 ⟨rfl, rfl⟩
        rw [HPp.out]
        go_wp2_with fail
        refine (ref_place y hy _).mono ?_
        rintro e w1 ⟨rfl, rfl⟩
        rw [HQq.out]
        go_wp2
        go_ret
        exact ⟨rfl, HB.out⟩
  · have hne : ((p : Int) != (q : Int)) = true := by simp; omega
    rw [tkey_place hx hy hp hq hpq]
    clear hp hq
    go_enter Tryz.func100, Tryz.ntmps100
    go_wp2_with fail
    refine (ref_place x hx _).mono ?_
    rintro e w1 ⟨rfl, rfl⟩
    rw [HPp.out]
    go_wp2_with fail
    refine (ref_place y hy _).mono ?_
    rintro e w1 ⟨rfl, rfl⟩
    rw [HQq.out]
    go_wp2
    go_ret
    exact ⟨rfl, HB.out⟩

end Go.Proofs.YtokpphhmmcoeaaaGreatDoor


/-
  The document's own answer for layer 4 (deckleref04): Compare.
-/
namespace Go.Proofs.YtokpphhmmcoeaaaGreatDoor
open Go.RowKit

theorem new_cellC {w : World} {t : TypeId} {c : Array Value} {i : Nat} {u : Value} {b : Nat} (h : w.heap[b]? = some (.cells c t (0, 0))) (hu : c[i]? = some u) : w.cell? ⟨b, i, none⟩ = some u := by rw [cell_of_row _ _ _ _ _ _ h, hu]

/-- Is one cell ahead of another one? -/
def aheadK (kind : Int) (x : Nat) (l : List UInt8) (y : Nat) (m : List UInt8) : Bool :=
  if kind = 0 then decide (wrap64 (x : Int) < wrap64 (y : Int)) else if kind = 3 ∨ kind = 4 then Op.bytesLess l m else if kind = 5 then decide (tkey x < tkey y) else decide (x < y)

theorem ref_ahead (kind : Int) (hk : 0 ≤ kind ∧ kind ≤ 5) (x y : Nat) (hx : x < 18446744073709551616) (hy : y < 18446744073709551616) (s t : ByteArray) (l m : List UInt8) (w : World) (hs : RdS s l) (ht : RdS t m) :
    Calls Tryz.prog 100 #[.int .i64 kind, cellV x s, cellV y t] w fun e w' => e = .returned (.bool (aheadK kind x l y m)) ∧ Below w.heap.size w w' := by
  obtain rfl | rfl | rfl | rfl | rfl | rfl : kind = 0 ∨ kind = 1 ∨ kind = 2 ∨ kind = 3 ∨ kind = 4 ∨ kind = 5 := by omega
  · rw [show aheadK 0 x l y m = decide (wrap64 (x : Int) < wrap64 (y : Int)) from by unfold aheadK; simp]; exact ref_ahead0 x y hx hy s t l m w hs ht
  · rw [show aheadK 1 x l y m = decide (x < y) from by unfold aheadK; simp]; exact ref_ahead1 x y hx hy s t l m w hs ht
  · rw [show aheadK 2 x l y m = decide (x < y) from by unfold aheadK; simp]; exact ref_ahead2 x y hx hy s t l m w hs ht
  · rw [show aheadK 3 x l y m = Op.bytesLess l m from by unfold aheadK; simp]; exact ref_ahead3 x y hx hy s t l m w hs ht
  · rw [show aheadK 4 x l y m = Op.bytesLess l m from by unfold aheadK; simp]; exact ref_ahead4 x y hx hy s t l m w hs ht
  · rw [show aheadK 5 x l y m = decide (tkey x < tkey y) from by unfold aheadK; simp]; exact ref_ahead5 x y hx hy s t l m w hs ht

theorem check_kind {kind : Int} {x : Nat} {l : List UInt8} (h : checkC kind x l = 0) : 0 ≤ kind ∧ kind ≤ 5 := by
  unfold checkC at h
  by_cases h1 : kind < 0 ∨ 5 < kind
  · rw [if_pos h1] at h; exact absurd h (by decide)
  · omega

/-- How two cells stand to each other. -/
def cmpC (kind : Int) (x : Nat) (l : List UInt8) (y : Nat) (m : List UInt8) : Int :=
  if checkC kind x l ≠ 0 ∨ checkC kind y m ≠ 0 then 0 else if aheadK kind x l y m = true then -1 else if aheadK kind y m x l = true then 1 else 0

set_option maxHeartbeats 1000000 in
set_option maxRecDepth 1000000 in
theorem ref_Compare (kind : Int) (hk : -9223372036854775808 ≤ kind ∧ kind ≤ 9223372036854775807) (x y : Nat) (hx : x < 18446744073709551616) (hy : y < 18446744073709551616) (s t : ByteArray) (l m : List UInt8) (w : World) (hs : RdS s l) (ht : RdS t m) :
    Calls Tryz.prog 72 #[.int .i64 kind, cellV x s, cellV y t] w fun e w' => e = .returned (.int .i64 (cmpC kind x l y m)) ∧ Below w.heap.size w w' := by
  obtain ⟨N0, N1, N2, N3⟩ := new2 w (.cells #[.int .u64 (x : Int), .string s] 71) (.cells #[.int .u64 (y : Int), .string t] 71)
  obtain ⟨w0, hw0⟩ : ∃ w0, w0 = (w.alloc (.cells #[.int .u64 (x : Int), .string s] 71)).alloc (.cells #[.int .u64 (y : Int), .string t] 71) := ⟨_, rfl⟩
  rw [← hw0] at N0 N1 N2 N3
  have HB := Lib.hid N3
  have hC := fun (w1 : World) => ref_Check kind x s l w1 hs hk hx
  have hD := fun (w1 : World) => ref_Check kind y t m w1 ht hk hy
  have hcv : ∀ n u, cellV n u = .agg #[.int .u64 (n : Int), .string u] := fun _ _ => rfl
  go_enter Tryz.func72, Tryz.ntmps72
  go_wp2_with fail
  rw [← hw0]
  clear hw0
  refine (hC w0).mono ?_
  rintro e w1 ⟨rfl, hb1⟩
  have s0 := (hb1.block _ (by omega)).trans N1
  have s1 := (hb1.block _ (by omega)).trans N2
  have a0 := new_cellC (i := 0) s0 rfl
  have a1 := new_cellC (i := 1) s0 rfl
  have b0 := new_cellC (i := 0) s1 rfl
  have b1 := new_cellC (i := 1) s1 rfl
  have HB1 := Lib.hid (HB.out.trans (hb1.mono (by omega)))
  have hs1 := hb1.size
  obtain ⟨cx, hcx⟩ : ∃ cx, cx = checkC kind x l := ⟨_, rfl⟩
  obtain ⟨cy, hcy⟩ : ∃ cy, cy = checkC kind y m := ⟨_, rfl⟩
  rw [← hcx]
  have HX := Lib.hid hcx
  have HY := Lib.hid hcy
  by_cases h1 : cx = 0
  · subst h1
    have HC0 := Lib.hid hcx.symm
    clear hcx hb1 N1 N2 N3
    go_wp2_with fail
    refine (hD w1).mono ?_
    rintro e w2 ⟨rfl, hb2⟩
    rw [← HY.out]
    have t0 := (hb2.block _ (by omega)).trans s0
    have t1 := (hb2.block _ (by omega)).trans s1
    have c0 := new_cellC (i := 0) t0 rfl
    have c1 := new_cellC (i := 1) t0 rfl
    have d0 := new_cellC (i := 0) t1 rfl
    have d1 := new_cellC (i := 1) t1 rfl
    have HB2 := Lib.hid (HB1.out.trans (hb2.mono HB1.out.size))
    have hs2 := hb2.size
    by_cases h2 : cy = 0
    · subst h2
      have hk6 := check_kind HC0.out
      clear hb2 s0 s1 a0 a1 b0 b1 hcy hC hD
      go_wp2_with fail
      refine (ref_ahead kind hk6 x y hx hy s t l m w2 hs ht).mono ?_
      rintro e w3 ⟨rfl, hb3⟩
      have u0 := (hb3.block _ (by omega)).trans t0
      have u1 := (hb3.block _ (by omega)).trans t1
      have e0 := new_cellC (i := 0) u0 rfl
      have e1 := new_cellC (i := 1) u0 rfl
      have f0 := new_cellC (i := 0) u1 rfl
      have f1 := new_cellC (i := 1) u1 rfl
      have HB3 := Lib.hid (HB2.out.trans (hb3.mono HB2.out.size))
      have hcm : cmpC kind x l y m = if aheadK kind x l y m = true then -1 else if aheadK kind y m x l = true then 1 else 0 := by
        unfold cmpC
        rw [if_neg (by rw [HC0.out, ← HY.out]; simp)]
      have HCM := Lib.hid hcm
      clear hcm
      cases hah : aheadK kind x l y m with
      | true =>
        clear hb3 t0 t1 c0 c1 d0 d1
        have HE := Lib.hid (show cmpC kind x l y m = -1 by rw [HCM.out, if_pos hah])
        clear hah
        go_wp2
        go_ret
        refine ⟨?_, HB3.out⟩
        rw [HE.out]
        rfl
      | false =>
        clear hb3 t0 t1 c0 c1 d0 d1
        go_wp2_with fail
        refine (ref_ahead kind hk6 y x hy hx t s m l w3 ht hs).mono ?_
        rintro e w4 ⟨rfl, hb4⟩
        have HB4 := Lib.hid (HB3.out.trans (hb4.mono HB3.out.size))
        clear hb4
        cases hbh : aheadK kind y m x l with
        | true =>
          have HE := Lib.hid (show cmpC kind x l y m = 1 by rw [HCM.out, if_neg (by simp [hah]), if_pos hbh])
          clear hah hbh
          go_wp2
          go_ret
          refine ⟨?_, HB4.out⟩
          rw [HE.out]
          rfl
        | false =>
          have HE := Lib.hid (show cmpC kind x l y m = 0 by rw [HCM.out, if_neg (by simp [hah]), if_neg (by simp [hbh])])
          clear hah hbh
          go_wp2
          go_ret
          refine ⟨?_, HB4.out⟩
          rw [HE.out]
          rfl
    · have hne : ((cy : Int) != 0) = true := by simp; omega
      have HE := Lib.hid (show cmpC kind x l y m = 0 from by unfold cmpC; rw [if_pos (.inr (by rw [← HY.out]; exact h2))])
      clear hb2 s0 s1 a0 a1 b0 b1 hcy hC hD t0 t1
      go_wp2
      go_ret
      refine ⟨?_, HB2.out⟩
      rw [HE.out]
      rfl
  · have hne : ((cx : Int) != 0) = true := by simp; omega
    have HE := Lib.hid (show cmpC kind x l y m = 0 from by unfold cmpC; rw [if_pos (.inl (by rw [← HX.out]; exact h1))])
    clear hcx hcy hb1 N1 N2 N3 hC hD s0 s1
    go_wp2
    go_ret
    refine ⟨?_, HB1.out⟩
    rw [HE.out]
    rfl

end Go.Proofs.YtokpphhmmcoeaaaGreatDoor


/-
  Package cell: what hangs on no function of the library: Float, Number, Int, Signed, the kinds, a float's rank, how two numbers stand.
-/
namespace Go.Proofs.YtokpphhmmcoeaaaGreatDoor
open Go.RowKit

theorem cell_isKind (kind : Int) (w : World) :
    Calls Tryz.prog 109 #[.int .i64 kind] w fun e w' => e = .returned (.bool (decide (0 ≤ kind ∧ kind ≤ 5))) ∧ w' = w := by
  by_cases h0 : kind ≥ 0
  · have hd : decide (kind ≥ 0) = true := decide_eq_true h0
    by_cases h6 : kind < 6
    · have hd2 : decide (kind < 6) = true := decide_eq_true h6
      rw [show decide (0 ≤ kind ∧ kind ≤ 5) = true from decide_eq_true (by omega)]
      go_enter Tryz.func109, Tryz.ntmps109
      go_wp2
      go_ret
      exact ⟨rfl, rfl⟩
    · have hd2 : decide (kind < 6) = false := decide_eq_false h6
      rw [show decide (0 ≤ kind ∧ kind ≤ 5) = false from decide_eq_false (by omega)]
      go_enter Tryz.func109, Tryz.ntmps109
      go_wp2
      go_ret
      exact ⟨rfl, rfl⟩
  · have hd : decide (kind ≥ 0) = false := decide_eq_false h0
    rw [show decide (0 ≤ kind ∧ kind ≤ 5) = false from decide_eq_false (by omega)]
    go_enter Tryz.func109, Tryz.ntmps109
    go_wp2
    go_ret
    exact ⟨rfl, rfl⟩

theorem not64 (x : Nat) (hx : x < 18446744073709551616) : bits .xor .u64 IntKind.u64.max (x : Int) = 18446744073709551615 - (x : Int) := by
  have h := u64_xor_nat 18446744073709551615 x (by omega) hx
  rw [show IntKind.u64.max = ((18446744073709551615 : Nat) : Int) from rfl, h]
  have e : 18446744073709551615 ^^^ x = 18446744073709551615 - x := by
    have h1 : (~~~ (BitVec.ofNat 64 x)).toNat = 2 ^ 64 - 1 - (BitVec.ofNat 64 x).toNat := BitVec.toNat_not
    rw [BitVec.not_def, BitVec.toNat_xor, BitVec.toNat_allOnes, BitVec.toNat_ofNat, Nat.mod_eq_of_lt (by omega)] at h1
    simpa using h1
  rw [e]
  omega

/-- A float's rank. -/
theorem cell_rank (x : Nat) (hx : x < 18446744073709551616) (w : World) :
    Calls Tryz.prog 94 #[.int .u64 (x : Int)] w fun e w' => e = .returned (.int .u64 (tkey x + 9223372036854775808)) ∧ w' = w := by
  by_cases h : x < 9223372036854775808
  · have hd : decide ((x : Int) ≥ 9223372036854775808) = false := decide_eq_false (by omega)
    rw [tkey_lo h]
    go_enter Tryz.func94, Tryz.ntmps94
    go_wp2
    go_ret
    refine ⟨?_, rfl⟩
    simp
  · have hd : decide ((x : Int) ≥ 9223372036854775808) = true := decide_eq_true (by omega)
    rw [tkey_hi h]
    have hn := not64 x hx
    go_enter Tryz.func94, Tryz.ntmps94
    go_wp2
    go_ret
    refine ⟨?_, rfl⟩
    simp
    omega

/-- How two numbers stand. -/
def ordZ (a b : Int) : Int := if a < b then -1 else if b < a then 1 else 0

theorem cmp_i64 (a b : Int) (w : World) :
    Calls Tryz.prog 91 #[.int .i64 a, .int .i64 b] w fun e w' => e = .returned (.int .i64 (ordZ a b)) ∧ w' = w := by
  rcases Int.lt_trichotomy a b with h | h | h
  · have hd : decide (a < b) = true := decide_eq_true h
    rw [show ordZ a b = -1 from if_pos h]
    go_enter Tryz.func91, Tryz.ntmps91
    go_wp2
    go_ret
    exact ⟨rfl, rfl⟩
  · subst h
    have hd : decide (a < a) = false := decide_eq_false (by omega)
    have hd2 : decide (a > a) = false := decide_eq_false (by omega)
    rw [show ordZ a a = 0 from by unfold ordZ; rw [if_neg (by omega), if_neg (by omega)]]
    go_enter Tryz.func91, Tryz.ntmps91
    go_wp2
    go_ret
    exact ⟨rfl, rfl⟩
  · have hd : decide (a < b) = false := decide_eq_false (by omega)
    have hd2 : decide (a > b) = true := decide_eq_true h
    rw [show ordZ a b = 1 from by unfold ordZ; rw [if_neg (by omega), if_pos h]]
    go_enter Tryz.func91, Tryz.ntmps91
    go_wp2
    go_ret
    exact ⟨rfl, rfl⟩

theorem cmp_u64 (a b : Int) (w : World) :
    Calls Tryz.prog 93 #[.int .u64 a, .int .u64 b] w fun e w' => e = .returned (.int .i64 (ordZ a b)) ∧ w' = w := by
  rcases Int.lt_trichotomy a b with h | h | h
  · have hd : decide (a < b) = true := decide_eq_true h
    rw [show ordZ a b = -1 from if_pos h]
    go_enter Tryz.func93, Tryz.ntmps93
    go_wp2
    go_ret
    exact ⟨rfl, rfl⟩
  · subst h
    have hd : decide (a < a) = false := decide_eq_false (by omega)
    have hd2 : decide (a > a) = false := decide_eq_false (by omega)
    rw [show ordZ a a = 0 from by unfold ordZ; rw [if_neg (by omega), if_neg (by omega)]]
    go_enter Tryz.func93, Tryz.ntmps93
    go_wp2
    go_ret
    exact ⟨rfl, rfl⟩
  · have hd : decide (a < b) = false := decide_eq_false (by omega)
    have hd2 : decide (a > b) = true := decide_eq_true h
    rw [show ordZ a b = 1 from by unfold ordZ; rw [if_neg (by omega), if_pos h]]
    go_enter Tryz.func93, Tryz.ntmps93
    go_wp2
    go_ret
    exact ⟨rfl, rfl⟩

theorem cell_Signed (x : Nat) (hx : x < 18446744073709551616) (s : ByteArray) (w : World) :
    Calls Tryz.prog 92 #[cellV x s] w fun e w' => e = .returned (.int .i64 (wrap64 (x : Int))) ∧ Below w.heap.size w w' := by
  unfold cellV
  go_enter Tryz.func92, Tryz.ntmps92
  go_wp2
  go_ret
  exact ⟨rfl, (Below.refl _ _).alloc (Nat.le_refl _) _⟩

end Go.Proofs.YtokpphhmmcoeaaaGreatDoor

