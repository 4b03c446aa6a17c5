/-
  The plain mathematics of layer 1: the bytes of a number, and what they are read as. No program.
-/
import Derived.Test.YtgikcbljkkmkgaaBytes
set_option linter.unusedVariables false
set_option linter.unusedSimpArgs false
set_option maxRecDepth 1000000
namespace Go.Proofs.Ytgikcbljkkmkgaa

/-- A number's bytes: seven bits each, the lowest first. -/
def encU (x : Nat) : List UInt8 :=
  if x < 128 then [UInt8.ofNat x] else UInt8.ofNat (128 + x % 128) :: encU (x / 128)
termination_by x
decreasing_by omega

theorem encU_lt {x : Nat} (h : x < 128) : encU x = [UInt8.ofNat x] := by rw [encU, if_pos h]
theorem encU_ge {x : Nat} (h : ¬ x < 128) : encU x = UInt8.ofNat (128 + x % 128) :: encU (x / 128) := by rw [encU, if_neg h]

theorem encU_pos (x : Nat) : 0 < (encU x).length := by
  by_cases h : x < 128
  · rw [encU_lt h]; simp
  · rw [encU_ge h]; simp

/-- k bytes, each with 128 added. -/
def preU (x : Nat) : Nat → List UInt8
  | 0 => []
  | k + 1 => preU x k ++ [UInt8.ofNat (128 + x / 128 ^ k % 128)]

theorem preU_length (x k : Nat) : (preU x k).length = k := by
  induction k with
  | zero => rfl
  | succ k ih => simp [preU, ih]

theorem preU_cons (x k : Nat) : preU x (k + 1) = UInt8.ofNat (128 + x % 128) :: preU (x / 128) k := by
  induction k with
  | zero => simp [preU]
  | succ k ih =>
    rw [preU, ih, preU]
    simp only [List.cons_append, Nat.div_div_eq_div_mul]
    rw [show 128 ^ (k + 1) = 128 * 128 ^ k by rw [Nat.pow_succ, Nat.mul_comm]]

/-- The bytes of a number: all but the last with 128 added, the last as it is. -/
theorem encU_pre (x : Nat) : ∃ k, (encU x).length = k + 1 ∧ x / 128 ^ k < 128 ∧ encU x = preU x k ++ [UInt8.ofNat (x / 128 ^ k)] ∧ (0 < k → 0 < x / 128 ^ k) := by
  by_cases h : x < 128
  · exact ⟨0, by rw [encU_lt h]; rfl, by simpa using h, by rw [encU_lt h]; simp [preU], by omega⟩
  · obtain ⟨k, h1, h2, h3, h4⟩ := encU_pre (x / 128)
    have e : x / 128 ^ (k + 1) = x / 128 / 128 ^ k := by rw [Nat.div_div_eq_div_mul, Nat.pow_succ, Nat.mul_comm]
    refine ⟨k + 1, by rw [encU_ge h]; simp [h1], by rw [e]; exact h2, by rw [encU_ge h, h3, preU_cons, e]; simp, fun _ => ?_⟩
    rw [e]
    by_cases hk : k = 0
    · subst hk; simp; omega
    · exact h4 (by omega)
termination_by x
decreasing_by omega

/-- How many bytes a number has, by its bits. -/
theorem encU_length (x : Nat) : (encU x).length = ((x ||| 1).log2 + 7) / 7 := by
  by_cases h : x < 128
  · rw [encU_lt h]
    have hne : x ||| 1 ≠ 0 := by
      intro h0
      have := Nat.or_eq_zero_iff.1 h0
      omega
    have hlt : x ||| 1 < 2 ^ 7 := Nat.or_lt_two_pow (by omega) (by omega)
    have := (Nat.log2_lt hne).2 hlt
    simp only [List.length_cons, List.length_nil]
    omega
  · rw [encU_ge h]
    have ih := encU_length (x / 128)
    rw [List.length_cons, ih]
    have e1 : (x / 128 ||| 1).log2 + 7 = (x ||| 1).log2 := by
      have hne : x / 128 ||| 1 ≠ 0 := by
        intro h0
        have := Nat.or_eq_zero_iff.1 h0
        omega
      have hne' : x ||| 1 ≠ 0 := by
        intro h0
        have := Nat.or_eq_zero_iff.1 h0
        omega
      have l1 : (x / 128 ||| 1).log2 = (x / 128).log2 := by
        apply Nat.le_antisymm
        · have hx : x / 128 ≠ 0 := by omega
          have h2 : x / 128 < 2 ^ ((x / 128).log2 + 1) := Nat.lt_log2_self
          have h3 : x / 128 ||| 1 < 2 ^ ((x / 128).log2 + 1) := Nat.or_lt_two_pow h2 (by have := Nat.two_pow_pos (x / 128).log2; rw [Nat.pow_succ]; omega)
          have := (Nat.log2_lt hne).2 h3
          omega
        · exact (Nat.le_log2 hne).2 (Nat.le_trans (Nat.log2_self_le (by omega)) Nat.left_le_or)
      have l2 : (x ||| 1).log2 = x.log2 := by
        apply Nat.le_antisymm
        · have h2 : x < 2 ^ (x.log2 + 1) := Nat.lt_log2_self
          have h3 : x ||| 1 < 2 ^ (x.log2 + 1) := Nat.or_lt_two_pow h2 (by have := Nat.two_pow_pos x.log2; rw [Nat.pow_succ]; omega)
          have := (Nat.log2_lt hne').2 h3
          omega
        · exact (Nat.le_log2 hne').2 (Nat.le_trans (Nat.log2_self_le (by omega)) Nat.left_le_or)
      rw [l1, l2]
      have hx : x / 128 ≠ 0 := by omega
      have h1 := Nat.log2_self_le hx
      have h2 : x / 128 < 2 ^ ((x / 128).log2 + 1) := Nat.lt_log2_self
      exact ((Nat.log2_eq_iff (by omega)).2 ⟨by rw [Nat.pow_add]; omega, by rw [show (x / 128).log2 + 7 + 1 = ((x / 128).log2 + 1) + 7 by omega, Nat.pow_add]; omega⟩).symm
    rw [← e1]; omega
termination_by x
decreasing_by omega

theorem encU_le (x : Nat) (h : x < 2 ^ 64) : (encU x).length ≤ 10 := by
  rw [encU_length]
  have hne : x ||| 1 ≠ 0 := by
    intro h0
    have := Nat.or_eq_zero_iff.1 h0
    omega
  have := (Nat.log2_lt hne).2 (Nat.or_lt_two_pow h (by decide : 1 < 2 ^ 64))
  omega

theorem encU_mono {a b : Nat} (h : a ≤ b) : (encU a).length ≤ (encU b).length := by
  by_cases ha : a < 128
  · rw [encU_lt ha]; exact encU_pos b
  · rw [encU_ge ha, encU_ge (x := b) (by omega)]
    have := encU_mono (a := a / 128) (b := b / 128) (by omega)
    simp; exact this
termination_by a
decreasing_by omega

/-- A number of either sign, as one of none; and the other way. -/
def zig (x : Int) : Nat := if x < 0 then (-2 * x - 1).toNat else (2 * x).toNat
def zag (x : Nat) : Int := if x % 2 = 1 then -(((x + 1) / 2 : Nat) : Int) else ((x / 2 : Nat) : Int)

theorem zag_zig (x : Int) : zag (zig x) = x := by
  unfold zag zig; split <;> split <;> omega
theorem zig_zag (x : Nat) : zig (zag x) = x := by
  unfold zag zig; split <;> split <;> omega
theorem zig_lt (x : Int) (h0 : -9223372036854775808 ≤ x) (h1 : x ≤ 9223372036854775807) : zig x < 2 ^ 64 := by
  unfold zig; split <;> omega

/-- The number that bytes are, whether 128 is added or not. -/
def valU (l : List UInt8) : Nat := l.foldr (fun b acc => b.toNat % 128 + 128 * acc) 0

theorem valU_nil : valU [] = 0 := rfl
theorem valU_cons (b : UInt8) (l : List UInt8) : valU (b :: l) = b.toNat % 128 + 128 * valU l := rfl
theorem valU_append (l m : List UInt8) : valU (l ++ m) = valU l + 128 ^ l.length * valU m := by
  induction l with
  | nil => simp [valU_nil]
  | cons b l ih => rw [List.cons_append, valU_cons, ih, valU_cons, List.length_cons, Nat.pow_succ, Nat.mul_add, Nat.mul_comm (128 ^ l.length) 128, Nat.mul_assoc]; omega
theorem valU_lt (l : List UInt8) : valU l < 128 ^ l.length := by
  induction l with
  | nil => simp [valU_nil]
  | cons b l ih => rw [valU_cons, List.length_cons, Nat.pow_succ]; have := Nat.mod_lt b.toNat (show 0 < 128 by decide); omega

/-- How many bytes from the front have 128 added, ten at most. -/
def leadU : Nat → List UInt8 → Nat
  | 0, _ => 0
  | _ + 1, [] => 0
  | k + 1, b :: l => if b.toNat < 128 then 0 else leadU k l + 1

/-- The number that bytes begin with, how many bytes it has, and why there is none. -/
def getU (l : List UInt8) : Nat × Nat × Nat :=
  let n := leadU 10 l
  if n = 10 then (0, 0, 7)
  else if n = l.length then (0, 0, 5)
  else if 2 ^ 64 ≤ valU (l.take (n + 1)) then (0, 0, 7)
  else if 0 < n ∧ at8 l n = 0 then (0, 0, 6)
  else (valU (l.take (n + 1)), n + 1, 0)

theorem leadU_le (k : Nat) (l : List UInt8) : leadU k l ≤ k ∧ leadU k l ≤ l.length := by
  induction k generalizing l with
  | zero => simp [leadU]
  | succ k ih =>
    cases l with
    | nil => simp [leadU]
    | cons b l =>
      simp only [leadU]
      split
      · simp
      · have := ih l; simp; omega

/-- Which number leadU is. -/
theorem leadU_eq {k n : Nat} {l : List UInt8} (hn : n ≤ k) (hl : n ≤ l.length) (h1 : ∀ i, i < n → 128 ≤ at8 l i) (h2 : n < k → n < l.length → at8 l n < 128) : leadU k l = n := by
  induction k generalizing l n with
  | zero => simp [leadU]; omega
  | succ k ih =>
    cases l with
    | nil => simp at hl; simp [leadU, hl]
    | cons b l =>
      simp only [leadU]
      cases n with
      | zero =>
        have := h2 (by omega) (by simp)
        simp [at8] at this
        rw [if_pos (by omega)]
      | succ n =>
        have h0 := h1 0 (by omega)
        simp [at8] at h0
        rw [if_neg (by omega)]
        congr 1
        refine ih (by omega) (by simpa using hl) (fun i hi => ?_) (fun a b' => ?_)
        · have := h1 (i + 1) (by omega); simpa [at8] using this
        · have := h2 (by omega) (by simpa using b'); simpa [at8] using this

theorem leadU_ge {k : Nat} {l : List UInt8} : ∀ i, i < leadU k l → 128 ≤ at8 l i := by
  induction k generalizing l with
  | zero => intro i hi; simp [leadU] at hi
  | succ k ih =>
    intro i hi
    cases l with
    | nil => simp [leadU] at hi
    | cons b l =>
      simp only [leadU] at hi
      split at hi
      · omega
      · cases i with
        | zero => simp [at8]; omega
        | succ i => have := ih (l := l) i (by omega); simpa [at8] using this

theorem leadU_next {k : Nat} {l : List UInt8} (hk : leadU k l < k) (hl : leadU k l < l.length) : at8 l (leadU k l) < 128 := by
  induction k generalizing l with
  | zero => omega
  | succ k ih =>
    cases l with
    | nil => simp at hl
    | cons b l =>
      simp only [leadU] at hk hl ⊢
      split
      · simp [at8]; omega
      · rename_i hb
        rw [if_neg hb] at hk hl
        have := ih (l := l) (by omega) (by simpa using hl)
        simpa [at8] using this

theorem take_snoc8 (l : List UInt8) (k : Nat) (h : k < l.length) : l.take (k + 1) = l.take k ++ [l[k]] := List.take_succ_eq_append_getElem h

theorem valU_snoc (l : List UInt8) (k : Nat) (h : k < l.length) : (valU (l.take (k + 1)) : Int) = valU (l.take k) + (at8 l k % 128) * 2 ^ (7 * k) := by
  rw [take_snoc8 l k h, valU_append, at8_eq h, List.length_take, Nat.min_eq_left (by omega), valU_cons, valU_nil]
  have e : (128 : Nat) ^ k = 2 ^ (7 * k) := by rw [Nat.pow_mul]
  rw [e]
  push_cast
  simp only [Int.add_zero]
  rw [Int.mul_comm]

theorem valU_take_lt (l : List UInt8) (k : Nat) (h : k ≤ l.length) : valU (l.take k) < 2 ^ (7 * k) := by
  have := valU_lt (l.take k)
  rw [List.length_take, Nat.min_eq_left h] at this
  rwa [Nat.pow_mul]

theorem or_shift {X c k : Nat} (hX : X < 2 ^ (7 * k)) (hb : X + c * 2 ^ (7 * k) < 2 ^ 64) : bits .or .u64 (X : Int) (IntKind.u64.wrap ((c : Int) * 2 ^ (7 * k))) = ((X + c * 2 ^ (7 * k) : Nat) : Int) := by
  have hw : IntKind.u64.wrap ((c : Int) * 2 ^ (7 * k)) = ((c * 2 ^ (7 * k) : Nat) : Int) := by
    rw [show ((c : Int) * 2 ^ (7 * k)) = ((c * 2 ^ (7 * k) : Nat) : Int) by push_cast; rfl]
    generalize c * 2 ^ (7 * k) = y at *
    simp [IntKind.wrap, IntKind.signed, IntKind.bits]; omega
  rw [hw, u64_or_nat X _ (by omega) (by omega)]
  congr 1
  rw [Nat.or_comm, Nat.mul_comm c, ← Nat.two_pow_add_eq_or_of_lt hX, Nat.add_comm]

theorem valU_big (l : List UInt8) (h9 : 9 < l.length) : 2 ^ 64 ≤ valU (l.take (9 + 1)) ↔ 2 ≤ at8 l 9 % 128 := by
  have h1 := valU_snoc l 9 h9
  have h2 := valU_take_lt l 9 (by omega)
  have e : (2 : Int) ^ (7 * 9) = 9223372036854775808 := by decide
  rw [e] at h1
  have e2 : (2 : Nat) ^ (7 * 9) = 9223372036854775808 := by decide
  rw [e2] at h2
  have h3 := at8_lo l 9
  constructor <;> intro h <;> omega

theorem valU_small (l : List UInt8) (k : Nat) (hk : k < 9) (hl : k < l.length) : valU (l.take (k + 1)) < 2 ^ 63 := by
  have := valU_take_lt l (k + 1) (by omega)
  exact Nat.lt_of_lt_of_le this (Nat.pow_le_pow_right (by omega) (by omega))

section
variable {l : List UInt8} {k : Nat} (h1 : ∀ j, j < k → 128 ≤ at8 l j)
include h1
theorem getU_full (hk : k = 10) (hl : k ≤ l.length) : getU l = (0, 0, 7) := by
  subst hk
  have := leadU_eq (k := 10) (n := 10) (l := l) (by omega) hl h1 (fun h => absurd h (by omega))
  simp [getU, this]
theorem getU_short (hk : k < 10) (hl : k = l.length) : getU l = (0, 0, 5) := by
  subst hl
  have := leadU_eq (k := 10) (n := l.length) (l := l) (by omega) (by omega) h1 (fun _ h => absurd h (by omega))
  simp only [getU, this]
  rw [if_neg (by omega), if_pos trivial]
theorem getU_big (hk : k = 9) (hl : k < l.length) (h2 : 1 < at8 l k) (h3 : at8 l k < 128) : getU l = (0, 0, 7) := by
  subst hk
  have := leadU_eq (k := 10) (n := 9) (l := l) (by omega) (by omega) h1 (fun _ _ => h3)
  simp only [getU, this]
  rw [if_neg (by omega), if_neg (by omega), if_pos ((valU_big l hl).2 (by omega))]
theorem getU_form (hk : k < 10) (hl : k < l.length) (h2 : at8 l k = 0) (h3 : 0 < k) : getU l = (0, 0, 6) := by
  have := leadU_eq (k := 10) (n := k) (l := l) (by omega) (by omega) h1 (fun _ _ => by omega)
  simp only [getU, this]
  rw [if_neg (by omega), if_neg (by omega), if_neg, if_pos ⟨h3, h2⟩]
  by_cases h9 : k = 9
  · subst h9; intro h; have := (valU_big l hl).1 h; omega
  · have := valU_small l k (by omega) hl; omega
theorem getU_ok (hk : k < 10) (hl : k < l.length) (h2 : at8 l k < 128) (h9 : k = 9 → at8 l k ≤ 1) (h0 : 0 < k → at8 l k ≠ 0) : getU l = (valU (l.take (k + 1)), k + 1, 0) := by
  have := leadU_eq (k := 10) (n := k) (l := l) (by omega) (by omega) h1 (fun _ _ => h2)
  simp only [getU, this]
  rw [if_neg (by omega), if_neg (by omega), if_neg, if_neg (fun h => h0 h.1 h.2)]
  by_cases e9 : k = 9
  · subst e9; intro h; have := (valU_big l hl).1 h; have := h9 rfl; have := at8_lo l 9; omega
  · have := valU_small l k (by omega) hl; omega
end

/-- One round: the next seven bits. -/
theorem round_or {l : List UInt8} {k : Nat} {X : Int} (hX : X = valU (l.take k)) (hl : k < l.length) (h8 : k ≤ 9) (c : Int) (h0 : 0 ≤ c) (hc : c = at8 l k % 128) (h9 : k = 9 → c ≤ 1) :
    bits .or .u64 X (IntKind.u64.wrap (c * 2 ^ (7 * k))) = (valU (l.take (k + 1)) : Int) := by
  subst hX
  obtain ⟨n, rfl⟩ := Int.eq_ofNat_of_zero_le h0
  have hv := valU_snoc l k hl
  rw [← hc] at hv
  have hX := valU_take_lt l k (by omega)
  have hb : valU (l.take (k + 1)) < 2 ^ 64 := by
    by_cases e9 : k = 9
    · subst e9
      have := valU_big l hl
      have := h9 rfl
      omega
    · have := valU_small l k (by omega) hl; omega
  have he : valU (l.take (k + 1)) = valU (l.take k) + n * 2 ^ (7 * k) := by
    have : ((valU (l.take k) + n * 2 ^ (7 * k) : Nat) : Int) = valU (l.take k) + (n : Int) * 2 ^ (7 * k) := by push_cast; rfl
    omega
  rw [or_shift hX (by omega), he]

theorem round_or9 {l : List UInt8} {k : Nat} {X : Int} (hX : X = valU (l.take k)) (hl : k < l.length) (hk : (k : Int) = 9) (h0 : 0 ≤ at8 l k) (h1 : at8 l k ≤ 1) :
    bits .or .u64 X (at8 l k * 9223372036854775808) = (valU (l.take (k + 1)) : Int) := by
  obtain rfl : k = 9 := by omega
  rw [← round_or hX hl (by omega) (at8 l 9) h0 (by omega) (fun _ => h1)]
  congr 1
  have : at8 l 9 = 0 ∨ at8 l 9 = 1 := by omega
  rcases this with h | h <;> rw [h] <;> decide

theorem ret3 {r : Nat × Nat × Nat} {x y z : Int} {a b c : Nat} (h : r = (a, b, c)) (hx : x = a) (hy : y = b) (hz : z = c) {k1 k2 k3 : IntKind} :
    Ending.returned (.tuple #[.int k1 x, .int k2 y, .int k3 z]) = .returned (.tuple #[.int k1 (r.1 : Nat), .int k2 (r.2.1 : Nat), .int k3 (r.2.2 : Nat)]) := by
  subst h; rw [hx, hy, hz]

end Go.Proofs.Ytgikcbljkkmkgaa
