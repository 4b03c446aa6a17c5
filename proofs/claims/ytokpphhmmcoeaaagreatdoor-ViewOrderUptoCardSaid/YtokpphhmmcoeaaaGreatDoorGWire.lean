/-
  The plain mathematics of layer 1: the bytes of a number, and what they are read as. No program.
-/
import Derived.Test.YtokpphhmmcoeaaaGreatDoorGBaseA
import Derived.Lib.BitFns
import Derived.Lib.Walk
import Derived.Deep.Light
import Derived.Lib.Zigzag
import Derived.Lib.Join
import Derived.Maps.OwnOps
import Derived.Maps.Views
set_option linter.unusedVariables false
set_option linter.unusedSimpArgs false
set_option maxRecDepth 1000000
namespace Go.Proofs.YtokpphhmmcoeaaaGreatDoor

/-- A number's bytes: seven bits each, the lowest first. -/
def encU (x : Nat) : List UInt8 :=
  if x < 128 then [UInt8.ofNat x] else UInt8.ofNat (128 + x % 128) :: encU (x / 128)
termination_by x
decreasing_by omega

theorem encU_lt {x : Nat} (h : x < 128) : encU x = [UInt8.ofNat x] := by rw [encU, if_pos h]
theorem encU_ge {x : Nat} (h : ¬ x < 128) : encU x = UInt8.ofNat (128 + x % 128) :: encU (x / 128) := by rw [encU, if_neg h]

theorem encU_pos (x : Nat) : 0 < (encU x).length := by
  by_cases h : x < 128
  · rw [encU_lt h]; simp
  · rw [encU_ge h]; simp

/-- k bytes, each with 128 added. -/
def preU (x : Nat) : Nat → List UInt8
  | 0 => []
  | k + 1 => preU x k ++ [UInt8.ofNat (128 + x / 128 ^ k % 128)]

theorem preU_length (x k : Nat) : (preU x k).length = k := by
  induction k with
  | zero => rfl
  | succ k ih => simp [preU, ih]

theorem preU_cons (x k : Nat) : preU x (k + 1) = UInt8.ofNat (128 + x % 128) :: preU (x / 128) k := by
  induction k with
  | zero => simp [preU]
  | succ k ih =>
    rw [preU, ih, preU]
    simp only [List.cons_append, Nat.div_div_eq_div_mul]
    rw [show 128 ^ (k + 1) = 128 * 128 ^ k by rw [Nat.pow_succ, Nat.mul_comm]]

/-- The bytes of a number: all but the last with 128 added, the last as it is. -/
theorem encU_pre (x : Nat) : ∃ k, (encU x).length = k + 1 ∧ x / 128 ^ k < 128 ∧ encU x = preU x k ++ [UInt8.ofNat (x / 128 ^ k)] ∧ (0 < k → 0 < x / 128 ^ k) := by
  by_cases h : x < 128
  · exact ⟨0, by rw [encU_lt h]; rfl, by simpa using h, by rw [encU_lt h]; simp [preU], by omega⟩
  · obtain ⟨k, h1, h2, h3, h4⟩ := encU_pre (x / 128)
    have e : x / 128 ^ (k + 1) = x / 128 / 128 ^ k := by rw [Nat.div_div_eq_div_mul, Nat.pow_succ, Nat.mul_comm]
    refine ⟨k + 1, by rw [encU_ge h]; simp [h1], by rw [e]; exact h2, by rw [encU_ge h, h3, preU_cons, e]; simp, fun _ => ?_⟩
    rw [e]
    by_cases hk : k = 0
    · subst hk; simp; omega
    · exact h4 (by omega)
termination_by x
decreasing_by omega

/-- How many bytes a number has, by its bits. -/
theorem encU_length (x : Nat) : (encU x).length = ((x ||| 1).log2 + 7) / 7 := by
  by_cases h : x < 128
  · rw [encU_lt h]
    have hne : x ||| 1 ≠ 0 := by
      intro h0
      have := Nat.or_eq_zero_iff.1 h0
      omega
    have hlt : x ||| 1 < 2 ^ 7 := Nat.or_lt_two_pow (by omega) (by omega)
    have := (Nat.log2_lt hne).2 hlt
    simp only [List.length_cons, List.length_nil]
    omega
  · rw [encU_ge h]
    have ih := encU_length (x / 128)
    rw [List.length_cons, ih]
    have e1 : (x / 128 ||| 1).log2 + 7 = (x ||| 1).log2 := by
      have hne : x / 128 ||| 1 ≠ 0 := by
        intro h0
        have := Nat.or_eq_zero_iff.1 h0
        omega
      have hne' : x ||| 1 ≠ 0 := by
        intro h0
        have := Nat.or_eq_zero_iff.1 h0
        omega
      have l1 : (x / 128 ||| 1).log2 = (x / 128).log2 := by
        apply Nat.le_antisymm
        · have hx : x / 128 ≠ 0 := by omega
          have h2 : x / 128 < 2 ^ ((x / 128).log2 + 1) := Nat.lt_log2_self
          have h3 : x / 128 ||| 1 < 2 ^ ((x / 128).log2 + 1) := Nat.or_lt_two_pow h2 (by have := Nat.two_pow_pos (x / 128).log2; rw [Nat.pow_succ]; omega)
          have := (Nat.log2_lt hne).2 h3
          omega
        · exact (Nat.le_log2 hne).2 (Nat.le_trans (Nat.log2_self_le (by omega)) Nat.left_le_or)
      have l2 : (x ||| 1).log2 = x.log2 := by
        apply Nat.le_antisymm
        · have h2 : x < 2 ^ (x.log2 + 1) := Nat.lt_log2_self
          have h3 : x ||| 1 < 2 ^ (x.log2 + 1) := Nat.or_lt_two_pow h2 (by have := Nat.two_pow_pos x.log2; rw [Nat.pow_succ]; omega)
          have := (Nat.log2_lt hne').2 h3
          omega
        · exact (Nat.le_log2 hne').2 (Nat.le_trans (Nat.log2_self_le (by omega)) Nat.left_le_or)
      rw [l1, l2]
      have hx : x / 128 ≠ 0 := by omega
      have h1 := Nat.log2_self_le hx
      have h2 : x / 128 < 2 ^ ((x / 128).log2 + 1) := Nat.lt_log2_self
      exact ((Nat.log2_eq_iff (by omega)).2 ⟨by rw [Nat.pow_add]; omega, by rw [show (x / 128).log2 + 7 + 1 = ((x / 128).log2 + 1) + 7 by omega, Nat.pow_add]; omega⟩).symm
    rw [← e1]; omega
termination_by x
decreasing_by omega

theorem encU_le (x : Nat) (h : x < 2 ^ 64) : (encU x).length ≤ 10 := by
  rw [encU_length]
  have hne : x ||| 1 ≠ 0 := by
    intro h0
    have := Nat.or_eq_zero_iff.1 h0
    omega
  have := (Nat.log2_lt hne).2 (Nat.or_lt_two_pow h (by decide : 1 < 2 ^ 64))
  omega

theorem encU_mono {a b : Nat} (h : a ≤ b) : (encU a).length ≤ (encU b).length := by
  by_cases ha : a < 128
  · rw [encU_lt ha]; exact encU_pos b
  · rw [encU_ge ha, encU_ge (x := b) (by omega)]
    have := encU_mono (a := a / 128) (b := b / 128) (by omega)
    simp; exact this
termination_by a
decreasing_by omega

/-- A number of either sign, as one of none; and the other way. -/
def zig (x : Int) : Nat := if x < 0 then (-2 * x - 1).toNat else (2 * x).toNat
def zag (x : Nat) : Int := if x % 2 = 1 then -(((x + 1) / 2 : Nat) : Int) else ((x / 2 : Nat) : Int)

theorem zag_zig (x : Int) : zag (zig x) = x := by
  unfold zag zig; split <;> split <;> omega
theorem zig_zag (x : Nat) : zig (zag x) = x := by
  unfold zag zig; split <;> split <;> omega
theorem zig_lt (x : Int) (h0 : -9223372036854775808 ≤ x) (h1 : x ≤ 9223372036854775807) : zig x < 2 ^ 64 := by
  unfold zig; split <;> omega

/-- The number that bytes are, whether 128 is added or not. -/
def valU (l : List UInt8) : Nat := l.foldr (fun b acc => b.toNat % 128 + 128 * acc) 0

theorem valU_nil : valU [] = 0 := rfl
theorem valU_cons (b : UInt8) (l : List UInt8) : valU (b :: l) = b.toNat % 128 + 128 * valU l := rfl
theorem valU_append (l m : List UInt8) : valU (l ++ m) = valU l + 128 ^ l.length * valU m := by
  induction l with
  | nil => simp [valU_nil]
  | cons b l ih => rw [List.cons_append, valU_cons, ih, valU_cons, List.length_cons, Nat.pow_succ, Nat.mul_add, Nat.mul_comm (128 ^ l.length) 128, Nat.mul_assoc]; omega
theorem valU_lt (l : List UInt8) : valU l < 128 ^ l.length := by
  induction l with
  | nil => simp [valU_nil]
  | cons b l ih => rw [valU_cons, List.length_cons, Nat.pow_succ]; have := Nat.mod_lt b.toNat (show 0 < 128 by decide); omega

/-- How many bytes from the front have 128 added, ten at most. -/
def leadU : Nat → List UInt8 → Nat
  | 0, _ => 0
  | _ + 1, [] => 0
  | k + 1, b :: l => if b.toNat < 128 then 0 else leadU k l + 1

/-- The number that bytes begin with, how many bytes it has, and why there is none. -/
def getU (l : List UInt8) : Nat × Nat × Nat :=
  let n := leadU 10 l
  if n = 10 then (0, 0, 7)
  else if n = l.length then (0, 0, 5)
  else if 2 ^ 64 ≤ valU (l.take (n + 1)) then (0, 0, 7)
  else if 0 < n ∧ at8 l n = 0 then (0, 0, 6)
  else (valU (l.take (n + 1)), n + 1, 0)

theorem leadU_le (k : Nat) (l : List UInt8) : leadU k l ≤ k ∧ leadU k l ≤ l.length := by
  induction k generalizing l with
  | zero => simp [leadU]
  | succ k ih =>
    cases l with
    | nil => simp [leadU]
    | cons b l =>
      simp only [leadU]
      split
      · simp
      · have := ih l; simp; omega

/-- Which number leadU is. -/
theorem leadU_eq {k n : Nat} {l : List UInt8} (hn : n ≤ k) (hl : n ≤ l.length) (h1 : ∀ i, i < n → 128 ≤ at8 l i) (h2 : n < k → n < l.length → at8 l n < 128) : leadU k l = n := by
  induction k generalizing l n with
  | zero => simp [leadU]; omega
  | succ k ih =>
    cases l with
    | nil => simp at hl; simp [leadU, hl]
    | cons b l =>
      simp only [leadU]
      cases n with
      | zero =>
        have := h2 (by omega) (by simp)
        simp [at8] at this
        rw [if_pos (by omega)]
      | succ n =>
        have h0 := h1 0 (by omega)
        simp [at8] at h0
        rw [if_neg (by omega)]
        congr 1
        refine ih (by omega) (by simpa using hl) (fun i hi => ?_) (fun a b' => ?_)
        · have := h1 (i + 1) (by omega); simpa [at8] using this
        · have := h2 (by omega) (by simpa using b'); simpa [at8] using this

theorem leadU_ge {k : Nat} {l : List UInt8} : ∀ i, i < leadU k l → 128 ≤ at8 l i := by
  induction k generalizing l with
  | zero => intro i hi; simp [leadU] at hi
  | succ k ih =>
    intro i hi
    cases l with
    | nil => simp [leadU] at hi
    | cons b l =>
      simp only [leadU] at hi
      split at hi
      · omega
      · cases i with
        | zero => simp [at8]; omega
        | succ i => have := ih (l := l) i (by omega); simpa [at8] using this

theorem leadU_next {k : Nat} {l : List UInt8} (hk : leadU k l < k) (hl : leadU k l < l.length) : at8 l (leadU k l) < 128 := by
  induction k generalizing l with
  | zero => omega
  | succ k ih =>
    cases l with
    | nil => simp at hl
    | cons b l =>
      simp only [leadU] at hk hl ⊢
      split
      · simp [at8]; omega
      · rename_i hb
        rw [if_neg hb] at hk hl
        have := ih (l := l) (by omega) (by simpa using hl)
        simpa [at8] using this

theorem take_snoc8 (l : List UInt8) (k : Nat) (h : k < l.length) : l.take (k + 1) = l.take k ++ [l[k]] := List.take_succ_eq_append_getElem h

theorem valU_snoc (l : List UInt8) (k : Nat) (h : k < l.length) : (valU (l.take (k + 1)) : Int) = valU (l.take k) + (at8 l k % 128) * 2 ^ (7 * k) := by
  rw [take_snoc8 l k h, valU_append, at8_eq h, List.length_take, Nat.min_eq_left (by omega), valU_cons, valU_nil]
  have e : (128 : Nat) ^ k = 2 ^ (7 * k) := by rw [Nat.pow_mul]
  rw [e]
  push_cast
  simp only [Int.add_zero]
  rw [Int.mul_comm]

theorem valU_take_lt (l : List UInt8) (k : Nat) (h : k ≤ l.length) : valU (l.take k) < 2 ^ (7 * k) := by
  have := valU_lt (l.take k)
  rw [List.length_take, Nat.min_eq_left h] at this
  rwa [Nat.pow_mul]

theorem or_shift {X c k : Nat} (hX : X < 2 ^ (7 * k)) (hb : X + c * 2 ^ (7 * k) < 2 ^ 64) : bits .or .u64 (X : Int) (IntKind.u64.wrap ((c : Int) * 2 ^ (7 * k))) = ((X + c * 2 ^ (7 * k) : Nat) : Int) := by
  have hw : IntKind.u64.wrap ((c : Int) * 2 ^ (7 * k)) = ((c * 2 ^ (7 * k) : Nat) : Int) := by
    rw [show ((c : Int) * 2 ^ (7 * k)) = ((c * 2 ^ (7 * k) : Nat) : Int) by push_cast; rfl]
    generalize c * 2 ^ (7 * k) = y at *
    simp [IntKind.wrap, IntKind.signed, IntKind.bits]; omega
  rw [hw, u64_or_nat X _ (by omega) (by omega)]
  congr 1
  rw [Nat.or_comm, Nat.mul_comm c, ← Nat.two_pow_add_eq_or_of_lt hX, Nat.add_comm]

theorem valU_big (l : List UInt8) (h9 : 9 < l.length) : 2 ^ 64 ≤ valU (l.take (9 + 1)) ↔ 2 ≤ at8 l 9 % 128 := by
  have h1 := valU_snoc l 9 h9
  have h2 := valU_take_lt l 9 (by omega)
  have e : (2 : Int) ^ (7 * 9) = 9223372036854775808 := by decide
  rw [e] at h1
  have e2 : (2 : Nat) ^ (7 * 9) = 9223372036854775808 := by decide
  rw [e2] at h2
  have h3 := at8_lo l 9
  constructor <;> intro h <;> omega

theorem valU_small (l : List UInt8) (k : Nat) (hk : k < 9) (hl : k < l.length) : valU (l.take (k + 1)) < 2 ^ 63 := by
  have := valU_take_lt l (k + 1) (by omega)
  exact Nat.lt_of_lt_of_le this (Nat.pow_le_pow_right (by omega) (by omega))

section
variable {l : List UInt8} {k : Nat} (h1 : ∀ j, j < k → 128 ≤ at8 l j)
include h1
theorem getU_full (hk : k = 10) (hl : k ≤ l.length) : getU l = (0, 0, 7) := by
  subst hk
  have := leadU_eq (k := 10) (n := 10) (l := l) (by omega) hl h1 (fun h => absurd h (by omega))
  simp [getU, this]
theorem getU_short (hk : k < 10) (hl : k = l.length) : getU l = (0, 0, 5) := by
  subst hl
  have := leadU_eq (k := 10) (n := l.length) (l := l) (by omega) (by omega) h1 (fun _ h => absurd h (by omega))
  simp only [getU, this]
  rw [if_neg (by omega), if_pos trivial]
theorem getU_big (hk : k = 9) (hl : k < l.length) (h2 : 1 < at8 l k) (h3 : at8 l k < 128) : getU l = (0, 0, 7) := by
  subst hk
  have := leadU_eq (k := 10) (n := 9) (l := l) (by omega) (by omega) h1 (fun _ _ => h3)
  simp only [getU, this]
  rw [if_neg (by omega), if_neg (by omega), if_pos ((valU_big l hl).2 (by omega))]
theorem getU_form (hk : k < 10) (hl : k < l.length) (h2 : at8 l k = 0) (h3 : 0 < k) : getU l = (0, 0, 6) := by
  have := leadU_eq (k := 10) (n := k) (l := l) (by omega) (by omega) h1 (fun _ _ => by omega)
  simp only [getU, this]
  rw [if_neg (by omega), if_neg (by omega), if_neg, if_pos ⟨h3, h2⟩]
  by_cases h9 : k = 9
  · subst h9; intro h; have := (valU_big l hl).1 h; omega
  · have := valU_small l k (by omega) hl; omega
theorem getU_ok (hk : k < 10) (hl : k < l.length) (h2 : at8 l k < 128) (h9 : k = 9 → at8 l k ≤ 1) (h0 : 0 < k → at8 l k ≠ 0) : getU l = (valU (l.take (k + 1)), k + 1, 0) := by
  have := leadU_eq (k := 10) (n := k) (l := l) (by omega) (by omega) h1 (fun _ _ => h2)
  simp only [getU, this]
  rw [if_neg (by omega), if_neg (by omega), if_neg, if_neg (fun h => h0 h.1 h.2)]
  by_cases e9 : k = 9
  · subst e9; intro h; have := (valU_big l hl).1 h; have := h9 rfl; have := at8_lo l 9; omega
  · have := valU_small l k (by omega) hl; omega
end

/-- One round: the next seven bits. -/
theorem round_or {l : List UInt8} {k : Nat} {X : Int} (hX : X = valU (l.take k)) (hl : k < l.length) (h8 : k ≤ 9) (c : Int) (h0 : 0 ≤ c) (hc : c = at8 l k % 128) (h9 : k = 9 → c ≤ 1) :
    bits .or .u64 X (IntKind.u64.wrap (c * 2 ^ (7 * k))) = (valU (l.take (k + 1)) : Int) := by
  subst hX
  obtain ⟨n, rfl⟩ := Int.eq_ofNat_of_zero_le h0
  have hv := valU_snoc l k hl
  rw [← hc] at hv
  have hX := valU_take_lt l k (by omega)
  have hb : valU (l.take (k + 1)) < 2 ^ 64 := by
    by_cases e9 : k = 9
    · subst e9
      have := valU_big l hl
      have := h9 rfl
      omega
    · have := valU_small l k (by omega) hl; omega
  have he : valU (l.take (k + 1)) = valU (l.take k) + n * 2 ^ (7 * k) := by
    have : ((valU (l.take k) + n * 2 ^ (7 * k) : Nat) : Int) = valU (l.take k) + (n : Int) * 2 ^ (7 * k) := by push_cast; rfl
    omega
  rw [or_shift hX (by omega), he]

theorem round_or9 {l : List UInt8} {k : Nat} {X : Int} (hX : X = valU (l.take k)) (hl : k < l.length) (hk : (k : Int) = 9) (h0 : 0 ≤ at8 l k) (h1 : at8 l k ≤ 1) :
    bits .or .u64 X (at8 l k * 9223372036854775808) = (valU (l.take (k + 1)) : Int) := by
  obtain rfl : k = 9 := by omega
  rw [← round_or hX hl (by omega) (at8 l 9) h0 (by omega) (fun _ => h1)]
  congr 1
  have : at8 l 9 = 0 ∨ at8 l 9 = 1 := by omega
  rcases this with h | h <;> rw [h] <;> decide

theorem ret3 {r : Nat × Nat × Nat} {x y z : Int} {a b c : Nat} (h : r = (a, b, c)) (hx : x = a) (hy : y = b) (hz : z = c) {k1 k2 k3 : IntKind} :
    Ending.returned (.tuple #[.int k1 x, .int k2 y, .int k3 z]) = .returned (.tuple #[.int k1 (r.1 : Nat), .int k2 (r.2.1 : Nat), .int k3 (r.2.2 : Nat)]) := by
  subst h; rw [hx, hy, hz]

end Go.Proofs.YtokpphhmmcoeaaaGreatDoor


/-
  math/bits.Len64, walked: how many bits a number has.
-/
namespace Go.Proofs.YtokpphhmmcoeaaaGreatDoor
open Go.RowKit

theorem len8_log (y : Int) (h0 : 0 < y) (h1 : y ≤ 255) : Lib.len8 y = (y.toNat.log2 + 1 : Nat) := by
  have h : ∀ n : Fin 256, n.val ≠ 0 → Lib.len8 (n.val : Int) = (n.val.log2 + 1 : Nat) := by decide +kernel
  have := h ⟨y.toNat, by omega⟩ (by simp; omega)
  simp only at this
  rw [show ((y.toNat : Nat) : Int) = y by omega] at this
  exact this

theorem log2_shift (x s : Nat) (h : 2 ^ s ≤ x) : x.log2 = (x / 2 ^ s).log2 + s := by
  have hp : 0 < 2 ^ s := Nat.two_pow_pos s
  have hx : x / 2 ^ s ≠ 0 := by have := (Nat.le_div_iff_mul_le hp).2 (show 1 * 2 ^ s ≤ x by omega); omega
  have h1 := Nat.log2_self_le hx
  have h2 : x / 2 ^ s < 2 ^ ((x / 2 ^ s).log2 + 1) := Nat.lt_log2_self
  exact (Nat.log2_eq_iff (by omega)).2
    ⟨by rw [Nat.pow_add]; exact (Nat.le_div_iff_mul_le hp).1 h1, by rw [show (x / 2 ^ s).log2 + s + 1 = ((x / 2 ^ s).log2 + 1) + s by omega, Nat.pow_add]; exact (Nat.div_lt_iff_lt_mul hp).1 h2⟩

/-- A way's end: what is left is below 256, behind s bits. -/
theorem len_way (x y : Int) (s : Nat) (hy : y = ((x.toNat / 2 ^ s : Nat) : Int)) (hs : 2 ^ s ≤ x.toNat) (hy1 : y ≤ 255) :
    (s : Int) + Lib.len8 y = (x.toNat.log2 + 1 : Nat) := by
  have hp : 0 < 2 ^ s := Nat.two_pow_pos s
  have hx : 0 < x.toNat / 2 ^ s := (Nat.le_div_iff_mul_le hp).2 (show 1 * 2 ^ s ≤ x.toNat by omega)
  rw [len8_log y (by omega) hy1, log2_shift x.toNat s hs, hy, Int.toNat_natCast]
  omega

theorem len8_bd (y : Int) (h0 : 0 < y) (h1 : y ≤ 255) : 1 ≤ Lib.len8 y ∧ Lib.len8 y ≤ 8 := by
  rw [len8_log y h0 h1]
  have := (Nat.log2_lt (n := y.toNat) (k := 8) (by omega)).2 (by omega)
  omega

theorem tab_get (y : Int) (h : y.toNat < Lib.len8tab.size) : ((Lib.len8tab[y.toNat]'h).toNat : Int) = Lib.len8 y := by
  unfold Lib.len8
  rw [getElem?_pos Lib.len8tab y.toNat h]
  rfl

theorem wrap_two (k z : Int) (h0 : 0 ≤ k) (h1 : k ≤ 56) (h2 : 1 ≤ z ∧ z ≤ 8) : wrap64 (k + wrap64 z) = k + z := by unfold wrap64; omega
theorem wrap_twice (z : Int) (h2 : 1 ≤ z ∧ z ≤ 8) : wrap64 (wrap64 z) = z := by unfold wrap64; omega

theorem len_end (x y : Int) (s : Nat) (h : y.toNat < Lib.len8tab.size) (_h0 : 0 < x) (hs : 2 ^ s ≤ x.toNat) (hs56 : s ≤ 56) (hy : y = ((x.toNat / 2 ^ s : Nat) : Int)) (hy1 : y ≤ 255) (hy0 : 0 < y) :
    wrap64 ((s : Int) + wrap64 (Lib.len8tab[y.toNat]'h).toNat) = (x.toNat.log2 + 1 : Nat) := by
  rw [tab_get, wrap_two _ _ (by omega) (by omega) (len8_bd y hy0 hy1)]
  exact len_way x y s hy hs hy1

theorem len_end0 (x : Int) (h : x.toNat < Lib.len8tab.size) (h0 : 0 < x) (hy1 : x ≤ 255) :
    wrap64 (wrap64 (Lib.len8tab[x.toNat]'h).toNat) = (x.toNat.log2 + 1 : Nat) := by
  rw [tab_get, wrap_twice _ (len8_bd x h0 hy1), len8_log x h0 hy1]

set_option maxHeartbeats 4000000 in
set_option maxRecDepth 1000000 in
theorem bits_Len64 (x : Int) (h0 : 0 < x) (h1 : x ≤ 18446744073709551615) (w : World) :
    Calls Tryz.prog 87 #[.int .u64 x] w fun e w' => e = .returned (.int .i64 (x.toNat.log2 + 1 : Nat)) ∧ w = w' := by
  go_enter Tryz.func87, Tryz.ntmps87
  go_wp2
  all_goals first
    | (go_ret; refine ⟨congrArg Ending.returned (congrArg (Value.int IntKind.i64) ?_), rfl⟩; go_light)
    | (exfalso
       go_light
       have hs := Lib.len8tab_size
       omega)
  all_goals first
    | exact len_end x (x / 4294967296 / 65536 / 256) 56 _ h0 (by omega) (by omega) (by omega) (by omega) (by omega)
    | exact len_end x (x / 4294967296 / 65536) 48 _ h0 (by omega) (by omega) (by omega) (by omega) (by omega)
    | exact len_end x (x / 4294967296 / 256) 40 _ h0 (by omega) (by omega) (by omega) (by omega) (by omega)
    | exact len_end x (x / 4294967296) 32 _ h0 (by omega) (by omega) (by omega) (by omega) (by omega)
    | exact len_end x (x / 65536 / 256) 24 _ h0 (by omega) (by omega) (by omega) (by omega) (by omega)
    | exact len_end x (x / 65536) 16 _ h0 (by omega) (by omega) (by omega) (by omega) (by omega)
    | exact len_end x (x / 256) 8 _ h0 (by omega) (by omega) (by omega) (by omega) (by omega)
    | exact len_end0 x _ h0 (by omega)

end Go.Proofs.YtokpphhmmcoeaaaGreatDoor


/-
  The walks of layer 1's functions on numbers alone: Size, Zig, Zag, of the program and of the document's answers.
-/
namespace Go.Proofs.YtokpphhmmcoeaaaGreatDoor
open Go.RowKit

theorem or_one_pos (x : Int) (h0 : 0 ≤ x) (h1 : x ≤ 18446744073709551615) :
    ∃ y : Int, bits .or .u64 x 1 = y ∧ 0 < y ∧ y ≤ 18446744073709551615 ∧ y.toNat.log2 < 64 ∧ (encU x.toNat).length = (y.toNat.log2 + 7) / 7 := by
  refine ⟨((x.toNat ||| 1 : Nat) : Int), ?_, ?_, ?_, ?_, ?_⟩
  · rw [u64_or x 1 h0 (by omega) (by decide) (by decide)]; rfl
  · have : 1 ≤ x.toNat ||| 1 := Nat.right_le_or
    omega
  · have : x.toNat ||| 1 < 2 ^ 64 := Nat.or_lt_two_pow (by omega) (by decide)
    omega
  · rw [Int.toNat_natCast]
    have h : x.toNat ||| 1 < 2 ^ 64 := Nat.or_lt_two_pow (by omega) (by decide)
    have : 1 ≤ x.toNat ||| 1 := Nat.right_le_or
    exact (Nat.log2_lt (by omega)).2 h
  · rw [Int.toNat_natCast, encU_length]

set_option maxHeartbeats 400000 in
theorem wire_Size (x : Int) (h0 : 0 ≤ x) (h1 : x ≤ 18446744073709551615) (w : World) :
    Calls Tryz.prog 75 #[.int .u64 x] w fun e w' => e = .returned (.int .i64 ((encU x.toNat).length : Nat)) ∧ w = w' := by
  obtain ⟨y, hy, hy0, hy1, hy2, hl⟩ := or_one_pos x h0 h1
  have Hl := Lib.hid hl
  clear hl
  go_enter Tryz.func75, Tryz.ntmps75
  go_wp2_with (go_at_call 87; refine (bits_Len64 _ (by omega) (by omega) _).mono ?_; rintro e w' ⟨rfl, rfl⟩)
  go_ret
  refine ⟨congrArg Ending.returned (congrArg (Value.int IntKind.i64) ?_), rfl⟩
  rw [Hl.out]
  generalize y.toNat.log2 = q at *
  omega

theorem zig_bits (x : Int) (h0 : -9223372036854775808 ≤ x) (h1 : x < 0) : bits .xor .u64 IntKind.u64.max (IntKind.u64.wrap (IntKind.u64.wrap x * 2)) = (zig x : Int) := by
  have e1 : IntKind.u64.wrap (IntKind.u64.wrap x * 2) = ((2 ^ 64 + 2 * x).toNat : Nat) := by
    simp [IntKind.wrap, IntKind.signed, IntKind.bits]; omega
  have e2 : IntKind.u64.max = ((2 ^ 64 - 1 : Nat) : Int) := by decide
  rw [e1, e2, u64_xor_nat _ _ (by decide) (by omega), Lib.xor_ones64 _ (by omega)]
  unfold zig; rw [if_pos h1]; omega

end Go.Proofs.YtokpphhmmcoeaaaGreatDoor


/-
  The walks of layer 1's functions that write bytes: putUint, Uint, Int, Bytes.
-/
namespace Go.Proofs.YtokpphhmmcoeaaaGreatDoor
open Go.RowKit

theorem u8_or128_wrap (y : Nat) : bits .or .u8 ((y : Int) % 256) 128 = ((UInt8.ofNat (128 + y % 128)).toNat : Int) := by
  rw [show ((y : Int) % 256) = ((y % 256 : Nat) : Int) by omega, Lib.u8_or128_any _ (by omega) (by omega)]
  rw [UInt8.toNat_ofNat']
  omega

theorem byte_128 (y : Nat) : ((UInt8.ofNat (128 + y % 128)).toNat : Int) = 128 + (y % 128 : Nat) := by
  rw [UInt8.toNat_ofNat']; omega

set_option maxHeartbeats 1000000 in
set_option maxRecDepth 1000000 in
theorem wire_putUint (x : Int) (h0 : 0 ≤ x) (h1 : x ≤ 18446744073709551615) (g n cap : Nat) (cur : List Value) (w : World) (hn : n = (encU x.toNat).length) (hc : n ≤ cur.length)
    (hg : w.heap[g]? = some (.cells cur.toArray 5 (0, 0))) :
    Calls Tryz.prog 76 #[.slice (some ⟨g, 0, none⟩) n cap, .int .u64 x] w fun e w' => e = .returned (.tuple #[]) ∧
      w'.heap[g]? = some (.cells (cellsB (encU x.toNat) ++ cur.drop n).toArray 5 (0, 0)) ∧ w.grownBy w' (some g) := by
  obtain ⟨m, rfl⟩ := Int.eq_ofNat_of_zero_le h0
  rw [Int.toNat_natCast] at *
  obtain ⟨j, hj1, hj2, hj3, hj4⟩ := encU_pre m
  have hle := encU_le m (by omega)
  have hn1 : 1 ≤ n := by omega
  have hn10 : n ≤ 10 := by omega
  obtain rfl : j = n - 1 := by omega
  have HG := Lib.hid hg
  have HJ := Lib.hid (And.intro hn (And.intro hj2 hj3))
  clear hn hg hj1 hj2 hj3 hj4 hle
  go_enter Tryz.func76, Tryz.ntmps76
  go_wp2
  go_loopw [1, 7] (fun y i wr => ∃ k : Nat, k ≤ n ∧ i = .int .i64 k ∧ y = .int .u64 ((m : Int) / 128 ^ k) ∧ Hid (wr.heap[g]? = some (.cells (cellsB (preU m k) ++ cur.drop k).toArray 5 (0, 0))) ∧ w.grownBy wr (some g)) (fun _ i _ => n - (intOf i).toNat)
  case atStart => exact ⟨0, by omega, rfl, by simp, by simpa [preU, cellsB, Hid] using HG.out, World.grownBy.refl _ _⟩
  case round =>
    obtain ⟨k, hk, rfl, rfl, HB, hgr⟩ := hrel
    by_cases hlt : k < n
    · have hcell : ∃ old, wr.cell? ⟨g, k, none⟩ = some old := by
        rw [cell_of_row _ _ _ _ _ _ HB.out]
        exact ⟨_, Array.getElem?_eq_getElem (by simp [cellsB_length, preU_length]; omega)⟩
      obtain ⟨old, hcell⟩ := hcell
      have hfr : wr.frozen? ⟨g, k, none⟩ = false := frozen_of_row _ _ _ _ _ HB.out
      go_wp2
      go_roundw
      case rel =>
        refine ⟨k + 1, by omega, by go_num, ?_, ?_, grown_setCell hgr _⟩
        · rw [Int.pow_succ, Int.ediv_ediv_of_nonneg (Int.le_of_lt (Int.pow_pos (by decide)))]
        · have := block_setCell (k := k) HB.out (.int .u8 (bits BinOp.or IntKind.u8 ((m : Int) / 128 ^ k % 256) 128))
          rw [set_at _ _ _ k (by simp [cellsB_length, preU_length]) (by simp; omega)] at this
          refine Lib.hid (this.trans ?_)
          rw [show ((m : Int) / 128 ^ k % 256) = ((m / 128 ^ k : Nat) : Int) % 256 by push_cast; rfl, u8_or128_wrap, preU, cellsB_append, List.drop_drop]
          rfl
      case measure => simp [intOf]; omega
    · obtain rfl : k = n := by omega
      have hcell : wr.cell? ⟨g, k - 1, none⟩ = some (.int .u8 ((UInt8.ofNat (128 + m / 128 ^ (k - 1) % 128)).toNat : Int)) := by
        rw [cell_mid HB.out (by simp [cellsB_length, preU_length]; omega)]
        obtain ⟨i, rfl⟩ : ∃ i, k = i + 1 := ⟨k - 1, by omega⟩
        rw [preU, cellsB_append, List.getElem?_append_right (by simp [cellsB_length, preU_length])]
        simp [cellsB, cellB, preU_length]
      have hfr : wr.frozen? ⟨g, k - 1, none⟩ = false := frozen_of_row _ _ _ _ _ HB.out
      rw [byte_128] at hcell
      have hb : m / 128 ^ (k - 1) % 128 < 128 := Nat.mod_lt _ (by decide)
      obtain ⟨q, hq⟩ : ∃ q, q = m / 128 ^ (k - 1) % 128 := ⟨_, rfl⟩
      rw [← hq] at hcell hb
      have HQ := Lib.hid hq
      clear hq
      go_wp2
      go_end0
      refine ⟨rfl, ?_, grown_setCell hgr _⟩
      obtain ⟨i, rfl⟩ : ∃ i, k = i + 1 := ⟨k - 1, by omega⟩
      have hj := HJ.out
      have hq := HQ.out
      simp only [Nat.add_sub_cancel] at hj hq ⊢
      have hB := HB.out
      rw [preU, cellsB_append, List.append_assoc] at hB
      have := block_setCell (k := i) hB (.int .u8 (128 + (q : Int) - 128))
      rw [set_at _ _ _ i (by simp [cellsB_length, preU_length]) (by simp [cellsB])] at this
      refine this.trans ?_
      rw [hj.2.2, cellsB_append]
      have e : cellB (UInt8.ofNat (m / 128 ^ i)) = .int .u8 (128 + (q : Int) - 128) := by
        have hz := hj.2.1
        rw [cellB, UInt8.toNat_ofNat']
        clear hB this hj hcell HB HJ HQ
        generalize m / 128 ^ i = z at *
        congr 1
        omega
      simp [cellsB, e]

set_option maxHeartbeats 400000 in
theorem wire_Uint (x : Int) (h0 : 0 ≤ x) (h1 : x ≤ 18446744073709551615) (w : World) :
    Calls Tryz.prog 54 #[.int .u64 x] w (RetB w (encU x.toNat)) := by
  have hle := encU_le x.toNat (by omega)
  have hmk := make_bytes ((encU x.toNat).length : Nat) (by omega) (by omega)
  simp only [Int.toNat_natCast] at hmk
  go_enter Tryz.func54, Tryz.ntmps54
  go_wp2_with (go_at_call 75; refine (wire_Size _ h0 h1 _).mono ?_; rintro e w' ⟨rfl, rfl⟩)
  refine (wire_putUint x h0 h1 w.heap.size _ _ (cellsB (List.replicate (encU x.toNat).length 0)) _ rfl (by simp [cellsB_length]) ?_).mono ?_
  · exact heap_alloc_new w _
  rintro e w' ⟨rfl, hB, hgr⟩
  have HB := Lib.hid hB
  clear hB
  go_wp2
  go_ret
  refine ⟨_, rfl, own_of_block (Nat.le_refl _) HB.out rfl (Nat.le_refl _) (by unfold maxLen; omega) (by simp [cellsB_length]) (List.take_left' (cellsB_length _)), ?_⟩
  exact ((Below.refl _ _).alloc (Nat.le_refl _) _).grown hgr (by simp) (by simp)

/-- The bytes of bytes: how many they are, and they. -/
def encB (l : List UInt8) : List UInt8 := encU l.length ++ l

theorem splice_head (l m : List UInt8) (n : Nat) (hn : n = l.length) : splice (l ++ List.replicate m.length 0) n m = l ++ m := by
  subst hn
  unfold splice
  rw [List.take_left' rfl, List.drop_of_length_le (by simp)]
  simp

theorem encB_length (l : List UInt8) : (encB l).length = (encU l.length).length + l.length := by simp [encB]

set_option maxHeartbeats 400000 in
/-- Bytes: the two ways, with none and with some, alike. -/
theorem wire_Bytes (v : Value) (l : List UInt8) (w : World) (h : Rd w v l) :
    Calls Tryz.prog 55 #[v] w (RetB w (encB l)) := by
  have hsm := h.small
  have hle := encU_le l.length (by omega)
  obtain ⟨hd, hhd⟩ : ∃ hd, hd = (encU l.length).length := ⟨_, rfl⟩
  have hmk := make_bytes ((hd : Int) + (l.length : Int)) (by omega) (by omega)
  rw [show ((hd : Int) + (l.length : Int)).toNat = hd + l.length by omega] at hmk
  have HH := Lib.hid hhd
  rw [← hhd] at hle
  have hlen := h.len
  clear hhd
  obtain ⟨dp, hsl, hdp, _⟩ := slice_from (some ⟨w.heap.size, 0, none⟩) (hd + l.length) (hd + l.length) hd (by omega) (Nat.le_refl _)
  rw [Nat.add_sub_cancel_left] at hsl
  have HD := Lib.hid hdp
  clear hdp
  go_enter Tryz.func55, Tryz.ntmps55
  go_wp2_with (go_at_call 75; refine (wire_Size _ (by omega) (by omega) _).mono ?_; rintro e w' ⟨rfl, rfl⟩; rw [Int.toNat_natCast, ← HH.out])
  refine (wire_putUint _ (by omega) (by omega) w.heap.size _ _ (cellsB (List.replicate (hd + l.length) 0)) _ (by rw [Int.toNat_natCast]; exact HH.out) (by simp [cellsB_length]) (heap_alloc_new w _)).mono ?_
  rintro e w1 ⟨rfl, hB, hgr⟩
  rw [Int.toNat_natCast] at hB
  have hbel : Below w.heap.size w w1 := ((Below.refl _ _).alloc (Nat.le_refl _) _).grown hgr (by simp) (by simp)
  have hB' : w1.heap[w.heap.size]? = some (.cells (cellsB (encU l.length ++ List.replicate l.length 0)).toArray 5 (0, 0)) := by
    rw [hB, cellsB_append]
    simp [cellsB]
  have HB := Lib.hid hB'
  have h1 := h.later hbel (Nat.le_refl _)
  clear hB hB' hgr hmk
  go_wp2_with ((with_reducible refine wpl_copy dp l.length l.length ?hd v l ?hs h1 ?hn w.heap.size hd _ HB.out ?hdp ?hfit w.heap.size w hbel (Nat.le_refl _) ?_))
  case hd => rfl
  case hs => rfl
  case hn => exact Nat.le_refl _
  case hdp => intro hp; have := HD.out w.heap.size 0 rfl (by omega); rwa [Nat.zero_add] at this
  case hfit => have := HH.out; simp; omega
  intro w2 HG2 hb2
  rw [splice_head _ _ _ HH.out] at HG2
  go_wp2
  go_ret
  have hlen : (encB l).length = hd + l.length := by rw [encB_length, HH.out]
  exact ⟨_, rfl, own_of_block (Nat.le_refl _) HG2.out hlen.symm (Nat.le_refl _) (by unfold maxLen; omega) (by rw [cellsB_length]; exact hlen) (List.take_of_length_le (by rw [cellsB_length]; exact Nat.le_of_eq hlen)), hb2⟩

end Go.Proofs.YtokpphhmmcoeaaaGreatDoor


/-
  The walks of layer 1's functions: what each call answers, of the program and of the document's own answers.
-/
namespace Go.Proofs.YtokpphhmmcoeaaaGreatDoor
open Go.RowKit

end Go.Proofs.YtokpphhmmcoeaaaGreatDoor


/-
  The walks of layer 1's functions that get: GetInt, GetBytes.
-/
namespace Go.Proofs.YtokpphhmmcoeaaaGreatDoor
open Go.RowKit

theorem getU_err (l : List UInt8) : (getU l).2.2 ≠ 0 → (getU l).1 = 0 ∧ (getU l).2.1 = 0 := by
  intro h
  unfold getU at h ⊢
  simp only at h ⊢
  by_cases h1 : leadU 10 l = 10
  · simp [h1]
  · by_cases h2 : leadU 10 l = l.length
    · simp [h2]; split <;> simp
    · by_cases h3 : 2 ^ 64 ≤ valU (l.take (leadU 10 l + 1))
      · simp only [if_neg h1, if_neg h2, if_pos h3]; simp
      · by_cases h4 : 0 < leadU 10 l ∧ at8 l (leadU 10 l) = 0
        · simp only [if_neg h1, if_neg h2, if_neg h3, if_pos h4]; simp
        · simp only [if_neg h1, if_neg h2, if_neg h3, if_neg h4] at h; simp at h

theorem getU_good (l : List UInt8) : (getU l).2.2 = 0 → (getU l).1 < 2 ^ 64 ∧ 1 ≤ (getU l).2.1 ∧ (getU l).2.1 ≤ l.length ∧ (getU l).2.1 ≤ 10 := by
  intro h
  have hle := leadU_le 10 l
  unfold getU at h ⊢
  simp only at h ⊢
  by_cases h1 : leadU 10 l = 10
  · simp [h1] at h
  · by_cases h2 : leadU 10 l = l.length
    · simp only [if_neg h1, if_pos h2] at h; simp at h
    · by_cases h3 : 2 ^ 64 ≤ valU (l.take (leadU 10 l + 1))
      · simp only [if_neg h1, if_neg h2, if_pos h3] at h; simp at h
      · by_cases h4 : 0 < leadU 10 l ∧ at8 l (leadU 10 l) = 0
        · simp only [if_neg h1, if_neg h2, if_neg h3, if_pos h4] at h; simp at h
        · simp only [if_neg h1, if_neg h2, if_neg h3, if_neg h4]; omega

theorem getU_codes (l : List UInt8) : (getU l).2.2 ≤ 7 := by
  unfold getU; simp only; split
  · simp
  · split
    · simp
    · split
      · simp
      · split <;> simp

/-- The bytes that bytes begin with, how many all have, and why there are none. -/
def getB (l : List UInt8) (most : Int) : List UInt8 × Nat × Nat :=
  if (getU l).2.2 ≠ 0 then ([], 0, (getU l).2.2)
  else if most < 0 ∨ most < (getU l).1 then ([], 0, 13)
  else if l.length - (getU l).2.1 < (getU l).1 then ([], 0, 5)
  else ((l.drop (getU l).2.1).take (getU l).1, (getU l).2.1 + (getU l).1, 0)

/-- What a call that makes bytes, and tells two numbers, answers. -/
def RetB3 (w : World) (r : List UInt8 × Nat × Nat) (e : Ending) (w' : World) : Prop :=
  ∃ v, e = .returned (.tuple #[v, .int .i64 (r.2.1 : Nat), .int .i64 (r.2.2 : Nat)]) ∧ Own w' w.heap.size v r.1 ∧ Below w.heap.size w w'

theorem RetB3.none {w : World} {r : List UInt8 × Nat × Nat} {k : Nat} {y : Int} (h : r = ([], 0, k)) (hy : y = k) : RetB3 w r (.returned (.tuple #[.slice none 0 0, .int .i64 0, .int .i64 y])) w := by
  subst h; subst hy
  exact ⟨_, rfl, own_nil w _, Below.refl _ _⟩

theorem RetB3.own {w w' : World} {r : List UInt8 × Nat × Nat} {l : List UInt8} {n k : Nat} {v : Value} {x y : Int} (h : r = (l, n, k)) (ho : Own w' w.heap.size v l) (hb : Below w.heap.size w w') (hx : x = (n : Nat)) (hy : y = (k : Nat)) :
    RetB3 w r (.returned (.tuple #[v, .int .i64 x, .int .i64 y])) w' := by
  subst h hx hy
  exact ⟨_, rfl, ho, hb⟩

end Go.Proofs.YtokpphhmmcoeaaaGreatDoor


/-
  What the document says of a schema, in lists: faults, bytes, texts (no program in it).
-/
namespace Go.Proofs.YtokpphhmmcoeaaaGreatDoor
open Go.RowKit

/-- A column: its name's bytes, its kind. -/
abbrev Col := List UInt8 × Int
def names (cs : List Col) : List (List UInt8) := cs.map (·.1)

def letterB (c : Nat) : Bool := decide (97 ≤ c ∧ c ≤ 122 ∨ 48 ≤ c ∧ c ≤ 57 ∨ c = 95)
/-- A name that may be, behind some others. -/
def fine (n : List UInt8) (ahead : List (List UInt8)) : Bool := !n.isEmpty && (n.all (fun c => letterB c.toNat) && !ahead.contains n)

def colErr (ah : List (List UInt8)) (c : Col) : Nat := if 32 < c.1.length then 7 else if fine c.1 ah = false then 2 else if c.2 < 0 ∨ 5 < c.2 then 10 else 0
def errFrom : List (List UInt8) → List Col → Nat
  | _, [] => 0
  | ah, c :: r => if colErr ah c ≠ 0 then colErr ah c else errFrom (ah ++ [c.1]) r
/-- What is wrong with a schema. -/
def errS (cs : List Col) : Nat := if cs.length = 0 then 4 else if 8 < cs.length then 13 else errFrom [] cs

theorem drop_cons {α : Type} {l : List α} {k : Nat} (h : k < l.length) (d : α) : l.drop k = l.getD k d :: l.drop (k + 1) := by
  rw [List.drop_eq_getElem_cons h]; simp [List.getD, h]
theorem errFrom_step {cs : List Col} {k : Nat} (h : k < cs.length) : errFrom (names (cs.take k)) (cs.drop k) = if colErr (names (cs.take k)) (cs.getD k default) ≠ 0 then colErr (names (cs.take k)) (cs.getD k default) else errFrom (names (cs.take (k + 1))) (cs.drop (k + 1)) := by
  rw [drop_cons h default, errFrom, take_succD h default]
  simp [names]

theorem colErr_zero {ah : List (List UInt8)} {c : Col} (h : colErr ah c = 0) : c.1.length ≤ 32 ∧ fine c.1 ah = true ∧ 0 ≤ c.2 ∧ c.2 ≤ 5 := by
  unfold colErr at h
  split at h
  · cases h
  · split at h
    · cases h
    · split at h
      · cases h
      · rename_i h1 h2 h3
        exact ⟨by omega, by simpa using h2, by omega, by omega⟩
theorem errFrom_zero : ∀ (cs : List Col) (ah : List (List UInt8)), errFrom ah cs = 0 → ∀ c ∈ cs, c.1.length ≤ 32 ∧ 0 ≤ c.2 ∧ c.2 ≤ 5
  | [], _, _, c, hc => absurd hc (by simp)
  | x :: r, ah, h, c, hc => by
    rw [errFrom] at h
    split at h
    · rename_i h1; exact absurd h h1
    · rename_i h1
      have h0 : colErr ah x = 0 := Decidable.of_not_not h1
      obtain ⟨a1, _, a3, a4⟩ := colErr_zero h0
      rcases List.mem_cons.1 hc with rfl | hc
      · exact ⟨a1, a3, a4⟩
      · exact errFrom_zero r _ h c hc
theorem errS_zero {cs : List Col} (h : errS cs = 0) : 0 < cs.length ∧ cs.length ≤ 8 ∧ errFrom [] cs = 0 ∧ ∀ c ∈ cs, c.1.length ≤ 32 ∧ 0 ≤ c.2 ∧ c.2 ≤ 5 := by
  unfold errS at h
  split at h
  · cases h
  · split at h
    · cases h
    · exact ⟨by omega, by omega, h, errFrom_zero cs [] h⟩
theorem colErr_codes (ah : List (List UInt8)) (c : Col) : colErr ah c ≤ 10 := by
  unfold colErr
  split
  · omega
  · split
    · omega
    · split <;> omega
theorem errFrom_codes : ∀ (cs : List Col) (ah : List (List UInt8)), errFrom ah cs ≤ 10
  | [], _ => by rw [errFrom]; omega
  | c :: r, ah => by
    rw [errFrom]
    split
    · exact colErr_codes _ _
    · exact errFrom_codes r _
theorem errS_codes (cs : List Col) : errS cs ≤ 13 := by
  unfold errS
  split
  · omega
  · split
    · omega
    · have := errFrom_codes cs []; omega

/-- A column's bytes; a schema's. -/
def wrCol (c : Col) : List UInt8 := encB c.1 ++ [UInt8.ofNat c.2.toNat]
def wrCols (cs : List Col) : List UInt8 := cs.flatMap wrCol
def wrS (cs : List Col) : List UInt8 := encU cs.length ++ wrCols cs
theorem wrCols_succ {cs : List Col} {k : Nat} (h : k < cs.length) : wrCols (cs.take (k + 1)) = (wrCols (cs.take k) ++ encB (cs.getD k default).1) ++ [UInt8.ofNat (cs.getD k default).2.toNat] := by
  rw [take_succD h default]
  simp [wrCols, wrCol]

/-- The kinds' names. -/
def kindNames : List (List UInt8) := [[105, 110, 116], [117, 105, 110, 116], [98, 111, 111, 108], [98, 121, 116, 101, 115], [116, 101, 120, 116], [102, 108, 111, 97, 116]]
def txCol (c : Col) : List UInt8 := c.1 ++ [58] ++ kindNames.getD c.2.toNat []
def txS (cs : List Col) : List UInt8 := Lib.join (cs.map txCol) [44]
theorem join_snoc (l : List (List UInt8)) (x sep : List UInt8) : Lib.join (l ++ [x]) sep = if l = [] then x else Lib.join l sep ++ sep ++ x := by
  cases l with
  | nil => rw [if_pos rfl, List.nil_append, Lib.join_one]
  | cons y r =>
    rw [if_neg (by simp), List.cons_append, Lib.join_cons, Lib.join_cons]
    simp [Lib.joinTail]

end Go.Proofs.YtokpphhmmcoeaaaGreatDoor


/-
  The names that were: a map from strings to bools that the call has made, held by a closure.
-/
namespace Go.Proofs.YtokpphhmmcoeaaaGreatDoor
open Go.RowKit Go.Maps

theorem keyedS : Keyed Tryz.prog 9 := string_keyed Tryz.underlying9
theorem zeroBool (w : World) : (zeroValue 4).run Tryz.prog w = .ok (.bool false) w := by kernel_rfl

/-- The map in block m holds just these names. -/
def SetOf (w : World) (m : Nat) (ahead : List (List UInt8)) : Prop :=
  ∃ D : DataW Unit, w.ownsMap Tryz.prog 9 (plainElem Tryz.prog 4) m ahead.length D ∧ ∀ l, D.atKey (.string l) (.lit (.bool false)) = .lit (.bool (ahead.contains l))

theorem SetOf.lt {w : World} {m : Nat} {a : List (List UInt8)} (h : SetOf w m a) : m < w.heap.size := by obtain ⟨D, h, _⟩ := h; exact h.lt
theorem SetOf.made (w : World) : SetOf (w.alloc (.map #[] 0)) w.heap.size [] :=
  ⟨.map [], World.ownsMap_made w _ _ _, fun l => by simp [DataW.atKey]⟩
theorem SetOf.kept {w w' : World} {m : Nat} {a : List (List UInt8)} {r : Option Nat} (h : SetOf w m a) (hg : w.grownBy w' r) (hne : some m ≠ r) : SetOf w' m a := by
  obtain ⟨D, h1, h2⟩ := h
  exact ⟨D, h1.kept hg hne, h2⟩
theorem SetOf.later {w w' : World} {m : Nat} {a : List (List UInt8)} {B : Nat} (h : SetOf w m a) (hb : Below B w w') (hB : w.heap.size ≤ B) : SetOf w' m a :=
  h.kept (r := none) ⟨hb.os, hb.tape, hb.output, hb.size, fun j hj _ => hb.block j (Nat.lt_of_lt_of_le hj hB)⟩ (by simp)
theorem SetOf.alloc {w : World} {m : Nat} {a : List (List UInt8)} (h : SetOf w m a) (o : Obj) : SetOf (w.alloc o) m a := by
  obtain ⟨D, h1, h2⟩ := h
  exact ⟨D, h1.alloc o, h2⟩
theorem SetOf.drew {w : World} {m : Nat} {a : List (List UInt8)} (h : SetOf w m a) : SetOf w.drew m a := by
  obtain ⟨D, h1, h2⟩ := h
  exact ⟨D, h1.drew, h2⟩

/-- An element that reads as a bool's datum is that bool. -/
theorem plainElem_bool_inv {P : Program} {e : TypeId} (he : P.underlying e = some .bool) {v : Value} {z : DataW Unit × List MemPlace} (h : plainElem P e v = some z) : ∃ x, v = .bool x ∧ z = (.lit (.bool x), []) := by
  unfold plainElem at h
  rw [he] at h
  split at h
  · rename_i x h1
    exact ⟨x, rfl, by cases h; rfl⟩
  · cases ‹some TypeDesc.bool = some (TypeDesc.int _)›
  · cases ‹some TypeDesc.bool = some TypeDesc.string›
  · cases h

/-- 'were[name]'. -/
theorem SetOf.look {w : World} {m : Nat} {a : List (List UInt8)} (h : SetOf w m a) (s : ByteArray) (hs : s.size ≤ maxLen) :
    (Instr.lookup 158 (.map (some m)) (.string s) false).run Tryz.prog w = .ok (.bool (a.contains s.data.toList)) w := by
  obtain ⟨D, h1, h2⟩ := h
  obtain ⟨v, ps, hr, hv⟩ := h1.lookup keyedS Tryz.underlying158 (zeroBool w) (plainElem_bool Tryz.underlying4 false) (WideMaps.keyOf_string_mk Tryz.underlying9 hs)
  obtain ⟨x, rfl, hx⟩ := plainElem_bool_inv Tryz.underlying4 hv
  simp only [Prod.mk.injEq] at hx
  rw [h2] at hx
  have e : a.contains s.data.toList = x := by simpa using hx.1
  rw [hr, e]

/-- 'were[name] = true'. -/
theorem wpl_setName {ops : Array Oper} {Q : Exit → Act → World → Prop} {rest : List Oper} {a : Act} {w : World} {dst : Option Tmp} {ty : TypeId} {pos : String} {aft : Array Edge} {mo x v : Operand}
    (m : Nat) (ah : List (List UInt8)) (h : SetOf w m ah) (hm : a.eval mo = .map (some m)) (s : ByteArray) (hs : s.size ≤ maxLen) (hx : a.eval x = .string s) (hv : a.eval v = .bool true) (hn : ah.length < maxLen)
    (hK : ∀ w', SetOf w' m (ah ++ [s.data.toList]) → w.grownBy w' (some m) → wpList Tryz.prog ops Q rest (a.put dst undef) w') :
    wpList Tryz.prog ops Q (⟨dst, .mapUpdate 158 mo x v, ty, pos, aft, none⟩ :: rest) a w := by
  obtain ⟨D, h1, h2⟩ := h
  refine wpList_mapUpdate_own w rfl mo x v 158 rfl 9 4 keyedS Tryz.underlying158 (plainElem Tryz.prog 4) m ah.length D hm h1 hn (.string s) (.bool true) (.string s.data.toList) hx hv (WideMaps.keyOf_string_mk Tryz.underlying9 hs) (.lit (.bool true)) [] (plainElem_bool Tryz.underlying4 true) ?_
  intro w' r1 r2
  refine hK w' ⟨_, by rw [List.length_append]; exact r1, fun l => ?_⟩ r2
  by_cases he : l = s.data.toList
  · subst he
    rw [atKey_put_same h1.isMap (show WideAt.IsKeyLit (.string s.data.toList) from trivial)]
    simp
  · rw [atKey_put_other (fun hh => he (by injection hh)), h2]
    have e : (ah ++ [s.data.toList]).contains l = ah.contains l := by
      rw [Bool.eq_iff_iff]
      simp [he]
    rw [e]

end Go.Proofs.YtokpphhmmcoeaaaGreatDoor

