/-
  CrcTurns: what is sealed is opened; with one bit, two, or three turned anywhere it isn't. For every input.
-/
import Derived.Test.YtgikcbljkkmkgaaCrcBursts
set_option linter.unusedVariables false
set_option linter.unusedSimpArgs false
set_option maxRecDepth 1000000
namespace Go.Proofs.Ytgikcbljkkmkgaa
open Go.RowKit

/-- All these bits. -/
def orAll : List Nat → Nat
  | [] => 0
  | p :: ps => orAll ps ||| 2 ^ p

theorem or_pow (D p : Nat) : D ||| 2 ^ p = if D.testBit p then D else D ^^^ 2 ^ p := by
  apply Nat.eq_of_testBit_eq
  intro j
  rw [Nat.testBit_or, Nat.testBit_two_pow]
  by_cases h : D.testBit p = true
  · rw [if_pos h]
    by_cases hj : p = j
    · subst hj; simp [h]
    · simp [hj]
  · rw [if_neg h, Nat.testBit_xor, Nat.testBit_two_pow]
    by_cases hj : p = j
    · subst hj; simp at h; simp [h]
    · simp [hj]

theorem le_testBit : ∀ (l : List UInt8) (i : Nat), i < 8 * l.length → (Crc.le l).testBit i = (l.getD (i / 8) 0).toNat.testBit (i % 8)
  | [], i, h => by simp at h
  | b :: l, i, h => by
    have hb := b.toNat_lt
    have e2 : (256 * Crc.le l + b.toNat).testBit i = if i < 8 then b.toNat.testBit i else (Crc.le l).testBit (i - 8) := Nat.testBit_two_pow_mul_add (Crc.le l) (i := 8) hb i
    rw [Crc.le_cons, Nat.add_comm, e2]
    by_cases hi : i < 8
    · rw [if_pos hi, show i / 8 = 0 from by omega, show i % 8 = i from by omega]; rfl
    · rw [if_neg hi, le_testBit l (i - 8) (by simp only [List.length_cons] at h; omega), show i / 8 = (i - 8) / 8 + 1 from by omega, show i % 8 = (i - 8) % 8 from by omega]; rfl

/-- What the three statements do to a byte. -/
def turned (x y r : Nat) : Nat := if y / 2 ^ r % 2 = 1 then (x ||| 2 ^ r) &&& (255 - 2 ^ r) else x ||| 2 ^ r

theorem turned_eq {x y r : Nat} (hx : x < 256) (hr : r < 8) : turned x y r = if x.testBit r = y.testBit r then x ^^^ 2 ^ r else x := by
  have key : ∀ b : Bool, ∀ r : Fin 8, ∀ x : Fin 256, (if b = true then (x.val ||| 2 ^ r.val) &&& (255 - 2 ^ r.val) else x.val ||| 2 ^ r.val) = if x.val.testBit r.val = b then x.val ^^^ 2 ^ r.val else x.val := by decide +kernel
  have hy : (y / 2 ^ r % 2 = 1) ↔ (y.testBit r = true) := by
    rw [Nat.testBit_eq_decide_div_mod_eq]; simp
  have := key (y.testBit r) ⟨r, hr⟩ ⟨x, hx⟩
  unfold turned
  simp only [hy]
  exact this

/-- A place is turned in t: other than it is in s. -/
theorem turn_le {s t : List UInt8} {D p : Nat} (hl : t.length = s.length) (hp : p < 8 * s.length) (hD : Crc.le t = Crc.le s ^^^ D) :
    Crc.le (t.set (p / 8) (UInt8.ofNat (turned (t.getD (p / 8) 0).toNat (s.getD (p / 8) 0).toNat (p % 8)))) = Crc.le s ^^^ (D ||| 2 ^ p) := by
  have h1 := le_testBit t p (by omega)
  have h2 := le_testBit s p hp
  have h3 : (Crc.le t).testBit p = ((Crc.le s).testBit p ^^ D.testBit p) := by rw [hD, Nat.testBit_xor]
  rw [h1, h2] at h3
  rw [turned_eq (t.getD (p / 8) 0).toNat_lt (Nat.mod_lt _ (by decide)), h3, or_pow]
  by_cases hd : D.testBit p = true
  · have : ¬ (((s.getD (p / 8) 0).toNat.testBit (p % 8) ^^ D.testBit p) = (s.getD (p / 8) 0).toNat.testBit (p % 8)) := by
      rw [hd]; cases (s.getD (p / 8) 0).toNat.testBit (p % 8) <;> simp
    rw [if_neg this, if_pos hd, UInt8.ofNat_toNat]
    have : t.set (p / 8) (t.getD (p / 8) 0) = t := by
      have hq : p / 8 < t.length := by omega
      rw [List.getD, List.getElem?_eq_getElem hq]; simp
    rw [this, hD]
  · have hd' : D.testBit p = false := by simpa using hd
    have : (((s.getD (p / 8) 0).toNat.testBit (p % 8) ^^ D.testBit p) = (s.getD (p / 8) 0).toNat.testBit (p % 8)) := by
      rw [hd']; simp
    rw [if_pos this, if_neg hd]
    have := Crc.le_flip t p (by omega)
    unfold Crc.flip at this
    rw [this, hD, Nat.xor_assoc]

theorem three_or {N x y z : Nat} (hx : x < N) (hy : y < N) (hz : z < N) (hN : N ≤ 65536) : Crc.pow N (orAll [z, y, x]) ≠ 0 := by
  have t1 : (2 ^ x).testBit y = decide (x = y) := Nat.testBit_two_pow
  simp only [orAll]
  rw [Nat.zero_or, or_pow (2 ^ x) y, t1]
  by_cases h1 : x = y
  · subst h1
    simp only [decide_true, if_true]
    rw [or_pow, Nat.testBit_two_pow]
    by_cases h2 : x = z
    · subst h2
      simp only [decide_true, if_true]
      rw [Crc.pow_one (by omega)]
      exact Crc.bit_ne
    · simp only [h2, decide_false, Bool.false_eq_true, if_false]
      exact Crc.two_bits hx hz hN h2
  · simp only [h1, decide_false, Bool.false_eq_true, if_false]
    rw [or_pow, Nat.testBit_xor, Nat.testBit_two_pow, Nat.testBit_two_pow]
    by_cases h2 : x = z
    · subst h2
      have h3 : ¬ y = x := fun h => h1 h.symm
      simp only [h3, decide_true, decide_false, Bool.xor_false, if_true]
      exact Crc.two_bits hx hy hN h1
    · by_cases h3 : y = z
      · subst h3
        simp only [h1, decide_true, decide_false, Bool.false_xor, if_true]
        exact Crc.two_bits hx hy hN h1
      · simp only [h2, h3, decide_false, Bool.false_xor, Bool.false_eq_true, if_false]
        exact Crc.three_bits hx hy hz

theorem openA_seal (l : List UInt8) : openA (l ++ Crc.put (Crc.sum l)) = (l, true) := by
  unfold openA
  rw [if_pos (Crc.good_seal l)]
  have hl : (l ++ Crc.put (Crc.sum l)).length - 4 = l.length := by simp [Crc.put_length]
  rw [hl]; simp

theorem pow_mod (i : Nat) : ((2 : Int) ^ (i % 8)) % 256 = ((2 ^ (i % 8) : Nat) : Int) ∧ 2 ^ (i % 8) < 256 := by
  have h2 : 2 ^ (i % 8) < 256 := Nat.pow_lt_pow_right (a := 2) (n := 8) (by decide) (Nat.mod_lt _ (by decide))
  have e0 : ((2 : Int) ^ (i % 8)) = ((2 ^ (i % 8) : Nat) : Int) := (Int.natCast_pow 2 (i % 8)).symm
  refine ⟨?_, h2⟩
  rw [e0]
  generalize 2 ^ (i % 8) = z at h2 ⊢
  omega
theorem or_bit (t : List UInt8) (i : Nat) : (Value.int .u8 (bits .or .u8 (at8 t (i / 8)) (2 ^ (i % 8) % 256))) = cellB (UInt8.ofNat ((t.getD (i / 8) 0).toNat ||| 2 ^ (i % 8))) := by
  unfold cellB at8
  have hb := (t.getD (i / 8) 0).toNat_lt
  obtain ⟨e, h2⟩ := pow_mod i
  have hx : (t.getD (i / 8) 0).toNat ||| 2 ^ (i % 8) < 256 := Nat.or_lt_two_pow (n := 8) hb h2
  have h := u8_or_nat _ _ hb h2
  rw [e, h, UInt8.toNat_ofNat', Nat.mod_eq_of_lt hx]
theorem not_bit (z i : Nat) (hz : z < 256) : (Value.int .u8 (bits .andNot .u8 (z : Int) (2 ^ (i % 8) % 256))) = cellB (UInt8.ofNat (z &&& (255 - 2 ^ (i % 8)))) := by
  unfold cellB
  obtain ⟨e, h2⟩ := pow_mod i
  have h := u8_andNot_nat z _ hz h2
  have hx : z &&& (255 - 2 ^ (i % 8)) < 256 := Nat.lt_of_le_of_lt Nat.and_le_left hz
  rw [e, h, UInt8.toNat_ofNat', Nat.mod_eq_of_lt hx]
theorem bit_and8 (s : List UInt8) (i : Nat) : bits .and .u8 (at8 s (i / 8) / 2 ^ (i % 8)) 1 = (((s.getD (i / 8) 0).toNat / 2 ^ (i % 8) % 2 : Nat) : Int) := by
  unfold at8
  have hb := (s.getD (i / 8) 0).toNat_lt
  have h := u8_and_nat ((s.getD (i / 8) 0).toNat / 2 ^ (i % 8)) 1 (Nat.lt_of_le_of_lt (Nat.div_le_self _ _) hb) (by decide)
  rw [nat_mask1] at h
  rw [← h]
  congr 1

theorem at8_set {t : List UInt8} {i : Nat} (h : i < t.length) (b : UInt8) : at8 (t.set i b) i = (b.toNat : Int) := by
  unfold at8; simp [List.getD, h]

end Go.Proofs.Ytgikcbljkkmkgaa
