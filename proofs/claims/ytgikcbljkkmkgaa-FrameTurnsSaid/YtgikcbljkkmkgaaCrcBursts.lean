/-
  CrcBursts: with bits turned within 32 that follow each other, in the sum's bytes, too, it isn't opened. For every input.
-/
import Derived.Test.YtgikcbljkkmkgaaCrcWalks
import Derived.RegionTactic
import Derived.BigRegion
set_option linter.unusedVariables false
set_option linter.unusedSimpArgs false
set_option maxRecDepth 1000000
namespace Go.Proofs.Ytgikcbljkkmkgaa
open Go.RowKit

theorem openA_bad {l : List UInt8} (h : ¬ Crc.good l) : openA l = ([], false) := if_neg h

/-- A place that is told by any number. -/
theorem place_of (a M : Int) (h0 : 0 < M) (h1 : M ≤ 1000000) : ∃ p : Nat, wrap64 ((IntKind.u64.wrap a).tmod M) = (p : Int) ∧ (p : Int) < M := by
  have e : IntKind.u64.wrap a = a % 18446744073709551616 := by simp [IntKind.wrap, IntKind.bits, IntKind.signed]
  have hx := Int.emod_nonneg a (b := 18446744073709551616) (by omega)
  rw [e, Int.tmod_eq_emod_of_nonneg hx]
  have hy := Int.emod_nonneg (a % 18446744073709551616) (b := M) (by omega)
  have hz := Int.emod_lt_of_pos (a % 18446744073709551616) h0
  refine ⟨(a % 18446744073709551616 % M).toNat, ?_, by omega⟩
  rw [show wrap64 (a % 18446744073709551616 % M) = a % 18446744073709551616 % M from by unfold wrap64; omega]
  omega

theorem bit_and {y : Nat} (hy : y < 4294967296) (k : Nat) : bits .and .u32 ((y : Int) / 2 ^ k) 1 = ((y / 2 ^ k % 2 : Nat) : Int) := by
  have h := u32_and_nat (y / 2 ^ k) 1 (Nat.lt_of_le_of_lt (Nat.div_le_self _ _) hy) (by decide)
  rw [nat_mask1] at h
  rw [← h]
  congr 1

theorem mod_next_no (y k : Nat) (h : y / 2 ^ k % 2 = 0) : y % 2 ^ (k + 1) = y % 2 ^ k := by
  rw [Nat.mod_pow_succ, h]; simp

theorem xor_add_pow {a k : Nat} (h : a < 2 ^ k) : a ^^^ 2 ^ k = a + 2 ^ k := by
  apply Nat.eq_of_testBit_eq
  intro j
  have e2 : (2 ^ k * 1 + a).testBit j = if j < k then a.testBit j else (1 : Nat).testBit (j - k) := Nat.testBit_two_pow_mul_add 1 h j
  rw [Nat.mul_one] at e2
  rw [Nat.testBit_xor, Nat.add_comm a, e2, Nat.testBit_two_pow]
  by_cases hj : j < k
  · have : ¬ k = j := by omega
    simp [hj, this]
  · have ha : a.testBit j = false := Nat.testBit_lt_two_pow (Nat.lt_of_lt_of_le h (Nat.pow_le_pow_right (by decide : 0 < 2) (by omega)))
    by_cases hk : k = j
    · subst hk; simp [ha]
    · obtain ⟨m, hm⟩ : ∃ m, j - k = m + 1 := ⟨j - k - 1, by omega⟩
      simp [hj, ha, hk, hm, Nat.testBit_succ]
theorem mod_next_yes (y k : Nat) (h : y / 2 ^ k % 2 = 1) : y % 2 ^ (k + 1) = y % 2 ^ k ^^^ 2 ^ k := by
  rw [Nat.mod_pow_succ, h, xor_add_pow (Nat.mod_lt _ (Nat.two_pow_pos k))]; simp
theorem mul_xor_pow (p a b : Nat) : 2 ^ p * (a ^^^ b) = 2 ^ p * a ^^^ 2 ^ p * b := by
  apply Nat.eq_of_testBit_eq
  intro i
  rw [Nat.testBit_xor, Nat.testBit_two_pow_mul, Nat.testBit_two_pow_mul, Nat.testBit_two_pow_mul, Nat.testBit_xor]
  cases decide (i ≥ p) <;> simp
theorem xor_bit (t : List UInt8) (i : Nat) : (Value.int .u8 (bits .xor .u8 (at8 t (i / 8)) (2 ^ (i % 8) % 256))) = cellB (UInt8.ofNat ((t.getD (i / 8) 0).toNat ^^^ 2 ^ (i % 8))) := by
  unfold cellB at8
  have hb := (t.getD (i / 8) 0).toNat_lt
  have h2 : 2 ^ (i % 8) < 256 := Nat.pow_lt_pow_right (a := 2) (n := 8) (by decide) (Nat.mod_lt _ (by decide))
  have hx : (t.getD (i / 8) 0).toNat ^^^ 2 ^ (i % 8) < 256 := Nat.xor_lt_two_pow (n := 8) hb h2
  have h := u8_xor_nat _ _ hb h2
  have e0 : ((2 : Int) ^ (i % 8)) = ((2 ^ (i % 8) : Nat) : Int) := (Int.natCast_pow 2 (i % 8)).symm
  have e : ((2 : Int) ^ (i % 8)) % 256 = ((2 ^ (i % 8) : Nat) : Int) := by
    rw [e0]
    generalize 2 ^ (i % 8) = z at h2 ⊢
    omega
  rw [e, h, UInt8.toNat_ofNat', Nat.mod_eq_of_lt hx]

end Go.Proofs.Ytgikcbljkkmkgaa
