/-
  CrcBursts: with bits turned within 32 that follow each other, in the sum's bytes, too, it isn't opened. For every input.
-/
import Derived.Test.YtagpcplmcagihaaCrcWalks
import Derived.RegionTactic
import Derived.BigRegion
set_option linter.unusedVariables false
set_option linter.unusedSimpArgs false
namespace Go.Proofs.Ytagpcplmcagihaa
open Go.RowKit

theorem openA_bad {l : List UInt8} (h : ¬ Crc.good l) : openA l = ([], false) := if_neg h

/-- A place that is told by any number. -/
theorem place_of (a M : Int) (h0 : 0 < M) (h1 : M ≤ 1000000) : ∃ p : Nat, wrap64 ((IntKind.u64.wrap a).tmod M) = (p : Int) ∧ (p : Int) < M := by
  have e : IntKind.u64.wrap a = a % 18446744073709551616 := by simp [IntKind.wrap, IntKind.bits, IntKind.signed]
  have hx := Int.emod_nonneg a (b := 18446744073709551616) (by omega)
  rw [e, Int.tmod_eq_emod_of_nonneg hx]
  have hy := Int.emod_nonneg (a % 18446744073709551616) (b := M) (by omega)
  have hz := Int.emod_lt_of_pos (a % 18446744073709551616) h0
  refine ⟨(a % 18446744073709551616 % M).toNat, ?_, by omega⟩
  rw [show wrap64 (a % 18446744073709551616 % M) = a % 18446744073709551616 % M from by unfold wrap64; omega]
  omega

theorem bit_and {y : Nat} (hy : y < 4294967296) (k : Nat) : bits .and .u32 ((y : Int) / 2 ^ k) 1 = ((y / 2 ^ k % 2 : Nat) : Int) := by
  have h := u32_and_nat (y / 2 ^ k) 1 (Nat.lt_of_le_of_lt (Nat.div_le_self _ _) hy) (by decide)
  rw [nat_mask1] at h
  rw [← h]
  congr 1

theorem mod_next_no (y k : Nat) (h : y / 2 ^ k % 2 = 0) : y % 2 ^ (k + 1) = y % 2 ^ k := by
  rw [Nat.mod_pow_succ, h]; simp

theorem xor_add_pow {a k : Nat} (h : a < 2 ^ k) : a ^^^ 2 ^ k = a + 2 ^ k := by
  apply Nat.eq_of_testBit_eq
  intro j
  have e2 : (2 ^ k * 1 + a).testBit j = if j < k then a.testBit j else (1 : Nat).testBit (j - k) := Nat.testBit_two_pow_mul_add 1 h j
  rw [Nat.mul_one] at e2
  rw [Nat.testBit_xor, Nat.add_comm a, e2, Nat.testBit_two_pow]
  by_cases hj : j < k
  · have : ¬ k = j := by omega
    simp [hj, this]
  · have ha : a.testBit j = false := Nat.testBit_lt_two_pow (Nat.lt_of_lt_of_le h (Nat.pow_le_pow_right (by decide : 0 < 2) (by omega)))
    by_cases hk : k = j
    · subst hk; simp [ha]
    · obtain ⟨m, hm⟩ : ∃ m, j - k = m + 1 := ⟨j - k - 1, by omega⟩
      simp [hj, ha, hk, hm, Nat.testBit_succ]
theorem mod_next_yes (y k : Nat) (h : y / 2 ^ k % 2 = 1) : y % 2 ^ (k + 1) = y % 2 ^ k ^^^ 2 ^ k := by
  rw [Nat.mod_pow_succ, h, xor_add_pow (Nat.mod_lt _ (Nat.two_pow_pos k))]; simp
theorem mul_xor_pow (p a b : Nat) : 2 ^ p * (a ^^^ b) = 2 ^ p * a ^^^ 2 ^ p * b := by
  apply Nat.eq_of_testBit_eq
  intro i
  rw [Nat.testBit_xor, Nat.testBit_two_pow_mul, Nat.testBit_two_pow_mul, Nat.testBit_two_pow_mul, Nat.testBit_xor]
  cases decide (i ≥ p) <;> simp
theorem xor_bit (t : List UInt8) (i : Nat) : (Value.int .u8 (bits .xor .u8 (at8 t (i / 8)) (2 ^ (i % 8) % 256))) = cellB (UInt8.ofNat ((t.getD (i / 8) 0).toNat ^^^ 2 ^ (i % 8))) := by
  unfold cellB at8
  have hb := (t.getD (i / 8) 0).toNat_lt
  have h2 : 2 ^ (i % 8) < 256 := Nat.pow_lt_pow_right (a := 2) (n := 8) (by decide) (Nat.mod_lt _ (by decide))
  have hx : (t.getD (i / 8) 0).toNat ^^^ 2 ^ (i % 8) < 256 := Nat.xor_lt_two_pow (n := 8) hb h2
  have h := u8_xor_nat _ _ hb h2
  have e0 : ((2 : Int) ^ (i % 8)) = ((2 ^ (i % 8) : Nat) : Int) := (Int.natCast_pow 2 (i % 8)).symm
  have e : ((2 : Int) ^ (i % 8)) % 256 = ((2 ^ (i % 8) : Nat) : Int) := by
    rw [e0]
    generalize 2 ^ (i % 8) = z at h2 ⊢
    omega
  rw [e, h, UInt8.toNat_ofNat', Nat.mod_eq_of_lt hx]

set_option maxHeartbeats 8000000 in
set_option maxRecDepth 20000 in
theorem crcBursts_walk (v : Value) (l : List UInt8) (a b : Int) (w : World) (h : Rd w v l) (ha : -9223372036854775808 ≤ a ∧ a ≤ 9223372036854775807) (hb : 0 ≤ b ∧ b ≤ 4294967295) :
    Calls Try.prog 6 #[v, .int .i64 a, .int .u32 b] w fun e w' => e = .returned (.bool true) ∧ Below w.heap.size w w' := by
  obtain ⟨y, rfl⟩ := Int.eq_ofNat_of_zero_le hb.1
  have hy : y < 4294967296 := by omega
  have hlen := h.len
  have hsm := h.small
  clear hb
  go_enter Try.func6, Try.ntmps6
  go_wp2_with fail
  refine (crc_Seal v l w h).mono ?_
  rintro e w1 ⟨v1, rfl, ho1, hb1⟩
  by_cases hbig : 3000 < l.length
  · go_wp2_with fail
    refine (law02_alive w1).mono ?_
    rintro e w2 ⟨rfl, hb2⟩
    replace hb2 := hb1.trans (hb2.mono hb1.size)
    go_wp2
    go_ret
    exact ⟨rfl, hb2⟩
  · by_cases hy0 : y = 0
    · subst hy0
      go_wp2_with fail
      refine (law02_alive w1).mono ?_
      rintro e w2 ⟨rfl, hb2⟩
      replace hb2 := hb1.trans (hb2.mono hb1.size)
      go_wp2
      go_ret
      exact ⟨rfl, hb2⟩
    · have hy1 : ((y : Int) == 0) = false := by
        rw [Bool.eq_false_iff]; exact fun hh => hy0 (by have := beq_iff_eq.1 hh; omega)
      have hsl : (l ++ Crc.put (Crc.sum l)).length = l.length + 4 := by simp [Crc.put_length]
      have hg := Crc.good_seal l
      generalize l ++ Crc.put (Crc.sum l) = s at ho1 hsl hg
      have hr1 := ho1.rd (by omega)
      have hlen1 := hr1.len
      rw [show (s.length : Int) = (l.length : Int) + 4 from by omega] at hlen1
      obtain ⟨p, hp, hpl⟩ := place_of a (8 * ((l.length : Int) + 4) - 31) (by omega) (by omega)
      have h1 := hr1.alloc (.cells #[] 5)
      go_wp2_with (with_reducible refine wpl_append w1.heap.size _ [] ?hs (own_empty w1 w1.heap.size (Nat.le_refl _)) _ s ?hx h1 ?hn ?hbase w1.heap.size w1 ((Below.refl _ _).alloc (Nat.le_refl _) _) (Nat.le_refl _) ?_)
      case hs => rfl
      case hx => rfl
      case hn => simp; omega
      case hbase => simp
      intro v2 w2 ho2 hb2 _
      rw [List.nil_append] at ho2
      clear ho1 hr1 h1 hlen1
      go_wp2
      go_loopw [52] (fun i wr => ∃ (k : Nat) (t : List UInt8), k ≤ 32 ∧ i = .int .i64 k ∧ t.length = l.length + 4 ∧ Hid (Crc.le t = Crc.le s ^^^ 2 ^ p * (y % 2 ^ k)) ∧ Own wr w1.heap.size v2 t ∧ Below w1.heap.size w1 wr) (fun i _ => 32 - (intOf i).toNat)
      case atStart => exact ⟨0, s, by omega, rfl, hsl, Lib.hid (by simp [Nat.mod_one]), ho2, hb2⟩
      case round =>
        obtain ⟨k, t, hk, rfl, htl, HT, ho, hbel⟩ := hrel
        by_cases hlt : k < 32
        · have hn := bit_and hy k
          by_cases hbit : y / 2 ^ k % 2 = 1
          · rw [hbit] at hn
            have hq : (p + k) / 8 < t.length := by omega
            obtain ⟨hrg, hfr, hBg⟩ := ho.set hq (UInt8.ofNat ((t.getD ((p + k) / 8) 0).toNat ^^^ 2 ^ ((p + k) % 8)))
            have hrt := ho.rd (by omega)
            have hidx := hrt.idx ((p + k) / 8) hq
            have hcel := hrt.cells ((p + k) / 8) hq
            rw [show (((p + k) / 8 : Nat) : Int) = ((p : Int) + (k : Int)) / 8 from by omega] at hidx
            go_wp2_with fail
            go_region
            go_wp2
            go_roundw
            case rel =>
              refine ⟨k + 1, Crc.flip t (p + k), by omega, by go_num, by rw [Crc.flip_length]; exact htl, Lib.hid ?_, ?_, (hbel.setCell hBg _).drew⟩
              · rw [Crc.le_flip t (p + k) (by omega), HT.out, mod_next_yes y k hbit, mul_xor_pow, ← Nat.pow_add, Nat.xor_assoc]
              · rw [xor_bit t (p + k)]
                exact hrg.drew
            case measure => simp [intOf]; omega
          · rw [show y / 2 ^ k % 2 = 0 from by omega] at hn
            go_wp2_with fail
            go_roundw
            case rel => exact ⟨k + 1, t, by omega, by go_num, htl, Lib.hid (by rw [HT.out, mod_next_no y k (by omega)]), ho, hbel⟩
            case measure => simp [intOf]; omega
        · obtain rfl : k = 32 := by omega
          have hbad : ¬ Crc.good t := by
            have hT := HT.out
            rw [Nat.mod_eq_of_lt hy] at hT
            refine Crc.good_other (d := 2 ^ p * y) (by omega) (by omega) hT hg ?_
            exact Crc.burst (by omega) hy0 hy
          have hrt := ho.rd (by omega)
          go_wp2_with fail
          refine (crc_Open v2 t wr hrt).mono ?_
          rintro e w3 ⟨v3, rfl, ho3, hb3⟩
          rw [openA_bad hbad] at ho3 ⊢
          replace hb3 := (hb1.trans (hbel.mono hb1.size)).trans (hb3.mono (Nat.le_trans hb1.size hbel.size))
          go_wp2_with fail
          refine (law02_alive w3).mono ?_
          rintro e w4 ⟨rfl, hb4⟩
          replace hb4 := hb3.trans (hb4.mono hb3.size)
          go_wp2
          go_ret
          exact ⟨rfl, hb4⟩

end Go.Proofs.Ytagpcplmcagihaa
