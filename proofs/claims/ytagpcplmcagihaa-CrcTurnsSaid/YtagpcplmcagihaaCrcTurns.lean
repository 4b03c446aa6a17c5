/-
  CrcTurns: what is sealed is opened; with one bit, two, or three turned anywhere it isn't. For every input.
-/
import Derived.Test.YtagpcplmcagihaaCrcBursts
set_option linter.unusedVariables false
set_option linter.unusedSimpArgs false
namespace Go.Proofs.Ytagpcplmcagihaa
open Go.RowKit

/-- All these bits. -/
def orAll : List Nat → Nat
  | [] => 0
  | p :: ps => orAll ps ||| 2 ^ p

theorem or_pow (D p : Nat) : D ||| 2 ^ p = if D.testBit p then D else D ^^^ 2 ^ p := by
  apply Nat.eq_of_testBit_eq
  intro j
  rw [Nat.testBit_or, Nat.testBit_two_pow]
  by_cases h : D.testBit p = true
  · rw [if_pos h]
    by_cases hj : p = j
    · subst hj; simp [h]
    · simp [hj]
  · rw [if_neg h, Nat.testBit_xor, Nat.testBit_two_pow]
    by_cases hj : p = j
    · subst hj; simp at h; simp [h]
    · simp [hj]

theorem le_testBit : ∀ (l : List UInt8) (i : Nat), i < 8 * l.length → (Crc.le l).testBit i = (l.getD (i / 8) 0).toNat.testBit (i % 8)
  | [], i, h => by simp at h
  | b :: l, i, h => by
    have hb := b.toNat_lt
    have e2 : (256 * Crc.le l + b.toNat).testBit i = if i < 8 then b.toNat.testBit i else (Crc.le l).testBit (i - 8) := Nat.testBit_two_pow_mul_add (Crc.le l) (i := 8) hb i
    rw [Crc.le_cons, Nat.add_comm, e2]
    by_cases hi : i < 8
    · rw [if_pos hi, show i / 8 = 0 from by omega, show i % 8 = i from by omega]; rfl
    · rw [if_neg hi, le_testBit l (i - 8) (by simp only [List.length_cons] at h; omega), show i / 8 = (i - 8) / 8 + 1 from by omega, show i % 8 = (i - 8) % 8 from by omega]; rfl

/-- What the three statements do to a byte. -/
def turned (x y r : Nat) : Nat := if y / 2 ^ r % 2 = 1 then (x ||| 2 ^ r) &&& (255 - 2 ^ r) else x ||| 2 ^ r

theorem turned_eq {x y r : Nat} (hx : x < 256) (hr : r < 8) : turned x y r = if x.testBit r = y.testBit r then x ^^^ 2 ^ r else x := by
  have key : ∀ b : Bool, ∀ r : Fin 8, ∀ x : Fin 256, (if b = true then (x.val ||| 2 ^ r.val) &&& (255 - 2 ^ r.val) else x.val ||| 2 ^ r.val) = if x.val.testBit r.val = b then x.val ^^^ 2 ^ r.val else x.val := by decide +kernel
  have hy : (y / 2 ^ r % 2 = 1) ↔ (y.testBit r = true) := by
    rw [Nat.testBit_eq_decide_div_mod_eq]; simp
  have := key (y.testBit r) ⟨r, hr⟩ ⟨x, hx⟩
  unfold turned
  simp only [hy]
  exact this

/-- A place is turned in t: other than it is in s. -/
theorem turn_le {s t : List UInt8} {D p : Nat} (hl : t.length = s.length) (hp : p < 8 * s.length) (hD : Crc.le t = Crc.le s ^^^ D) :
    Crc.le (t.set (p / 8) (UInt8.ofNat (turned (t.getD (p / 8) 0).toNat (s.getD (p / 8) 0).toNat (p % 8)))) = Crc.le s ^^^ (D ||| 2 ^ p) := by
  have h1 := le_testBit t p (by omega)
  have h2 := le_testBit s p hp
  have h3 : (Crc.le t).testBit p = ((Crc.le s).testBit p ^^ D.testBit p) := by rw [hD, Nat.testBit_xor]
  rw [h1, h2] at h3
  rw [turned_eq (t.getD (p / 8) 0).toNat_lt (Nat.mod_lt _ (by decide)), h3, or_pow]
  by_cases hd : D.testBit p = true
  · have : ¬ (((s.getD (p / 8) 0).toNat.testBit (p % 8) ^^ D.testBit p) = (s.getD (p / 8) 0).toNat.testBit (p % 8)) := by
      rw [hd]; cases (s.getD (p / 8) 0).toNat.testBit (p % 8) <;> simp
    rw [if_neg this, if_pos hd, UInt8.ofNat_toNat]
    have : t.set (p / 8) (t.getD (p / 8) 0) = t := by
      have hq : p / 8 < t.length := by omega
      rw [List.getD, List.getElem?_eq_getElem hq]; simp
    rw [this, hD]
  · have hd' : D.testBit p = false := by simpa using hd
    have : (((s.getD (p / 8) 0).toNat.testBit (p % 8) ^^ D.testBit p) = (s.getD (p / 8) 0).toNat.testBit (p % 8)) := by
      rw [hd']; simp
    rw [if_pos this, if_neg hd]
    have := Crc.le_flip t p (by omega)
    unfold Crc.flip at this
    rw [this, hD, Nat.xor_assoc]

theorem three_or {N x y z : Nat} (hx : x < N) (hy : y < N) (hz : z < N) (hN : N ≤ 65536) : Crc.pow N (orAll [z, y, x]) ≠ 0 := by
  have t1 : (2 ^ x).testBit y = decide (x = y) := Nat.testBit_two_pow
  simp only [orAll]
  rw [Nat.zero_or, or_pow (2 ^ x) y, t1]
  by_cases h1 : x = y
  · subst h1
    simp only [decide_true, if_true]
    rw [or_pow, Nat.testBit_two_pow]
    by_cases h2 : x = z
    · subst h2
      simp only [decide_true, if_true]
      rw [Crc.pow_one (by omega)]
      exact Crc.bit_ne
    · simp only [h2, decide_false, Bool.false_eq_true, if_false]
      exact Crc.two_bits hx hz hN h2
  · simp only [h1, decide_false, Bool.false_eq_true, if_false]
    rw [or_pow, Nat.testBit_xor, Nat.testBit_two_pow, Nat.testBit_two_pow]
    by_cases h2 : x = z
    · subst h2
      have h3 : ¬ y = x := fun h => h1 h.symm
      simp only [h3, decide_true, decide_false, Bool.xor_false, if_true]
      exact Crc.two_bits hx hy hN h1
    · by_cases h3 : y = z
      · subst h3
        simp only [h1, decide_true, decide_false, Bool.false_xor, if_true]
        exact Crc.two_bits hx hy hN h1
      · simp only [h2, h3, decide_false, Bool.false_xor, Bool.false_eq_true, if_false]
        exact Crc.three_bits hx hy hz

theorem openA_seal (l : List UInt8) : openA (l ++ Crc.put (Crc.sum l)) = (l, true) := by
  unfold openA
  rw [if_pos (Crc.good_seal l)]
  have hl : (l ++ Crc.put (Crc.sum l)).length - 4 = l.length := by simp [Crc.put_length]
  rw [hl]; simp

theorem pow_mod (i : Nat) : ((2 : Int) ^ (i % 8)) % 256 = ((2 ^ (i % 8) : Nat) : Int) ∧ 2 ^ (i % 8) < 256 := by
  have h2 : 2 ^ (i % 8) < 256 := Nat.pow_lt_pow_right (a := 2) (n := 8) (by decide) (Nat.mod_lt _ (by decide))
  have e0 : ((2 : Int) ^ (i % 8)) = ((2 ^ (i % 8) : Nat) : Int) := (Int.natCast_pow 2 (i % 8)).symm
  refine ⟨?_, h2⟩
  rw [e0]
  generalize 2 ^ (i % 8) = z at h2 ⊢
  omega
theorem or_bit (t : List UInt8) (i : Nat) : (Value.int .u8 (bits .or .u8 (at8 t (i / 8)) (2 ^ (i % 8) % 256))) = cellB (UInt8.ofNat ((t.getD (i / 8) 0).toNat ||| 2 ^ (i % 8))) := by
  unfold cellB at8
  have hb := (t.getD (i / 8) 0).toNat_lt
  obtain ⟨e, h2⟩ := pow_mod i
  have hx : (t.getD (i / 8) 0).toNat ||| 2 ^ (i % 8) < 256 := Nat.or_lt_two_pow (n := 8) hb h2
  have h := u8_or_nat _ _ hb h2
  rw [e, h, UInt8.toNat_ofNat', Nat.mod_eq_of_lt hx]
theorem not_bit (z i : Nat) (hz : z < 256) : (Value.int .u8 (bits .andNot .u8 (z : Int) (2 ^ (i % 8) % 256))) = cellB (UInt8.ofNat (z &&& (255 - 2 ^ (i % 8)))) := by
  unfold cellB
  obtain ⟨e, h2⟩ := pow_mod i
  have h := u8_andNot_nat z _ hz h2
  have hx : z &&& (255 - 2 ^ (i % 8)) < 256 := Nat.lt_of_le_of_lt Nat.and_le_left hz
  rw [e, h, UInt8.toNat_ofNat', Nat.mod_eq_of_lt hx]
theorem bit_and8 (s : List UInt8) (i : Nat) : bits .and .u8 (at8 s (i / 8) / 2 ^ (i % 8)) 1 = (((s.getD (i / 8) 0).toNat / 2 ^ (i % 8) % 2 : Nat) : Int) := by
  unfold at8
  have hb := (s.getD (i / 8) 0).toNat_lt
  have h := u8_and_nat ((s.getD (i / 8) 0).toNat / 2 ^ (i % 8)) 1 (Nat.lt_of_le_of_lt (Nat.div_le_self _ _) hb) (by decide)
  rw [nat_mask1] at h
  rw [← h]
  congr 1

theorem at8_set {t : List UInt8} {i : Nat} (h : i < t.length) (b : UInt8) : at8 (t.set i b) i = (b.toNat : Int) := by
  unfold at8; simp [List.getD, h]

set_option maxHeartbeats 8000000 in
set_option maxRecDepth 20000 in
theorem crcTurns_walk (v : Value) (l : List UInt8) (a0 a1 a2 : Int) (w : World) (h : Rd w v l) :
    Calls Try.prog 5 #[v, .agg #[.int .i64 a0, .int .i64 a1, .int .i64 a2]] w fun e w' => e = .returned (.bool true) ∧ Below w.heap.size w w' := by
  have hlen := h.len
  have hsm := h.small
  have hW : Below w.heap.size w (w.alloc (.cells #[.int .i64 a0, .int .i64 a1, .int .i64 a2] 33)) := (Below.refl _ _).alloc (Nat.le_refl _) _
  have hA : (w.alloc (.cells #[.int .i64 a0, .int .i64 a1, .int .i64 a2] 33)).heap[w.heap.size]? = some (.cells #[.int .i64 a0, .int .i64 a1, .int .i64 a2] 33 (0, 0)) := heap_alloc_new w _
  have hAs : w.heap.size < (w.alloc (.cells #[.int .i64 a0, .int .i64 a1, .int .i64 a2] 33)).heap.size := by simp
  have h0 := h.alloc (.cells #[.int .i64 a0, .int .i64 a1, .int .i64 a2] 33)
  have HA := Lib.hid hA
  clear hA
  go_enter Try.func5, Try.ntmps5
  go_wp2_with fail
  obtain ⟨w0, hw0⟩ : ∃ w0, w0 = w.alloc (.cells #[.int .i64 a0, .int .i64 a1, .int .i64 a2] 33) := ⟨_, rfl⟩
  rw [← hw0] at hW hAs HA h0 ⊢
  clear hw0
  refine (crc_Seal v l w0 h0).mono ?_
  rintro e w1 ⟨v1, rfl, ho1, hb1⟩
  have hW1 : Below w.heap.size w w1 := hW.trans (hb1.mono (Nat.le_of_lt hAs))
  by_cases hbig : 3000 < l.length
  · go_wp2_with fail
    refine (law02_alive w1).mono ?_
    rintro e w2 ⟨rfl, hb2⟩
    replace hb2 := hW1.trans (hb2.mono hW1.size)
    go_wp2
    go_ret
    exact ⟨rfl, hb2⟩
  · have hsl : (l ++ Crc.put (Crc.sum l)).length = l.length + 4 := by simp [Crc.put_length]
    have hg := Crc.good_seal l
    have hos := openA_seal l
    generalize l ++ Crc.put (Crc.sum l) = s at ho1 hsl hg hos
    have hr1 := ho1.rd (by omega)
    have hlen1 := hr1.len
    rw [show (s.length : Int) = (l.length : Int) + 4 from by omega] at hlen1
    go_wp2_with fail
    refine (crc_Open v1 s w1 hr1).mono ?_
    rintro e w2 ⟨v2, rfl, ho2, hb2⟩
    rw [hos] at ho2 ⊢
    replace hr1 := hr1.later hb2 (Nat.le_refl _)
    have hb12 : Below w0.heap.size w0 w2 := hb1.trans (hb2.mono hb1.size)
    have hW2 : Below w.heap.size w w2 := hW.trans (hb12.mono (Nat.le_of_lt hAs))
    clear hb1 hb2 ho1 hW1 hos
    have h1 := hr1.alloc (.cells #[] 5)
    go_wp2_with (with_reducible refine wpl_append w2.heap.size _ [] ?hs (own_empty w2 w2.heap.size (Nat.le_refl _)) _ s ?hx h1 ?hn ?hbase w2.heap.size w2 ((Below.refl _ _).alloc (Nat.le_refl _) _) (Nat.le_refl _) ?_)
    case hs => rfl
    case hx => rfl
    case hn => simp; omega
    case hbase => simp
    intro v3 w3 ho3 hb3 _
    rw [List.nil_append] at ho3
    have hB3 : w3.heap[w.heap.size]? = some (.cells #[.int .i64 a0, .int .i64 a1, .int .i64 a2] 33 (0, 0)) := by
      rw [hb3.block _ (Nat.lt_of_lt_of_le hAs hb12.size), hb12.block _ hAs]; exact HA.out
    have hc0 : w3.cell? ⟨w.heap.size, 0, none⟩ = some (.int .i64 a0) := by rw [cell_of_row _ _ _ _ _ _ hB3]; rfl
    have hc1 : w3.cell? ⟨w.heap.size, 1, none⟩ = some (.int .i64 a1) := by rw [cell_of_row _ _ _ _ _ _ hB3]; rfl
    have hc2 : w3.cell? ⟨w.heap.size, 2, none⟩ = some (.int .i64 a2) := by rw [cell_of_row _ _ _ _ _ _ hB3]; rfl
    have hix : ∀ k : Nat, k < 3 → ∃ x : Int, ∀ u, (Instr.index 33 (.agg #[.int .i64 a0, .int .i64 a1, .int .i64 a2]) (.int .i64 (k : Int))).run Try.prog u = .ok (.int .i64 x) u := by
      intro k hk
      rcases (show k = 0 ∨ k = 1 ∨ k = 2 by omega) with rfl | rfl | rfl
      · exact ⟨a0, fun u => by kernel_rfl⟩
      · exact ⟨a1, fun u => by kernel_rfl⟩
      · exact ⟨a2, fun u => by kernel_rfl⟩
    clear h1 hB3
    go_wp2
    clear hc0 hc1 hc2
    go_loopw [42] (fun i wr => ∃ (k : Nat) (t : List UInt8) (ps : List Nat), k ≤ 3 ∧ i = .int .i64 k ∧ t.length = l.length + 4 ∧ Hid (ps.length = k ∧ (∀ p ∈ ps, p < 8 * (l.length + 4)) ∧ Crc.le t = Crc.le s ^^^ orAll ps) ∧ Own wr w2.heap.size v3 t ∧ Below w2.heap.size w2 wr) (fun i _ => 3 - (intOf i).toNat)
    case atStart => exact ⟨0, s, [], by omega, rfl, hsl, Lib.hid ⟨rfl, by simp, by simp [orAll]⟩, ho3, hb3⟩
    case round =>
      obtain ⟨k, t, ps, hk, rfl, htl, HT, ho, hbel⟩ := hrel
      by_cases hlt : k < 3
      · obtain ⟨x, hx⟩ := hix k hlt
        obtain ⟨p, hp, hpl⟩ := place_of x (8 * ((l.length : Int) + 4)) (by omega) (by omega)
        have hq : p / 8 < t.length := by omega
        have hq2 : p / 8 < s.length := by omega
        obtain ⟨hrg, hfr, hBg⟩ := ho.set hq (UInt8.ofNat ((t.getD (p / 8) 0).toNat ||| 2 ^ (p % 8)))
        rw [← or_bit t p] at hrg
        have hrt := ho.rd (by omega)
        have hidx := hrt.idx (p / 8) hq
        have hcel := hrt.cells (p / 8) hq
        rw [show ((p / 8 : Nat) : Int) = (p : Int) / 8 from by omega] at hidx
        have hrg2 := hrg.drew
        have hbel2 := (hbel.setCell hBg (.int .u8 (bits .or .u8 (at8 t (p / 8)) (2 ^ (p % 8) % 256)))).drew
        have hand := bit_and8 s p
        have hxl : (t.getD (p / 8) 0).toNat ||| 2 ^ (p % 8) < 256 := Nat.or_lt_two_pow (n := 8) (t.getD (p / 8) 0).toNat_lt (pow_mod p).2
        go_wp2_with fail
        go_region
        obtain ⟨wx, hwx⟩ : ∃ wx, wx = (wr.setCell (adr v3 (p / 8)) (.int .u8 (bits .or .u8 (at8 t (p / 8)) (2 ^ (p % 8) % 256)))).drew := ⟨_, rfl⟩
        rw [← hwx] at hrg2 hbel2 ⊢
        clear hwx hrg hfr hBg hrt hcel hidx hbel ho
        have hrs := hr1.later hbel2 (Nat.le_refl _)
        have hidx := hrs.idx (p / 8) hq2
        have hcel := hrs.cells (p / 8) hq2
        rw [show ((p / 8 : Nat) : Int) = (p : Int) / 8 from by omega] at hidx
        have hq3 : p / 8 < (t.set (p / 8) (UInt8.ofNat ((t.getD (p / 8) 0).toNat ||| 2 ^ (p % 8)))).length := by simpa using hq
        have htu := turn_le (s := s) (t := t) (D := orAll ps) (p := p) (by omega) (by omega) HT.out.2.2
        by_cases hbit : (s.getD (p / 8) 0).toNat / 2 ^ (p % 8) % 2 = 1
        · rw [hbit] at hand
          rw [turned, if_pos hbit] at htu
          obtain ⟨hrg3, hfr, hBg⟩ := hrg2.set hq3 (UInt8.ofNat (((t.getD (p / 8) 0).toNat ||| 2 ^ (p % 8)) &&& (255 - 2 ^ (p % 8))))
          rw [← not_bit _ p hxl, List.set_set] at hrg3
          have hrt := hrg2.rd (by simp; omega)
          have hidx2 := hrt.idx (p / 8) hq3
          have hcel2 := hrt.cells (p / 8) hq3
          rw [show ((p / 8 : Nat) : Int) = (p : Int) / 8 from by omega] at hidx2
          rw [at8_set hq, UInt8.toNat_ofNat', Nat.mod_eq_of_lt hxl] at hcel2
          go_wp2_with fail
          go_region
          go_wp2
          go_roundw
          case rel =>
            refine ⟨k + 1, _, p :: ps, by omega, by go_num, ?_, Lib.hid ⟨by simp [HT.out.1], ?_, htu⟩, hrg3.drew, (hbel2.setCell hBg _).drew⟩
            · simpa using htl
            · intro z hz
              rcases List.mem_cons.1 hz with rfl | hz
              · omega
              · exact HT.out.2.1 z hz
          case measure => simp [intOf]; omega
        · rw [show (s.getD (p / 8) 0).toNat / 2 ^ (p % 8) % 2 = 0 from by omega] at hand
          rw [turned, if_neg hbit] at htu
          go_wp2
          go_roundw
          case rel =>
            refine ⟨k + 1, _, p :: ps, by omega, by go_num, ?_, Lib.hid ⟨by simp [HT.out.1], ?_, htu⟩, hrg2, hbel2⟩
            · simpa using htl
            · intro z hz
              rcases List.mem_cons.1 hz with rfl | hz
              · omega
              · exact HT.out.2.1 z hz
          case measure => simp [intOf]; omega
      · obtain rfl : k = 3 := by omega
        have hbad : ¬ Crc.good t := by
          obtain ⟨h3, hps, hle⟩ := HT.out
          obtain ⟨z, y, x, rfl⟩ : ∃ z y x, ps = [z, y, x] := by
            match ps, h3 with
            | [z, y, x], _ => exact ⟨z, y, x, rfl⟩
          refine Crc.good_other (d := orAll [z, y, x]) (by omega) (by omega) hle hg ?_
          rw [hsl]
          exact three_or (hps x (by simp)) (hps y (by simp)) (hps z (by simp)) (by omega)
        have hrt := ho.rd (by omega)
        go_wp2_with fail
        refine (crc_Open v3 t wr hrt).mono ?_
        rintro e w4 ⟨v4, rfl, ho4, hb4⟩
        rw [openA_bad hbad] at ho4 ⊢
        have hl4 := (ho4.rd (by simp)).len
        have hW4 : Below w.heap.size w w4 := (hW2.trans (hbel.mono hW2.size)).trans (hb4.mono (Nat.le_trans hW2.size hbel.size))
        have hR4 : Below w2.heap.size w2 w4 := hbel.trans (hb4.mono hbel.size)
        go_wp2_with fail
        refine (law02_alive w4).mono ?_
        rintro e w5 ⟨rfl, hb5⟩
        have hW5 := hW4.trans (hb5.mono hW4.size)
        have hR5 : Below w2.heap.size w2 w5 := hR4.trans (hb5.mono hR4.size)
        have hs1 := ((ho2.later hR5 (Nat.le_refl _)).rd (by omega)).str
        have hs2 := (h.later hW5 (Nat.le_refl _)).str
        go_wp2
        go_ret
        exact ⟨rfl, hW5⟩

end Go.Proofs.Ytagpcplmcagihaa
