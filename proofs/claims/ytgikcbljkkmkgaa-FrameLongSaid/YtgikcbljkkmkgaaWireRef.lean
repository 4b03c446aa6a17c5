/-
  The walks of the document's own answers for layer 1.
-/
import Derived.Test.YtgikcbljkkmkgaaWireGet
set_option linter.unusedVariables false
set_option linter.unusedSimpArgs false
set_option maxRecDepth 1000000
namespace Go.Proofs.Ytgikcbljkkmkgaa
open Go.RowKit

theorem preU_enc {m k : Nat} (h : 127 < m / 128 ^ k) : preU m (k + 1) = preU m k ++ [UInt8.ofNat (128 + m / 128 ^ k % 128)] := rfl

theorem preU_append_enc (m k : Nat) (h : ∀ j, j < k → 127 < m / 128 ^ j) : encU m = preU m k ++ encU (m / 128 ^ k) := by
  induction k with
  | zero => simp [preU]
  | succ k ih =>
    rw [ih (fun j hj => h j (by omega)), encU_ge (x := m / 128 ^ k) (by have := h k (by omega); omega), preU, Nat.pow_succ, Nat.div_div_eq_div_mul]
    simp

set_option maxHeartbeats 1000000 in
set_option maxRecDepth 1000000 in
theorem ref_Uint (x : Int) (h0 : 0 ≤ x) (h1 : x ≤ 18446744073709551615) (w : World) :
    Calls Try.prog 24 #[.int .u64 x] w (RetB w (encU x.toNat)) := by
  obtain ⟨m, rfl⟩ := Int.eq_ofNat_of_zero_le h0
  rw [Int.toNat_natCast]
  go_enter Try.func24, Try.ntmps24
  go_wp2
  go_loopw [0, 3] (fun y v wr => ∃ (k q : Nat), k ≤ 64 ∧ q ≤ m ∧ y = .int .u64 (q : Int) ∧ Hid (q = m / 128 ^ k ∧ 2 ^ k * q ≤ m ∧ ∀ j, j < k → 127 < m / 128 ^ j) ∧ Own wr w.heap.size v (preU m k) ∧ Below w.heap.size w wr) (fun y _ _ => (intOf y).toNat)
  case atStart => exact ⟨0, m, by omega, Nat.le_refl _, rfl, ⟨by simp, by simp, fun j hj => absurd hj (by omega)⟩, own_nil _ _, Below.refl _ _⟩
  case round =>
    obtain ⟨k, q, hk, hqm, rfl, HK, hown, hbel⟩ := hrel
    have hlen := preU_length m k
    have Hlen := Lib.hid hlen
    clear hlen
    have hbelA : Below w.heap.size w (wr.alloc (.cells #[.int .u8 (128 + (q : Int) % 128)] 5)) := hbel.alloc hbel.size _
    have hbelB : Below w.heap.size w (wr.alloc (.cells #[.int .u8 (q : Int)] 5)) := hbel.alloc hbel.size _
    by_cases hlt : 127 < q
    · have hk64 : k < 64 := by
        have h2 := HK.out.2.1
        apply Nat.lt_of_not_le
        intro hge
        have : 2 ^ 64 ≤ 2 ^ k := Nat.pow_le_pow_right (by decide) hge
        have : 2 ^ 64 * 1 ≤ 2 ^ k * q := Nat.mul_le_mul this (by omega)
        omega
      go_wp2_with (with_reducible refine wpl_append w.heap.size _ (preU m k) ?hs (hown.alloc _) _ [UInt8.ofNat (128 + (q : Int) % 128).toNat] ?hx (rd_one wr (128 + (q : Int) % 128) (by omega) (by omega)) ?hn ?hbase w.heap.size w hbelA (Nat.le_refl _) ?_)
      case hs => rfl
      case hx => rfl
      case hn => have := Hlen.out; simp; omega
      case hbase => have := hbel.size; simp; omega
      intro v' w' hown' hbel' _
      go_wp2
      go_roundw
      case rel =>
        obtain ⟨a1, a2, a3⟩ := HK.out
        refine ⟨k + 1, q / 128, by omega, by omega, by push_cast; rfl, ⟨?_, ?_, ?_⟩, ?_, hbel'⟩
        · rw [a1, Nat.pow_succ, Nat.div_div_eq_div_mul]
        · rw [Nat.pow_succ, Nat.mul_assoc]
          exact Nat.le_trans (Nat.mul_le_mul_left _ (by omega)) a2
        · intro j hj
          by_cases e : j = k
          · subst e; omega
          · exact a3 j (by omega)
        · rw [preU, ← a1]
          rw [show (128 + (q : Int) % 128).toNat = 128 + q % 128 by omega] at hown'
          exact hown'
      case measure => simp [intOf]; omega
    · go_wp2_with (with_reducible refine wpl_append w.heap.size _ (preU m k) ?hs (hown.alloc _) _ [UInt8.ofNat (q : Int).toNat] ?hx (rd_one wr (q : Int) (by omega) (by omega)) ?hn ?hbase w.heap.size w hbelB (Nat.le_refl _) ?_)
      case hs => rfl
      case hx => rfl
      case hn => have := Hlen.out; simp; omega
      case hbase => have := hbel.size; simp; omega
      intro v' w' hown' hbel' _
      go_wp2
      go_ret
      obtain ⟨a1, a2, a3⟩ := HK.out
      refine ⟨_, rfl, ?_, hbel'⟩
      rw [preU_append_enc m k a3, ← a1, encU_lt (by omega)]
      rw [Int.toNat_natCast] at hown'
      exact hown'

set_option maxHeartbeats 400000 in
theorem ref_Bytes (v : Value) (l : List UInt8) (w : World) (h : Rd w v l) :
    Calls Try.prog 22 #[v] w (RetB w (encB l)) := by
  have hsm := h.small
  have hlen := h.len
  have hle := encU_le l.length (by omega)
  go_enter Try.func22, Try.ntmps22
  go_wp2_with fail
  refine (ref_Uint _ (by omega) (by omega) w).mono ?_
  rintro e w1 ⟨v1, rfl, ho, hb⟩
  have h1 := h.later hb (Nat.le_refl _)
  rw [Int.toNat_natCast] at ho
  go_wp2_with (with_reducible refine wpl_append w.heap.size _ _ ?hs ho _ l ?hx h1 ?hn ?hbase w.heap.size w hb (Nat.le_refl _) ?_)
  case hs => rfl
  case hx => rfl
  case hn => omega
  case hbase => exact hb.size
  intro v' w' hown' hbel' _
  go_wp2
  go_ret
  exact ⟨_, rfl, hown', hbel'⟩

end Go.Proofs.Ytgikcbljkkmkgaa
