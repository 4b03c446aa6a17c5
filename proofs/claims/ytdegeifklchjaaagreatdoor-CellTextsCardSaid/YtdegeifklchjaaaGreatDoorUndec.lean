/-
  Decimals read, as the document's own answer for layer 4 tells them.
-/
import Derived.Test.YtdegeifklchjaaaGreatDoorDigit
set_option linter.unusedVariables false
set_option linter.unusedSimpArgs false
set_option maxRecDepth 1000000
namespace Go.Proofs.YtdegeifklchjaaaGreatDoor
open Go.RowKit

/-- The number of decimals, from n on: none at a byte that is none, or if it gets too great. -/
def undecV : List UInt8 → Nat → Option Nat
  | [], n => some n
  | c :: r, n => if (48 ≤ c.toNat ∧ c.toNat ≤ 57) ∧ 10 * n + (c.toNat - 48) < 18446744073709551616 then undecV r (10 * n + (c.toNat - 48)) else none

def undecC (l : List UInt8) : Option Nat := match undecV l 0 with
  | some n => if dec n = l then some n else none
  | none => none

theorem undecV_app : ∀ (a b : List UInt8) (n : Nat), undecV (a ++ b) n = (undecV a n).bind (undecV b)
  | [], b, n => rfl
  | c :: r, b, n => by
    simp only [List.cons_append, undecV]
    split
    · exact undecV_app r b _
    · rfl

theorem undecV_dec (x : Nat) : x < 18446744073709551616 → undecV (dec x) 0 = some x := by
  induction x using Nat.strongRecOn with
  | ind x ih =>
    intro hx
    have hb : ∀ d, d < 10 → (UInt8.ofNat (48 + d)).toNat = 48 + d := fun d hd => by rw [UInt8.toNat_ofNat']; omega
    by_cases h : x < 10
    · rw [dec_lo h, undecV, hb x h, if_pos (by omega), undecV]
      congr 1; omega
    · rw [dec_hi h, undecV_app, ih (x / 10) (by omega) (by omega), Option.bind_some, undecV, hb _ (by omega), if_pos (by omega), undecV]
      congr 1; omega

/-- What is read of a number's decimals is the number. -/
theorem undecC_dec {x : Nat} (hx : x < 18446744073709551616) : undecC (dec x) = some x := by
  unfold undecC
  rw [undecV_dec x hx]
  exact if_pos rfl
theorem undecC_some {l : List UInt8} {x : Nat} (h : undecC l = some x) : dec x = l := by
  unfold undecC at h
  split at h
  · split at h
    · rename_i hd
      injection h with h
      rw [← h]; exact hd
    · exact absurd h (by simp)
  · exact absurd h (by simp)

theorem undecV_lt : ∀ (l : List UInt8) (n : Nat) {m : Nat}, n < 18446744073709551616 → undecV l n = some m → m < 18446744073709551616
  | [], n, m, hn, h => by injection h with h; omega
  | c :: r, n, m, hn, h => by
    rw [undecV] at h
    split at h
    · rename_i hc; exact undecV_lt r _ hc.2 h
    · exact absurd h (by simp)

theorem undecV_step {l : List UInt8} {k n c : Nat} (h : k < l.length) (hc : (l.getD k 0).toNat = c) : undecV (l.drop k) n = if (48 ≤ c ∧ c ≤ 57) ∧ 10 * n + (c - 48) < 18446744073709551616 then undecV (l.drop (k + 1)) (10 * n + (c - 48)) else none := by
  rw [drop_cons8 h, undecV, hc]

set_option maxHeartbeats 2000000 in
set_option maxRecDepth 1000000 in
theorem ref_Undecimal (s : ByteArray) (l : List UInt8) (w : World) (h : RdS s l) :
    Calls Tryz.prog 21 #[.string s] w fun e w' => (∃ (n : Nat) (b : Bool), e = .returned (.tuple #[.int .u64 (n : Int), .bool b]) ∧ n < 18446744073709551616 ∧ undecC l = (if b = true then some n else none)) ∧ w = w' := by
  have hlen := h.len
  have hidx := h.idx
  have hsm := h.small
  go_enter Tryz.func21, Tryz.ntmps21
  go_wp2
  go_loop [4, 5] (fun a i => ∃ n k : Nat, k ≤ l.length ∧ i = .int .i64 k ∧ a = .int .u64 n ∧ n < 18446744073709551616 ∧ Hid (undecV l 0 = undecV (l.drop k) n)) (fun _ i => l.length - (intOf i).toNat)
  case atStart => exact ⟨0, 0, by omega, rfl, rfl, by omega, Lib.hid (by rw [List.drop_zero])⟩
  case round =>
    obtain ⟨n, k, hk, rfl, rfl, hn, HV⟩ := hrel
    by_cases hlt : k < l.length
    · have hx := hidx k hlt
      obtain ⟨c, hc⟩ : ∃ c : Nat, at8 l k = (c : Int) := ⟨(l.getD k 0).toNat, rfl⟩
      have hc1 := at8_hi l k
      have hcc : (l.getD k 0).toNat = c := by unfold at8 at hc; omega
      rw [hc] at hc1 hx
      have HS := Lib.hid (undecV_step (n := n) hlt hcc)
      clear hcc hc hidx
      by_cases h1 : 48 ≤ c ∧ c ≤ 57
      · obtain ⟨d, hd⟩ : ∃ d, d = c - 48 := ⟨_, rfl⟩
        have hd9 : d ≤ 9 := by omega
        have HD := Lib.hid (show digV c = (d : Int) by unfold digV; rw [if_pos h1]; omega)
        have HDC := Lib.hid hd
        by_cases h2 : 10 * n + d < 18446744073709551616
        · have HS2 := Lib.hid (show undecV l 0 = undecV (l.drop (k + 1)) (10 * n + d) by rw [HV.out, HS.out, if_pos ⟨h1, by omega⟩, ← hd])
          have q1 : decide ((d : Int) > 9) = false := decide_eq_false (by omega)
          have q2 : decide ((n : Int) > (18446744073709551615 - (d : Int)) / 10) = false := decide_eq_false (by omega)
          clear hd h1
          go_wp2_with fail
          refine (ref_digit c (by omega) _).mono ?_
          rintro e w1 ⟨rfl, rfl⟩
          rw [HD.out]
          go_wp2
          go_round
          case rel => exact ⟨10 * n + d, k + 1, by omega, by go_num, by go_num, by omega, HS2⟩
          case measure => simp [intOf]; omega
        · have HF := Lib.hid (show undecC l = none by unfold undecC; rw [HV.out, HS.out, if_neg (by omega)])
          have q1 : decide ((d : Int) > 9) = false := decide_eq_false (by omega)
          have q2 : decide ((n : Int) > (18446744073709551615 - (d : Int)) / 10) = true := decide_eq_true (by omega)
          clear hd h1
          go_wp2_with fail
          refine (ref_digit c (by omega) _).mono ?_
          rintro e w1 ⟨rfl, rfl⟩
          rw [HD.out]
          go_wp2
          go_ret2
          exact ⟨⟨0, false, rfl, by omega, by rw [HF.out]; rfl⟩, rfl⟩
      · have HF := Lib.hid (show undecC l = none by unfold undecC; rw [HV.out, HS.out, if_neg (by omega)])
        by_cases h3 : 97 ≤ c ∧ c ≤ 102
        · obtain ⟨d, hd⟩ : ∃ d, d = c - 87 := ⟨_, rfl⟩
          have hd9 : 9 < d := by omega
          have hd15 : d ≤ 15 := by omega
          have HD := Lib.hid (show digV c = (d : Int) by unfold digV; rw [if_neg h1, if_pos h3]; omega)
          have q1 : decide ((d : Int) > 9) = true := decide_eq_true (by omega)
          clear hd h1 h3
          go_wp2_with fail
          refine (ref_digit c (by omega) _).mono ?_
          rintro e w1 ⟨rfl, rfl⟩
          rw [HD.out]
          go_wp2
          go_ret2
          exact ⟨⟨0, false, rfl, by omega, by rw [HF.out]; rfl⟩, rfl⟩
        · have HD := Lib.hid (show digV c = -1 by unfold digV; rw [if_neg h1, if_neg h3])
          have q0 : IntKind.u64.wrap (-1) = 18446744073709551615 := by decide
          clear h1 h3
          go_wp2_with fail
          refine (ref_digit c (by omega) _).mono ?_
          rintro e w1 ⟨rfl, rfl⟩
          rw [HD.out]
          go_wp2
          go_ret2
          exact ⟨⟨0, false, rfl, by omega, by rw [HF.out]; rfl⟩, rfl⟩
    · obtain rfl : k = l.length := by omega
      have HV2 := Lib.hid (show undecV l 0 = some n by rw [HV.out, List.drop_length]; rfl)
      have htl := Lib.hid h.toList
      go_wp2_with fail
      refine (ref_Decimal n hn _).mono ?_
      rintro e w1 ⟨⟨t, rfl, ht⟩, rfl⟩
      have htt := Lib.hid ht.toList
      clear ht
      go_wp2
      go_ret2
      refine ⟨⟨n, dec n == l, ?_, hn, ?_⟩, rfl⟩
      · rw [htt.out, htl.out]; rfl
      · unfold undecC; rw [HV2.out]
        show (if dec n = l then some n else none) = _
        by_cases hd : dec n = l
        · rw [if_pos hd, if_pos (by simpa using hd)]
        · rw [if_neg hd, if_neg (by simpa using hd)]

end Go.Proofs.YtdegeifklchjaaaGreatDoor
