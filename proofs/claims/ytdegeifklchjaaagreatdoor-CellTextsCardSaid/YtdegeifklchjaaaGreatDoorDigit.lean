/-
  A digit's number, and decimals read, as the document's own answer for layer 4 tells them.
-/
import Derived.Test.YtdegeifklchjaaaGreatDoorHex
set_option linter.unusedVariables false
set_option linter.unusedSimpArgs false
set_option maxRecDepth 1000000
namespace Go.Proofs.YtdegeifklchjaaaGreatDoor
open Go.RowKit

/-- A digit to the base 16; -1: it is none. -/
def digV (c : Nat) : Int := if 48 ≤ c ∧ c ≤ 57 then (c : Int) - 48 else if 97 ≤ c ∧ c ≤ 102 then (c : Int) - 87 else -1

theorem dig_val {i : Nat} (h : i < 16) : ((dig i).toNat : Int) = if i < 10 then 48 + (i : Int) else 87 + (i : Int) := by
  unfold dig
  split
  · rw [UInt8.toNat_ofNat']; omega
  · rw [UInt8.toNat_ofNat']; omega

theorem digV_dig {i : Nat} (h : i < 16) : digV (dig i).toNat = i := by
  have := dig_val h
  unfold digV
  split at this
  · rw [if_pos (by omega)]; omega
  · rw [if_neg (by omega), if_pos (by omega)]; omega

theorem digV_none {c : Nat} (h : ∀ j, j < 16 → (dig j).toNat ≠ c) : digV c = -1 := by
  unfold digV
  split
  · rename_i h1
    exfalso
    have h2 := dig_val (i := c - 48) (by omega)
    rw [if_pos (by omega)] at h2
    exact h (c - 48) (by omega) (by omega)
  · split
    · rename_i h1 h3
      exfalso
      have h2 := dig_val (i := c - 87) (by omega)
      rw [if_neg (by omega)] at h2
      exact h (c - 87) (by omega) (by omega)
    · rfl

theorem dig_list : ∀ i, i < 16 → ([48, 49, 50, 51, 52, 53, 54, 55, 56, 57, 97, 98, 99, 100, 101, 102] : List UInt8).getD i 0 = dig i := by decide

theorem digits_rd : RdS ({ data := #[48, 49, 50, 51, 52, 53, 54, 55, 56, 57, 97, 98, 99, 100, 101, 102] } : ByteArray) [48, 49, 50, 51, 52, 53, 54, 55, 56, 57, 97, 98, 99, 100, 101, 102] := ⟨rfl, by simp⟩

theorem ref_digit (c : Nat) (hc : c < 256) (w : World) :
    Calls Tryz.prog 42 #[.int .u8 (c : Int)] w fun e w' => e = .returned (.int .i64 (digV c)) ∧ w = w' := by
  have hidx := digits_rd.idx
  go_enter Tryz.func42, Tryz.ntmps42
  go_wp2
  go_loop [3] (fun a => ∃ i : Nat, i ≤ 16 ∧ a = .int .i64 i ∧ Hid (∀ j, j < i → (dig j).toNat ≠ c)) (fun a => 16 - (intOf a).toNat)
  case atStart => exact ⟨0, by omega, rfl, Lib.hid (fun j hj => absurd hj (by omega))⟩
  case round =>
    obtain ⟨i, hi, rfl, HJ⟩ := hrel
    by_cases hlt : i < 16
    · have hx := hidx i (by simpa using hlt)
      obtain ⟨v, hv⟩ : ∃ v, v = (dig i).toNat := ⟨_, rfl⟩
      have e8 : at8 [48, 49, 50, 51, 52, 53, 54, 55, 56, 57, 97, 98, 99, 100, 101, 102] i = (v : Int) := by unfold at8; rw [dig_list i hlt, hv]
      rw [e8] at hx
      have HV := Lib.hid hv
      clear e8 hv hidx
      by_cases he : v = c
      · have heq : ((v : Int) == (c : Int)) = true := by simp [he]
        have HE := Lib.hid (show digV c = i by rw [← he, HV.out]; exact digV_dig hlt)
        clear he
        go_wp2
        go_ret
        refine ⟨?_, rfl⟩
        rw [HE.out]
        rfl
      · have heq : ((v : Int) == (c : Int)) = false := by simp; omega
        go_wp2
        go_round
        case rel =>
          refine ⟨i + 1, by omega, by go_num, Lib.hid (fun j hj => ?_)⟩
          by_cases hji : j < i
          · exact HJ.out j hji
          · obtain rfl : j = i := by omega
            rw [← HV.out]; exact he
        case measure => simp [intOf]; omega
    · obtain rfl : i = 16 := by omega
      have HE := Lib.hid (digV_none HJ.out)
      go_wp2
      go_ret
      refine ⟨?_, rfl⟩
      rw [HE.out]
      rfl

set_option maxRecDepth 1000000 in
theorem ref_Signed (x : Int) (h0 : -9223372036854775808 ≤ x) (h1 : x ≤ 9223372036854775807) (w : World) :
    Calls Tryz.prog 24 #[.int .i64 x] w fun e w' => (∃ s, e = .returned (.string s) ∧ RdS s (sdec x)) ∧ w = w' := by
  by_cases hx : x < 0
  · obtain ⟨n, hn⟩ : ∃ n : Nat, (n : Int) = -x := ⟨(-x).toNat, by omega⟩
    have HD := Lib.hid (show sdec x = 45 :: dec n by unfold sdec; rw [if_pos hx, show (-x).toNat = n from by omega])
    have hdl := dec_len 19 n (by omega)
    have e1 : -(x + 1) + 1 = (n : Int) := by omega
    go_enter Tryz.func24, Tryz.ntmps24
    go_wp2_with fail
    rw [← hn]
    refine (ref_Decimal n (by omega) _).mono ?_
    rintro e w1 ⟨⟨s, rfl, hs⟩, rfl⟩
    have hsz := hs.size
    have hA := (show RdS (⟨#[45]⟩ : ByteArray) [45] from ⟨rfl, by simp⟩).app hs (by simp; omega)
    have hle : ¬ ((⟨#[45]⟩ : ByteArray).size + s.size > 9223372036854775807) := by
      rw [hsz, show (⟨#[45]⟩ : ByteArray).size = 1 from rfl]; omega
    have HA := Lib.hid hA
    clear hA hs hsz
    go_wp2
    go_ret
    exact ⟨⟨_, rfl, by rw [HD.out]; exact HA.out⟩, rfl⟩
  · obtain ⟨n, rfl⟩ := Int.eq_ofNat_of_zero_le (by omega : 0 ≤ x)
    have HD := Lib.hid (show sdec (n : Int) = dec n by unfold sdec; rw [if_neg hx]; rfl)
    go_enter Tryz.func24, Tryz.ntmps24
    go_wp2_with fail
    refine (ref_Decimal n (by omega) _).mono ?_
    rintro e w1 ⟨⟨s, rfl, hs⟩, rfl⟩
    go_wp2
    go_ret
    exact ⟨⟨s, rfl, by rw [HD.out]; exact hs⟩, rfl⟩

end Go.Proofs.YtdegeifklchjaaaGreatDoor
