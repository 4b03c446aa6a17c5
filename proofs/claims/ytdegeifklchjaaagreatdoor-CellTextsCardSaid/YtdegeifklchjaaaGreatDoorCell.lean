/-
  Package cell: what hangs on no function of the library: Float, Number, Int, Signed, the kinds, a float's rank, how two numbers stand.
-/
import Derived.Test.YtdegeifklchjaaaGreatDoorCellCmp
import Derived.Test.YtdegeifklchjaaaGreatDoorOrd
import Derived.Laws.BitsAllLaws
set_option linter.unusedVariables false
set_option linter.unusedSimpArgs false
set_option maxRecDepth 1000000
namespace Go.Proofs.YtdegeifklchjaaaGreatDoor
open Go.RowKit

theorem to_bits (x : Nat) (w : World) : (callFunc 28 #[.float .f64 x]).run Tryz.prog w = .ok (.value (.int .u64 (x : Int))) w := by
  have := run_callFunc_extern (P := Tryz.prog) (f := 28) (e := Extern.MathFloatBits.float64bits) Tryz.func28 (by kernel_rfl) (by kernel_rfl) (by kernel_rfl) (by kernel_rfl) #[.float .f64 x] w
  rw [this]
  rfl

theorem cell_isKind (kind : Int) (w : World) :
    Calls Tryz.prog 17 #[.int .i64 kind] w fun e w' => e = .returned (.bool (decide (0 ≤ kind ∧ kind ≤ 5))) ∧ w' = w := by
  by_cases h0 : kind ≥ 0
  · have hd : decide (kind ≥ 0) = true := decide_eq_true h0
    by_cases h6 : kind < 6
    · have hd2 : decide (kind < 6) = true := decide_eq_true h6
      rw [show decide (0 ≤ kind ∧ kind ≤ 5) = true from decide_eq_true (by omega)]
      go_enter Tryz.func17, Tryz.ntmps17
      go_wp2
      go_ret
      exact ⟨rfl, rfl⟩
    · have hd2 : decide (kind < 6) = false := decide_eq_false h6
      rw [show decide (0 ≤ kind ∧ kind ≤ 5) = false from decide_eq_false (by omega)]
      go_enter Tryz.func17, Tryz.ntmps17
      go_wp2
      go_ret
      exact ⟨rfl, rfl⟩
  · have hd : decide (kind ≥ 0) = false := decide_eq_false h0
    rw [show decide (0 ≤ kind ∧ kind ≤ 5) = false from decide_eq_false (by omega)]
    go_enter Tryz.func17, Tryz.ntmps17
    go_wp2
    go_ret
    exact ⟨rfl, rfl⟩

theorem not64 (x : Nat) (hx : x < 18446744073709551616) : bits .xor .u64 IntKind.u64.max (x : Int) = 18446744073709551615 - (x : Int) := by
  have h := u64_xor_nat 18446744073709551615 x (by omega) hx
  rw [show IntKind.u64.max = ((18446744073709551615 : Nat) : Int) from rfl, h]
  have e : 18446744073709551615 ^^^ x = 18446744073709551615 - x := by
    have h1 : (~~~ (BitVec.ofNat 64 x)).toNat = 2 ^ 64 - 1 - (BitVec.ofNat 64 x).toNat := BitVec.toNat_not
    rw [BitVec.not_def, BitVec.toNat_xor, BitVec.toNat_allOnes, BitVec.toNat_ofNat, Nat.mod_eq_of_lt (by omega)] at h1
    simpa using h1
  rw [e]
  omega

/-- A float's rank. -/
theorem cell_rank (x : Nat) (hx : x < 18446744073709551616) (w : World) :
    Calls Tryz.prog 32 #[.int .u64 (x : Int)] w fun e w' => e = .returned (.int .u64 (tkey x + 9223372036854775808)) ∧ w' = w := by
  by_cases h : x < 9223372036854775808
  · have hd : decide ((x : Int) ≥ 9223372036854775808) = false := decide_eq_false (by omega)
    rw [tkey_lo h]
    go_enter Tryz.func32, Tryz.ntmps32
    go_wp2
    go_ret
    refine ⟨?_, rfl⟩
    simp
  · have hd : decide ((x : Int) ≥ 9223372036854775808) = true := decide_eq_true (by omega)
    rw [tkey_hi h]
    have hn := not64 x hx
    go_enter Tryz.func32, Tryz.ntmps32
    go_wp2
    go_ret
    refine ⟨?_, rfl⟩
    simp
    omega

/-- How two numbers stand. -/
def ordZ (a b : Int) : Int := if a < b then -1 else if b < a then 1 else 0

theorem cmp_i64 (a b : Int) (w : World) :
    Calls Tryz.prog 29 #[.int .i64 a, .int .i64 b] w fun e w' => e = .returned (.int .i64 (ordZ a b)) ∧ w' = w := by
  rcases Int.lt_trichotomy a b with h | h | h
  · have hd : decide (a < b) = true := decide_eq_true h
    rw [show ordZ a b = -1 from if_pos h]
    go_enter Tryz.func29, Tryz.ntmps29
    go_wp2
    go_ret
    exact ⟨rfl, rfl⟩
  · subst h
    have hd : decide (a < a) = false := decide_eq_false (by omega)
    have hd2 : decide (a > a) = false := decide_eq_false (by omega)
    rw [show ordZ a a = 0 from by unfold ordZ; rw [if_neg (by omega), if_neg (by omega)]]
    go_enter Tryz.func29, Tryz.ntmps29
    go_wp2
    go_ret
    exact ⟨rfl, rfl⟩
  · have hd : decide (a < b) = false := decide_eq_false (by omega)
    have hd2 : decide (a > b) = true := decide_eq_true h
    rw [show ordZ a b = 1 from by unfold ordZ; rw [if_neg (by omega), if_pos h]]
    go_enter Tryz.func29, Tryz.ntmps29
    go_wp2
    go_ret
    exact ⟨rfl, rfl⟩

theorem cmp_u64 (a b : Int) (w : World) :
    Calls Tryz.prog 31 #[.int .u64 a, .int .u64 b] w fun e w' => e = .returned (.int .i64 (ordZ a b)) ∧ w' = w := by
  rcases Int.lt_trichotomy a b with h | h | h
  · have hd : decide (a < b) = true := decide_eq_true h
    rw [show ordZ a b = -1 from if_pos h]
    go_enter Tryz.func31, Tryz.ntmps31
    go_wp2
    go_ret
    exact ⟨rfl, rfl⟩
  · subst h
    have hd : decide (a < a) = false := decide_eq_false (by omega)
    have hd2 : decide (a > a) = false := decide_eq_false (by omega)
    rw [show ordZ a a = 0 from by unfold ordZ; rw [if_neg (by omega), if_neg (by omega)]]
    go_enter Tryz.func31, Tryz.ntmps31
    go_wp2
    go_ret
    exact ⟨rfl, rfl⟩
  · have hd : decide (a < b) = false := decide_eq_false (by omega)
    have hd2 : decide (a > b) = true := decide_eq_true h
    rw [show ordZ a b = 1 from by unfold ordZ; rw [if_neg (by omega), if_pos h]]
    go_enter Tryz.func31, Tryz.ntmps31
    go_wp2
    go_ret
    exact ⟨rfl, rfl⟩

theorem cell_Signed (x : Nat) (hx : x < 18446744073709551616) (s : ByteArray) (w : World) :
    Calls Tryz.prog 30 #[cellV x s] w fun e w' => e = .returned (.int .i64 (wrap64 (x : Int))) ∧ Below w.heap.size w w' := by
  unfold cellV
  go_enter Tryz.func30, Tryz.ntmps30
  go_wp2
  go_ret
  exact ⟨rfl, (Below.refl _ _).alloc (Nat.le_refl _) _⟩

end Go.Proofs.YtdegeifklchjaaaGreatDoor
