/-
  Package cell: what hangs on no function of the library: Float, Number, Int, Signed, the kinds, a float's rank, how two numbers stand.
-/
import Derived.Test.YtkljkpffpdpphaaDoorCellCmp
import Derived.Test.YtkljkpffpdpphaaDoorOrd
import Derived.Laws.BitsAllLaws
set_option linter.unusedVariables false
set_option linter.unusedSimpArgs false
set_option maxRecDepth 1000000
namespace Go.Proofs.YtkljkpffpdpphaaDoor
open Go.RowKit

theorem cell_isKind (kind : Int) (w : World) :
    Calls Tryd.prog 75 #[.int .i64 kind] w fun e w' => e = .returned (.bool (decide (0 ≤ kind ∧ kind ≤ 5))) ∧ w' = w := by
  by_cases h0 : kind ≥ 0
  · have hd : decide (kind ≥ 0) = true := decide_eq_true h0
    by_cases h6 : kind < 6
    · have hd2 : decide (kind < 6) = true := decide_eq_true h6
      rw [show decide (0 ≤ kind ∧ kind ≤ 5) = true from decide_eq_true (by omega)]
      go_enter Tryd.func75, Tryd.ntmps75
      go_wp2
      go_ret
      exact ⟨rfl, rfl⟩
    · have hd2 : decide (kind < 6) = false := decide_eq_false h6
      rw [show decide (0 ≤ kind ∧ kind ≤ 5) = false from decide_eq_false (by omega)]
      go_enter Tryd.func75, Tryd.ntmps75
      go_wp2
      go_ret
      exact ⟨rfl, rfl⟩
  · have hd : decide (kind ≥ 0) = false := decide_eq_false h0
    rw [show decide (0 ≤ kind ∧ kind ≤ 5) = false from decide_eq_false (by omega)]
    go_enter Tryd.func75, Tryd.ntmps75
    go_wp2
    go_ret
    exact ⟨rfl, rfl⟩

theorem not64 (x : Nat) (hx : x < 18446744073709551616) : bits .xor .u64 IntKind.u64.max (x : Int) = 18446744073709551615 - (x : Int) := by
  have h := u64_xor_nat 18446744073709551615 x (by omega) hx
  rw [show IntKind.u64.max = ((18446744073709551615 : Nat) : Int) from rfl, h]
  have e : 18446744073709551615 ^^^ x = 18446744073709551615 - x := by
    have h1 : (~~~ (BitVec.ofNat 64 x)).toNat = 2 ^ 64 - 1 - (BitVec.ofNat 64 x).toNat := BitVec.toNat_not
    rw [BitVec.not_def, BitVec.toNat_xor, BitVec.toNat_allOnes, BitVec.toNat_ofNat, Nat.mod_eq_of_lt (by omega)] at h1
    simpa using h1
  rw [e]
  omega

/-- How two numbers stand. -/
def ordZ (a b : Int) : Int := if a < b then -1 else if b < a then 1 else 0

end Go.Proofs.YtkljkpffpdpphaaDoor
