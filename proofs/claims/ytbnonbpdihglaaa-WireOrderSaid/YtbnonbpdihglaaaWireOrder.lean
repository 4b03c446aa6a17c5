/-
  WireOrder: a number that isn't less has no fewer bytes; both ways of signs undo each other. For every input.
-/
import Derived.Test.YtbnonbpdihglaaaAlive
set_option linter.unusedVariables false
set_option linter.unusedSimpArgs false
namespace Go.Proofs.Ytbnonbpdihglaaa
open Go.RowKit

theorem zig_odd (x : Int) : ((x < 0) ↔ (zig x : Int) % 2 = 1) := by unfold zig; split <;> omega

set_option maxHeartbeats 1000000 in
set_option maxRecDepth 20000 in
theorem wireOrder_walk (a b x : Int) (w : World) (ha : 0 ≤ a ∧ a ≤ 18446744073709551615) (hb : 0 ≤ b ∧ b ≤ 18446744073709551615) (hx : -9223372036854775808 ≤ x ∧ x ≤ 9223372036854775807) :
    Calls Try.prog 7 #[.int .u64 a, .int .u64 b, .int .i64 x] w fun e w' => e = .returned (.bool true) ∧ Below w.heap.size w w' := by
  obtain ⟨ha0, ha1⟩ := ha
  obtain ⟨hb0, hb1⟩ := hb
  obtain ⟨hx0, hx1⟩ := hx
  have hzl := zig_lt x hx0 hx1
  have hzz : zag (zig x) = x := zag_zig x
  go_enter Try.func7, Try.ntmps7
  go_wp2_with fail
  refine (law01_alive w).mono ?_
  rintro e w1 ⟨rfl, hb⟩
  have hmono := encU_mono (a := (min a b).toNat) (b := (max a b).toNat) (by omega)
  go_wp2_with fail
  refine (wire_Size (min a b) (by omega) (by omega) w1).mono ?_
  rintro e w' ⟨rfl, rfl⟩
  go_wp2_with fail
  refine (wire_Size (max a b) (by omega) (by omega) w1).mono ?_
  rintro e w' ⟨rfl, rfl⟩
  go_wp2_with fail
  refine (wire_Zig x hx0 hx1 w1).mono ?_
  rintro e w' ⟨rfl, rfl⟩
  go_wp2_with fail
  refine (wire_Zag _ (by omega) (by omega) w1).mono ?_
  rintro e w' ⟨rfl, rfl⟩
  rw [Int.toNat_natCast, hzz]
  go_wp2_with fail
  refine (wire_Zag a ha0 ha1 w1).mono ?_
  rintro e w' ⟨rfl, rfl⟩
  have hbd : -9223372036854775808 ≤ zag a.toNat ∧ zag a.toNat ≤ 9223372036854775807 := by unfold zag; split <;> omega
  go_wp2_with fail
  refine (wire_Zig _ hbd.1 hbd.2 w1).mono ?_
  rintro e w' ⟨rfl, rfl⟩
  rw [zig_zag, show ((a.toNat : Nat) : Int) = a by omega]
  go_wp2_with fail
  refine (wire_Zig x hx0 hx1 w1).mono ?_
  rintro e w' ⟨rfl, rfl⟩
  have hodd : (decide (x < 0) == ((zig x : Int) % 2 == 1)) = true := by
    have := zig_odd x
    by_cases h : x < 0
    · have := this.1 h; simp [h, this]
    · have : ¬ (zig x : Int) % 2 = 1 := fun h' => h (this.2 h')
      simp [h, this]
  clear hzz hbd
  go_wp2_with fail
  go_ret
  exact ⟨rfl, hb⟩

end Go.Proofs.Ytbnonbpdihglaaa
