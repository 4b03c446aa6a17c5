/-
  The walks of layer 1's functions on numbers alone: Size, Zig, Zag, of the program and of the document's answers.
-/
import Derived.Test.YtojjfocnkdijpaaLen64
import Derived.Lib.Zigzag
set_option linter.unusedVariables false
set_option linter.unusedSimpArgs false
namespace Go.Proofs.Ytojjfocnkdijpaa
open Go.RowKit

theorem or_one_pos (x : Int) (h0 : 0 ≤ x) (h1 : x ≤ 18446744073709551615) :
    ∃ y : Int, bits .or .u64 x 1 = y ∧ 0 < y ∧ y ≤ 18446744073709551615 ∧ y.toNat.log2 < 64 ∧ (encU x.toNat).length = (y.toNat.log2 + 7) / 7 := by
  refine ⟨((x.toNat ||| 1 : Nat) : Int), ?_, ?_, ?_, ?_, ?_⟩
  · rw [u64_or x 1 h0 (by omega) (by decide) (by decide)]; rfl
  · have : 1 ≤ x.toNat ||| 1 := Nat.right_le_or
    omega
  · have : x.toNat ||| 1 < 2 ^ 64 := Nat.or_lt_two_pow (by omega) (by decide)
    omega
  · rw [Int.toNat_natCast]
    have h : x.toNat ||| 1 < 2 ^ 64 := Nat.or_lt_two_pow (by omega) (by decide)
    have : 1 ≤ x.toNat ||| 1 := Nat.right_le_or
    exact (Nat.log2_lt (by omega)).2 h
  · rw [Int.toNat_natCast, encU_length]

set_option maxHeartbeats 400000 in
theorem wire_Size (x : Int) (h0 : 0 ≤ x) (h1 : x ≤ 18446744073709551615) (w : World) :
    Calls Try.prog 47 #[.int .u64 x] w fun e w' => e = .returned (.int .i64 ((encU x.toNat).length : Nat)) ∧ w = w' := by
  obtain ⟨y, hy, hy0, hy1, hy2, hl⟩ := or_one_pos x h0 h1
  have Hl := Lib.hid hl
  clear hl
  go_enter Try.func47, Try.ntmps47
  go_wp2_with (go_at_call 49; refine (bits_Len64 _ (by omega) (by omega) _).mono ?_; rintro e w' ⟨rfl, rfl⟩)
  go_ret
  refine ⟨congrArg Ending.returned (congrArg (Value.int IntKind.i64) ?_), rfl⟩
  rw [Hl.out]
  generalize y.toNat.log2 = q at *
  omega

theorem zig_bits (x : Int) (h0 : -9223372036854775808 ≤ x) (h1 : x < 0) : bits .xor .u64 IntKind.u64.max (IntKind.u64.wrap (IntKind.u64.wrap x * 2)) = (zig x : Int) := by
  have e1 : IntKind.u64.wrap (IntKind.u64.wrap x * 2) = ((2 ^ 64 + 2 * x).toNat : Nat) := by
    simp [IntKind.wrap, IntKind.signed, IntKind.bits]; omega
  have e2 : IntKind.u64.max = ((2 ^ 64 - 1 : Nat) : Int) := by decide
  rw [e1, e2, u64_xor_nat _ _ (by decide) (by omega), Lib.xor_ones64 _ (by omega)]
  unfold zig; rw [if_pos h1]; omega

set_option maxHeartbeats 400000 in
theorem wire_Zig (x : Int) (h0 : -9223372036854775808 ≤ x) (h1 : x ≤ 9223372036854775807) (w : World) :
    Calls Try.prog 46 #[.int .i64 x] w fun e w' => e = .returned (.int .u64 (zig x : Nat)) ∧ w = w' := by
  go_enter Try.func46, Try.ntmps46
  go_wp2
  all_goals go_ret
  all_goals refine ⟨congrArg Ending.returned (congrArg (Value.int IntKind.u64) ?_), rfl⟩
  · exact zig_bits x h0 (by assumption)
  · have : 0 ≤ x := by assumption
    unfold zig; rw [if_neg (by omega)]; omega

set_option maxHeartbeats 400000 in
theorem wire_Zag (x : Int) (h0 : 0 ≤ x) (h1 : x ≤ 18446744073709551615) (w : World) :
    Calls Try.prog 41 #[.int .u64 x] w fun e w' => e = .returned (.int .i64 (zag x.toNat)) ∧ w = w' := by
  go_enter Try.func41, Try.ntmps41
  go_wp2
  all_goals go_ret
  all_goals refine ⟨congrArg Ending.returned (congrArg (Value.int IntKind.i64) ?_), rfl⟩
  · have hx : (x % 2 == 1) = true := by assumption
    have hx' : x % 2 = 1 := by simpa using hx
    rw [show x / 2 = ((x.toNat / 2 : Nat) : Int) by omega, Lib.i64_not _ (by omega)]
    unfold zag; rw [if_pos (by omega)]; omega
  · have hx : (x % 2 == 1) = false := by assumption
    have hx' : ¬ x % 2 = 1 := by simpa using hx
    unfold zag; rw [if_neg (by omega)]; omega

set_option maxHeartbeats 400000 in
theorem ref_Zag (x : Int) (h0 : 0 ≤ x) (h1 : x ≤ 18446744073709551615) (w : World) :
    Calls Try.prog 42 #[.int .u64 x] w fun e w' => e = .returned (.int .i64 (zag x.toNat)) ∧ w = w' := by
  go_enter Try.func42, Try.ntmps42
  go_wp2
  all_goals go_ret
  all_goals refine ⟨congrArg Ending.returned (congrArg (Value.int IntKind.i64) ?_), rfl⟩
  · have hx : (x % 2 == 0) = true := by assumption
    have hx' : x % 2 = 0 := by simpa using hx
    unfold zag; rw [if_neg (by omega)]; omega
  · have hx : (x % 2 == 0) = false := by assumption
    have hx' : ¬ x % 2 = 0 := by simpa using hx
    unfold zag; rw [if_pos (by omega)]; omega

end Go.Proofs.Ytojjfocnkdijpaa
