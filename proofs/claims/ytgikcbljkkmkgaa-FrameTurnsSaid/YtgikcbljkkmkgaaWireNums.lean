/-
  The walks of layer 1's functions on numbers alone: Size, Zig, Zag, of the program and of the document's answers.
-/
import Derived.Test.YtgikcbljkkmkgaaLen64
import Derived.Lib.Zigzag
set_option linter.unusedVariables false
set_option linter.unusedSimpArgs false
set_option maxRecDepth 1000000
namespace Go.Proofs.Ytgikcbljkkmkgaa
open Go.RowKit

theorem or_one_pos (x : Int) (h0 : 0 ≤ x) (h1 : x ≤ 18446744073709551615) :
    ∃ y : Int, bits .or .u64 x 1 = y ∧ 0 < y ∧ y ≤ 18446744073709551615 ∧ y.toNat.log2 < 64 ∧ (encU x.toNat).length = (y.toNat.log2 + 7) / 7 := by
  refine ⟨((x.toNat ||| 1 : Nat) : Int), ?_, ?_, ?_, ?_, ?_⟩
  · rw [u64_or x 1 h0 (by omega) (by decide) (by decide)]; rfl
  · have : 1 ≤ x.toNat ||| 1 := Nat.right_le_or
    omega
  · have : x.toNat ||| 1 < 2 ^ 64 := Nat.or_lt_two_pow (by omega) (by decide)
    omega
  · rw [Int.toNat_natCast]
    have h : x.toNat ||| 1 < 2 ^ 64 := Nat.or_lt_two_pow (by omega) (by decide)
    have : 1 ≤ x.toNat ||| 1 := Nat.right_le_or
    exact (Nat.log2_lt (by omega)).2 h
  · rw [Int.toNat_natCast, encU_length]

set_option maxHeartbeats 400000 in
theorem wire_Size (x : Int) (h0 : 0 ≤ x) (h1 : x ≤ 18446744073709551615) (w : World) :
    Calls Try.prog 23 #[.int .u64 x] w fun e w' => e = .returned (.int .i64 ((encU x.toNat).length : Nat)) ∧ w = w' := by
  obtain ⟨y, hy, hy0, hy1, hy2, hl⟩ := or_one_pos x h0 h1
  have Hl := Lib.hid hl
  clear hl
  go_enter Try.func23, Try.ntmps23
  go_wp2_with (go_at_call 36; refine (bits_Len64 _ (by omega) (by omega) _).mono ?_; rintro e w' ⟨rfl, rfl⟩)
  go_ret
  refine ⟨congrArg Ending.returned (congrArg (Value.int IntKind.i64) ?_), rfl⟩
  rw [Hl.out]
  generalize y.toNat.log2 = q at *
  omega

theorem zig_bits (x : Int) (h0 : -9223372036854775808 ≤ x) (h1 : x < 0) : bits .xor .u64 IntKind.u64.max (IntKind.u64.wrap (IntKind.u64.wrap x * 2)) = (zig x : Int) := by
  have e1 : IntKind.u64.wrap (IntKind.u64.wrap x * 2) = ((2 ^ 64 + 2 * x).toNat : Nat) := by
    simp [IntKind.wrap, IntKind.signed, IntKind.bits]; omega
  have e2 : IntKind.u64.max = ((2 ^ 64 - 1 : Nat) : Int) := by decide
  rw [e1, e2, u64_xor_nat _ _ (by decide) (by omega), Lib.xor_ones64 _ (by omega)]
  unfold zig; rw [if_pos h1]; omega

end Go.Proofs.Ytgikcbljkkmkgaa
