/-
  math/bits.Len64, walked: how many bits a number has.
-/
import Derived.Test.YtgikcbljkkmkgaaWireMath
import Derived.Lib.BitFns
import Derived.Lib.Walk
import Derived.Deep.Light
set_option linter.unusedVariables false
set_option linter.unusedSimpArgs false
set_option maxRecDepth 1000000
namespace Go.Proofs.Ytgikcbljkkmkgaa
open Go.RowKit

theorem len8_log (y : Int) (h0 : 0 < y) (h1 : y ≤ 255) : Lib.len8 y = (y.toNat.log2 + 1 : Nat) := by
  have h : ∀ n : Fin 256, n.val ≠ 0 → Lib.len8 (n.val : Int) = (n.val.log2 + 1 : Nat) := by decide +kernel
  have := h ⟨y.toNat, by omega⟩ (by simp; omega)
  simp only at this
  rw [show ((y.toNat : Nat) : Int) = y by omega] at this
  exact this

theorem log2_shift (x s : Nat) (h : 2 ^ s ≤ x) : x.log2 = (x / 2 ^ s).log2 + s := by
  have hp : 0 < 2 ^ s := Nat.two_pow_pos s
  have hx : x / 2 ^ s ≠ 0 := by have := (Nat.le_div_iff_mul_le hp).2 (show 1 * 2 ^ s ≤ x by omega); omega
  have h1 := Nat.log2_self_le hx
  have h2 : x / 2 ^ s < 2 ^ ((x / 2 ^ s).log2 + 1) := Nat.lt_log2_self
  exact (Nat.log2_eq_iff (by omega)).2
    ⟨by rw [Nat.pow_add]; exact (Nat.le_div_iff_mul_le hp).1 h1, by rw [show (x / 2 ^ s).log2 + s + 1 = ((x / 2 ^ s).log2 + 1) + s by omega, Nat.pow_add]; exact (Nat.div_lt_iff_lt_mul hp).1 h2⟩

/-- A way's end: what is left is below 256, behind s bits. -/
theorem len_way (x y : Int) (s : Nat) (hy : y = ((x.toNat / 2 ^ s : Nat) : Int)) (hs : 2 ^ s ≤ x.toNat) (hy1 : y ≤ 255) :
    (s : Int) + Lib.len8 y = (x.toNat.log2 + 1 : Nat) := by
  have hp : 0 < 2 ^ s := Nat.two_pow_pos s
  have hx : 0 < x.toNat / 2 ^ s := (Nat.le_div_iff_mul_le hp).2 (show 1 * 2 ^ s ≤ x.toNat by omega)
  rw [len8_log y (by omega) hy1, log2_shift x.toNat s hs, hy, Int.toNat_natCast]
  omega

theorem len8_bd (y : Int) (h0 : 0 < y) (h1 : y ≤ 255) : 1 ≤ Lib.len8 y ∧ Lib.len8 y ≤ 8 := by
  rw [len8_log y h0 h1]
  have := (Nat.log2_lt (n := y.toNat) (k := 8) (by omega)).2 (by omega)
  omega

theorem tab_get (y : Int) (h : y.toNat < Lib.len8tab.size) : ((Lib.len8tab[y.toNat]'h).toNat : Int) = Lib.len8 y := by
  unfold Lib.len8
  rw [getElem?_pos Lib.len8tab y.toNat h]
  rfl

theorem wrap_two (k z : Int) (h0 : 0 ≤ k) (h1 : k ≤ 56) (h2 : 1 ≤ z ∧ z ≤ 8) : wrap64 (k + wrap64 z) = k + z := by unfold wrap64; omega
theorem wrap_twice (z : Int) (h2 : 1 ≤ z ∧ z ≤ 8) : wrap64 (wrap64 z) = z := by unfold wrap64; omega

theorem len_end (x y : Int) (s : Nat) (h : y.toNat < Lib.len8tab.size) (_h0 : 0 < x) (hs : 2 ^ s ≤ x.toNat) (hs56 : s ≤ 56) (hy : y = ((x.toNat / 2 ^ s : Nat) : Int)) (hy1 : y ≤ 255) (hy0 : 0 < y) :
    wrap64 ((s : Int) + wrap64 (Lib.len8tab[y.toNat]'h).toNat) = (x.toNat.log2 + 1 : Nat) := by
  rw [tab_get, wrap_two _ _ (by omega) (by omega) (len8_bd y hy0 hy1)]
  exact len_way x y s hy hs hy1

theorem len_end0 (x : Int) (h : x.toNat < Lib.len8tab.size) (h0 : 0 < x) (hy1 : x ≤ 255) :
    wrap64 (wrap64 (Lib.len8tab[x.toNat]'h).toNat) = (x.toNat.log2 + 1 : Nat) := by
  rw [tab_get, wrap_twice _ (len8_bd x h0 hy1), len8_log x h0 hy1]

set_option maxHeartbeats 4000000 in
set_option maxRecDepth 1000000 in
theorem bits_Len64 (x : Int) (h0 : 0 < x) (h1 : x ≤ 18446744073709551615) (w : World) :
    Calls Try.prog 36 #[.int .u64 x] w fun e w' => e = .returned (.int .i64 (x.toNat.log2 + 1 : Nat)) ∧ w = w' := by
  go_enter Try.func36, Try.ntmps36
  go_wp2
  all_goals first
    | (go_ret; refine ⟨congrArg Ending.returned (congrArg (Value.int IntKind.i64) ?_), rfl⟩; go_light)
    | (exfalso
       go_light
       have hs := Lib.len8tab_size
       omega)
  all_goals first
    | exact len_end x (x / 4294967296 / 65536 / 256) 56 _ h0 (by omega) (by omega) (by omega) (by omega) (by omega)
    | exact len_end x (x / 4294967296 / 65536) 48 _ h0 (by omega) (by omega) (by omega) (by omega) (by omega)
    | exact len_end x (x / 4294967296 / 256) 40 _ h0 (by omega) (by omega) (by omega) (by omega) (by omega)
    | exact len_end x (x / 4294967296) 32 _ h0 (by omega) (by omega) (by omega) (by omega) (by omega)
    | exact len_end x (x / 65536 / 256) 24 _ h0 (by omega) (by omega) (by omega) (by omega) (by omega)
    | exact len_end x (x / 65536) 16 _ h0 (by omega) (by omega) (by omega) (by omega) (by omega)
    | exact len_end x (x / 256) 8 _ h0 (by omega) (by omega) (by omega) (by omega) (by omega)
    | exact len_end0 x _ h0 (by omega)

end Go.Proofs.Ytgikcbljkkmkgaa
