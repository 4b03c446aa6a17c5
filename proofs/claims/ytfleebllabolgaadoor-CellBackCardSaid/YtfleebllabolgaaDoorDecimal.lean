/-
  Decimals as the document's own answer for layer 4 tells them.
-/
import Derived.Test.YtfleebllabolgaaDoorCellRef
set_option linter.unusedVariables false
set_option linter.unusedSimpArgs false
set_option maxRecDepth 1000000
namespace Go.Proofs.YtfleebllabolgaaDoor
open Go.RowKit

/-- The decimals of a number. -/
def dec (x : Nat) : List UInt8 := if x < 10 then [UInt8.ofNat (48 + x)] else dec (x / 10) ++ [UInt8.ofNat (48 + x % 10)]
  termination_by x
  decreasing_by omega

theorem dec_lo {x : Nat} (h : x < 10) : dec x = [UInt8.ofNat (48 + x)] := by rw [dec, if_pos h]
theorem dec_hi {x : Nat} (h : ¬ x < 10) : dec x = dec (x / 10) ++ [UInt8.ofNat (48 + x % 10)] := by rw [dec, if_neg h]

theorem dec_len : ∀ (k x : Nat), x < 10 ^ (k + 1) → (dec x).length ≤ k + 1
  | 0, x, h => by rw [dec_lo (by simpa using h)]; simp
  | k + 1, x, h => by
    by_cases h1 : x < 10
    · rw [dec_lo h1]; simp
    · rw [dec_hi h1, List.length_append]
      have := dec_len k (x / 10) (by rw [Nat.div_lt_iff_lt_mul (by decide)]; rw [Nat.pow_succ] at h; exact h)
      simp; omega

/-- The digit's character. -/
def dig (r : Nat) : UInt8 := if r < 10 then UInt8.ofNat (48 + r) else UInt8.ofNat (87 + r)
def digits16 : ByteArray := ⟨#[48, 49, 50, 51, 52, 53, 54, 55, 56, 57, 97, 98, 99, 100, 101, 102]⟩
theorem digit_at {r : Nat} (h : r < 16) : digits16.extract r (r + 1) = ⟨#[dig r]⟩ := by
  obtain rfl | rfl | rfl | rfl | rfl | rfl | rfl | rfl | rfl | rfl | rfl | rfl | rfl | rfl | rfl | rfl : r = 0 ∨ r = 1 ∨ r = 2 ∨ r = 3 ∨ r = 4 ∨ r = 5 ∨ r = 6 ∨ r = 7 ∨ r = 8 ∨ r = 9 ∨ r = 10 ∨ r = 11 ∨ r = 12 ∨ r = 13 ∨ r = 14 ∨ r = 15 := by omega
  all_goals decide

theorem RdS.app {a b : ByteArray} {l m : List UInt8} (ha : RdS a l) (hb : RdS b m) (h : l.length + m.length ≤ 140737488351232) : RdS (a ++ b) (l ++ m) := by
  refine ⟨?_, by simpa using h⟩
  rw [ha.eq, hb.eq, ByteArray.mk_append_mk]
theorem RdS.size {s : ByteArray} {l : List UInt8} (h : RdS s l) : s.size = l.length := by rw [h.eq]; simp [ByteArray.size]

/-- A number for a string's being empty (for a measure). -/
def emptyN : Value → Nat
  | .string s => if s.toList.isEmpty then 1 else 0
  | _ => 0

end Go.Proofs.YtfleebllabolgaaDoor
