/-
  A digit's number, and decimals read, as the document's own answer for layer 4 tells them.
-/
import Derived.Test.YtfleebllabolgaaDoorHex
set_option linter.unusedVariables false
set_option linter.unusedSimpArgs false
namespace Go.Proofs.YtfleebllabolgaaDoor
open Go.RowKit

/-- A digit to the base 16; -1: it is none. -/
def digV (c : Nat) : Int := if 48 ≤ c ∧ c ≤ 57 then (c : Int) - 48 else if 97 ≤ c ∧ c ≤ 102 then (c : Int) - 87 else -1

theorem dig_val {i : Nat} (h : i < 16) : ((dig i).toNat : Int) = if i < 10 then 48 + (i : Int) else 87 + (i : Int) := by
  unfold dig
  split
  · rw [UInt8.toNat_ofNat']; omega
  · rw [UInt8.toNat_ofNat']; omega

theorem digV_dig {i : Nat} (h : i < 16) : digV (dig i).toNat = i := by
  have := dig_val h
  unfold digV
  split at this
  · rw [if_pos (by omega)]; omega
  · rw [if_neg (by omega), if_pos (by omega)]; omega

theorem digV_none {c : Nat} (h : ∀ j, j < 16 → (dig j).toNat ≠ c) : digV c = -1 := by
  unfold digV
  split
  · rename_i h1
    exfalso
    have h2 := dig_val (i := c - 48) (by omega)
    rw [if_pos (by omega)] at h2
    exact h (c - 48) (by omega) (by omega)
  · split
    · rename_i h1 h3
      exfalso
      have h2 := dig_val (i := c - 87) (by omega)
      rw [if_neg (by omega)] at h2
      exact h (c - 87) (by omega) (by omega)
    · rfl

theorem dig_list : ∀ i, i < 16 → ([48, 49, 50, 51, 52, 53, 54, 55, 56, 57, 97, 98, 99, 100, 101, 102] : List UInt8).getD i 0 = dig i := by decide

theorem digits_rd : RdS ({ data := #[48, 49, 50, 51, 52, 53, 54, 55, 56, 57, 97, 98, 99, 100, 101, 102] } : ByteArray) [48, 49, 50, 51, 52, 53, 54, 55, 56, 57, 97, 98, 99, 100, 101, 102] := ⟨rfl, by simp⟩

end Go.Proofs.YtfleebllabolgaaDoor
