/-
  Decimals read, as the document's own answer for layer 4 tells them.
-/
import Derived.Test.YtfleebllabolgaaDoorDigit
set_option linter.unusedVariables false
set_option linter.unusedSimpArgs false
namespace Go.Proofs.YtfleebllabolgaaDoor
open Go.RowKit

/-- The number of decimals, from n on: none at a byte that is none, or if it gets too great. -/
def undecV : List UInt8 → Nat → Option Nat
  | [], n => some n
  | c :: r, n => if (48 ≤ c.toNat ∧ c.toNat ≤ 57) ∧ 10 * n + (c.toNat - 48) < 18446744073709551616 then undecV r (10 * n + (c.toNat - 48)) else none

def undecC (l : List UInt8) : Option Nat := match undecV l 0 with
  | some n => if dec n = l then some n else none
  | none => none

theorem undecV_app : ∀ (a b : List UInt8) (n : Nat), undecV (a ++ b) n = (undecV a n).bind (undecV b)
  | [], b, n => rfl
  | c :: r, b, n => by
    simp only [List.cons_append, undecV]
    split
    · exact undecV_app r b _
    · rfl

theorem undecV_dec (x : Nat) : x < 18446744073709551616 → undecV (dec x) 0 = some x := by
  induction x using Nat.strongRecOn with
  | ind x ih =>
    intro hx
    have hb : ∀ d, d < 10 → (UInt8.ofNat (48 + d)).toNat = 48 + d := fun d hd => by rw [UInt8.toNat_ofNat']; omega
    by_cases h : x < 10
    · rw [dec_lo h, undecV, hb x h, if_pos (by omega), undecV]
      congr 1; omega
    · rw [dec_hi h, undecV_app, ih (x / 10) (by omega) (by omega), Option.bind_some, undecV, hb _ (by omega), if_pos (by omega), undecV]
      congr 1; omega

/-- What is read of a number's decimals is the number. -/
theorem undecC_dec {x : Nat} (hx : x < 18446744073709551616) : undecC (dec x) = some x := by
  unfold undecC
  rw [undecV_dec x hx]
  exact if_pos rfl
theorem undecC_some {l : List UInt8} {x : Nat} (h : undecC l = some x) : dec x = l := by
  unfold undecC at h
  split at h
  · split at h
    · rename_i hd
      injection h with h
      rw [← h]; exact hd
    · exact absurd h (by simp)
  · exact absurd h (by simp)

theorem undecV_lt : ∀ (l : List UInt8) (n : Nat) {m : Nat}, n < 18446744073709551616 → undecV l n = some m → m < 18446744073709551616
  | [], n, m, hn, h => by injection h with h; omega
  | c :: r, n, m, hn, h => by
    rw [undecV] at h
    split at h
    · rename_i hc; exact undecV_lt r _ hc.2 h
    · exact absurd h (by simp)

theorem undecV_step {l : List UInt8} {k n c : Nat} (h : k < l.length) (hc : (l.getD k 0).toNat = c) : undecV (l.drop k) n = if (48 ≤ c ∧ c ≤ 57) ∧ 10 * n + (c - 48) < 18446744073709551616 then undecV (l.drop (k + 1)) (10 * n + (c - 48)) else none := by
  rw [drop_cons8 h, undecV, hc]

end Go.Proofs.YtfleebllabolgaaDoor
