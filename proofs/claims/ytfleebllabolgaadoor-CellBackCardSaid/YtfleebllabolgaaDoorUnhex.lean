/-
  Bytes' digits read, as the document's own answer for layer 4 tells them.
-/
import Derived.Test.YtfleebllabolgaaDoorUnsig
set_option linter.unusedVariables false
set_option linter.unusedSimpArgs false
namespace Go.Proofs.YtfleebllabolgaaDoor
open Go.RowKit

def unhexV : List UInt8 → Option (List UInt8)
  | [] => some []
  | [_] => none
  | a :: b :: r => if 0 ≤ digV a.toNat ∧ 0 ≤ digV b.toNat then (unhexV r).map (UInt8.ofNat (16 * digV a.toNat + digV b.toNat).toNat :: ·) else none

/-- The bytes that digits tell. -/
def unhexC (l : List UInt8) : Option (List UInt8) := if l = [45] then some [] else if l = [] then none else unhexV l

theorem unhexV_odd : ∀ (l : List UInt8), l.length % 2 = 1 → unhexV l = none
  | [], h => by simp at h
  | [_], _ => rfl
  | a :: b :: r, h => by
    rw [unhexV, unhexV_odd r (by simp at h; omega)]
    split <;> rfl

theorem drop_cons2 {l : List UInt8} {k : Nat} (h : k + 1 < l.length) : l.drop k = l.getD k 0 :: l.getD (k + 1) 0 :: l.drop (k + 2) := by
  rw [drop_cons8 (by omega), drop_cons8 h]

theorem digV_bounds (c : Nat) : -1 ≤ digV c ∧ digV c ≤ 15 := by
  unfold digV; split
  · omega
  · split <;> omega

/-- What is read of bytes' digits is the bytes. -/
theorem unhexV_hexL (l : List UInt8) : unhexV (hexL l) = some l := by
  induction l with
  | nil => rfl
  | cons a r ih =>
    have ha := a.toNat_lt
    have e : hexL (a :: r) = dig (a.toNat / 16) :: dig (a.toNat % 16) :: hexL r := by unfold hexL; simp
    rw [e, unhexV, ih, digV_dig (by omega), digV_dig (by omega), if_pos (by omega)]
    simp
    rw [show (16 * ((a.toNat : Int) / 16) + (a.toNat : Int) % 16).toNat = a.toNat by omega]
    simp

theorem unhexC_hexC (l : List UInt8) : unhexC (hexC l) = some l := by
  unfold unhexC hexC
  by_cases h : l = []
  · rw [if_pos h, if_pos rfl, h]
  · have hl := hexL_len l
    have h0 : 0 < l.length := List.length_pos_iff.mpr h
    rw [if_neg h, if_neg (by intro e; rw [e] at hl; simp at hl; omega), if_neg (by intro e; rw [e] at hl; simp at hl; omega)]
    exact unhexV_hexL l

end Go.Proofs.YtfleebllabolgaaDoor
