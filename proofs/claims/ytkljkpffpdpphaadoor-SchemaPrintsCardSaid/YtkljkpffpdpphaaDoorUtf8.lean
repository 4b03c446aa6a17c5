/-
  UTF-8 as the document's own answer for layer 4 tells it: the mathematics, and the walk of deckleref04.UTF8.
-/
import Derived.Test.YtkljkpffpdpphaaDoorNums
set_option linter.unusedVariables false
set_option linter.unusedSimpArgs false
set_option maxRecDepth 1000000
namespace Go.Proofs.YtkljkpffpdpphaaDoor
open Go.RowKit

/-- What n bytes more make of c: nothing, if one is lacking, or is no such byte. -/
def utf8V : Nat → Nat → List UInt8 → Option Nat
  | 0, c, _ => some c
  | _ + 1, _, [] => none
  | n + 1, c, b :: r => if b.toNat / 64 = 2 then utf8V n (64 * c + b.toNat % 64) r else none

/-- May it be a rune, with as many bytes? -/
def runeOK (least v : Nat) : Bool := !(decide (v < least) || decide (1114111 < v) || (decide (55296 ≤ v) && decide (v < 57344)))

/-- The first byte: how many come behind, what it holds, and the least that may be. -/
def leadOf (c : Nat) : Option (Nat × Nat × Nat) :=
  if 194 ≤ c ∧ c < 224 then some (1, c % 32, 128)
  else if 224 ≤ c ∧ c < 240 then some (2, c % 16, 2048)
  else if 240 ≤ c ∧ c < 245 then some (3, c % 8, 65536)
  else none

def utf8 : List UInt8 → Bool
  | [] => true
  | c :: r =>
    if c.toNat < 128 then utf8 r
    else match leadOf c.toNat with
      | none => false
      | some (n, m, least) => match utf8V n m r with
        | none => false
        | some v => runeOK least v && utf8 (r.drop n)
  termination_by l => l.length
  decreasing_by all_goals (simp; try omega)

theorem utf8_nil : utf8 [] = true := by rw [utf8]
theorem utf8_low {c : UInt8} {r : List UInt8} (h : c.toNat < 128) : utf8 (c :: r) = utf8 r := by rw [utf8, if_pos h]
theorem utf8_none {c : UInt8} {r : List UInt8} (h : ¬ c.toNat < 128) (hl : leadOf c.toNat = none) : utf8 (c :: r) = false := by rw [utf8, if_neg h, hl]
theorem utf8_lead {c : UInt8} {r : List UInt8} {n m least : Nat} (h : ¬ c.toNat < 128) (hl : leadOf c.toNat = some (n, m, least)) : utf8 (c :: r) = (match utf8V n m r with
        | none => false
        | some v => runeOK least v && utf8 (r.drop n)) := by rw [utf8, if_neg h, hl]

theorem drop_cons8 {l : List UInt8} {i : Nat} (h : i < l.length) : l.drop i = l.getD i 0 :: l.drop (i + 1) := by
  rw [List.drop_eq_getElem_cons h]
  simp [List.getD, h]

theorem utf8V_next {n c i : Nat} {l : List UInt8} (h : i < l.length) : utf8V (n + 1) c (l.drop i) = if (l.getD i 0).toNat / 64 = 2 then utf8V n (64 * c + (l.getD i 0).toNat % 64) (l.drop (i + 1)) else none := by
  rw [drop_cons8 h, utf8V]
theorem utf8V_end {n c i : Nat} {l : List UInt8} (h : l.length ≤ i) : utf8V (n + 1) c (l.drop i) = none := by
  rw [List.drop_eq_nil_of_le h, utf8V]

/-- A string, as the walks read it. -/
structure RdS (s : ByteArray) (l : List UInt8) : Prop where
  eq : s = ⟨l.toArray⟩
  small : l.length ≤ 140737488351232

theorem RdS.len {s : ByteArray} {l : List UInt8} (h : RdS s l) : ∀ u, (Builtin.len_ #[9] 3 #[.string s]).run Tryd.prog u = .ok (.int .i64 (l.length : Int)) u := by
  intro u
  have e := run_len_string (P := Tryd.prog) (w := u) 9 3 (⟨l.toArray⟩ : ByteArray) Tryd.underlying9
  have hs : (⟨l.toArray⟩ : ByteArray).size = l.length := by simp [ByteArray.size]
  rw [hs] at e
  rw [h.eq]
  exact e

theorem RdS.idx {s : ByteArray} {l : List UInt8} (h : RdS s l) (i : Nat) (hi : i < l.length) : ∀ u, (Instr.index 9 (.string s) (.int .i64 (i : Int))).run Tryd.prog u = .ok (.int .u8 (at8 l i)) u := by
  intro u
  rw [h.eq]
  have hs : (⟨l.toArray⟩ : ByteArray).size = l.length := by simp [ByteArray.size]
  rw [run_index_string (P := Tryd.prog) u 9 ⟨l.toArray⟩ .i64 i Tryd.underlying9, dif_pos ⟨by omega, by rw [hs]; omega⟩, at8_eq hi]
  rfl

end Go.Proofs.YtkljkpffpdpphaaDoor
