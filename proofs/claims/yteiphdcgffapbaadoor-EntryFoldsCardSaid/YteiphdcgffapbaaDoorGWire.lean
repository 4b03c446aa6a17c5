/-
  The plain mathematics of layer 1: the bytes of a number, and what they are read as. No program.
-/
import Derived.Test.YteiphdcgffapbaaDoorGBaseA
import Derived.Lib.BitFns
import Derived.Lib.Walk
import Derived.Deep.Light
import Derived.Lib.Zigzag
import Derived.Lib.Join
import Derived.Maps.OwnOps
import Derived.Maps.Views
set_option linter.unusedVariables false
set_option linter.unusedSimpArgs false
set_option maxRecDepth 1000000
namespace Go.Proofs.YteiphdcgffapbaaDoor

section
variable {l : List UInt8} {k : Nat} (h1 : ∀ j, j < k → 128 ≤ at8 l j)
include h1
end

end Go.Proofs.YteiphdcgffapbaaDoor


/-
  math/bits.Len64, walked: how many bits a number has.
-/
namespace Go.Proofs.YteiphdcgffapbaaDoor
open Go.RowKit

end Go.Proofs.YteiphdcgffapbaaDoor


/-
  The walks of layer 1's functions on numbers alone: Size, Zig, Zag, of the program and of the document's answers.
-/
namespace Go.Proofs.YteiphdcgffapbaaDoor
open Go.RowKit

end Go.Proofs.YteiphdcgffapbaaDoor


/-
  The walks of layer 1's functions that write bytes: putUint, Uint, Int, Bytes.
-/
namespace Go.Proofs.YteiphdcgffapbaaDoor
open Go.RowKit

end Go.Proofs.YteiphdcgffapbaaDoor


/-
  The walks of layer 1's functions: what each call answers, of the program and of the document's own answers.
-/
namespace Go.Proofs.YteiphdcgffapbaaDoor
open Go.RowKit

end Go.Proofs.YteiphdcgffapbaaDoor


/-
  The walks of layer 1's functions that get: GetInt, GetBytes.
-/
namespace Go.Proofs.YteiphdcgffapbaaDoor
open Go.RowKit

end Go.Proofs.YteiphdcgffapbaaDoor


/-
  What the document says of a schema, in lists: faults, bytes, texts (no program in it).
-/
namespace Go.Proofs.YteiphdcgffapbaaDoor
open Go.RowKit

/-- A column: its name's bytes, its kind. -/
abbrev Col := List UInt8 × Int
def names (cs : List Col) : List (List UInt8) := cs.map (·.1)

def letterB (c : Nat) : Bool := decide (97 ≤ c ∧ c ≤ 122 ∨ 48 ≤ c ∧ c ≤ 57 ∨ c = 95)
/-- A name that may be, behind some others. -/
def fine (n : List UInt8) (ahead : List (List UInt8)) : Bool := !n.isEmpty && (n.all (fun c => letterB c.toNat) && !ahead.contains n)

def colErr (ah : List (List UInt8)) (c : Col) : Nat := if 32 < c.1.length then 7 else if fine c.1 ah = false then 2 else if c.2 < 0 ∨ 5 < c.2 then 10 else 0
def errFrom : List (List UInt8) → List Col → Nat
  | _, [] => 0
  | ah, c :: r => if colErr ah c ≠ 0 then colErr ah c else errFrom (ah ++ [c.1]) r
/-- What is wrong with a schema. -/
def errS (cs : List Col) : Nat := if cs.length = 0 then 4 else if 8 < cs.length then 13 else errFrom [] cs

theorem drop_cons {α : Type} {l : List α} {k : Nat} (h : k < l.length) (d : α) : l.drop k = l.getD k d :: l.drop (k + 1) := by
  rw [List.drop_eq_getElem_cons h]; simp [List.getD, h]
theorem errFrom_step {cs : List Col} {k : Nat} (h : k < cs.length) : errFrom (names (cs.take k)) (cs.drop k) = if colErr (names (cs.take k)) (cs.getD k default) ≠ 0 then colErr (names (cs.take k)) (cs.getD k default) else errFrom (names (cs.take (k + 1))) (cs.drop (k + 1)) := by
  rw [drop_cons h default, errFrom, take_succD h default]
  simp [names]

theorem colErr_zero {ah : List (List UInt8)} {c : Col} (h : colErr ah c = 0) : c.1.length ≤ 32 ∧ fine c.1 ah = true ∧ 0 ≤ c.2 ∧ c.2 ≤ 5 := by
  unfold colErr at h
  split at h
  · cases h
  · split at h
    · cases h
    · split at h
      · cases h
      · rename_i h1 h2 h3
        exact ⟨by omega, by simpa using h2, by omega, by omega⟩
theorem errFrom_zero : ∀ (cs : List Col) (ah : List (List UInt8)), errFrom ah cs = 0 → ∀ c ∈ cs, c.1.length ≤ 32 ∧ 0 ≤ c.2 ∧ c.2 ≤ 5
  | [], _, _, c, hc => absurd hc (by simp)
  | x :: r, ah, h, c, hc => by
    rw [errFrom] at h
    split at h
    · rename_i h1; exact absurd h h1
    · rename_i h1
      have h0 : colErr ah x = 0 := Decidable.of_not_not h1
      obtain ⟨a1, _, a3, a4⟩ := colErr_zero h0
      rcases List.mem_cons.1 hc with rfl | hc
      · exact ⟨a1, a3, a4⟩
      · exact errFrom_zero r _ h c hc
theorem errS_zero {cs : List Col} (h : errS cs = 0) : 0 < cs.length ∧ cs.length ≤ 8 ∧ errFrom [] cs = 0 ∧ ∀ c ∈ cs, c.1.length ≤ 32 ∧ 0 ≤ c.2 ∧ c.2 ≤ 5 := by
  unfold errS at h
  split at h
  · cases h
  · split at h
    · cases h
    · exact ⟨by omega, by omega, h, errFrom_zero cs [] h⟩
end Go.Proofs.YteiphdcgffapbaaDoor


/-
  The names that were: a map from strings to bools that the call has made, held by a closure.
-/
namespace Go.Proofs.YteiphdcgffapbaaDoor
open Go.RowKit Go.Maps

theorem keyedS : Keyed Tryd.prog 9 := string_keyed Tryd.underlying9
theorem zeroBool (w : World) : (zeroValue 4).run Tryd.prog w = .ok (.bool false) w := by kernel_rfl

/-- The map in block m holds just these names. -/
def SetOf (w : World) (m : Nat) (ahead : List (List UInt8)) : Prop :=
  ∃ D : DataW Unit, w.ownsMap Tryd.prog 9 (plainElem Tryd.prog 4) m ahead.length D ∧ ∀ l, D.atKey (.string l) (.lit (.bool false)) = .lit (.bool (ahead.contains l))

theorem SetOf.lt {w : World} {m : Nat} {a : List (List UInt8)} (h : SetOf w m a) : m < w.heap.size := by obtain ⟨D, h, _⟩ := h; exact h.lt
theorem SetOf.made (w : World) : SetOf (w.alloc (.map #[] 0)) w.heap.size [] :=
  ⟨.map [], World.ownsMap_made w _ _ _, fun l => by simp [DataW.atKey]⟩
theorem SetOf.kept {w w' : World} {m : Nat} {a : List (List UInt8)} {r : Option Nat} (h : SetOf w m a) (hg : w.grownBy w' r) (hne : some m ≠ r) : SetOf w' m a := by
  obtain ⟨D, h1, h2⟩ := h
  exact ⟨D, h1.kept hg hne, h2⟩
theorem SetOf.later {w w' : World} {m : Nat} {a : List (List UInt8)} {B : Nat} (h : SetOf w m a) (hb : Below B w w') (hB : w.heap.size ≤ B) : SetOf w' m a :=
  h.kept (r := none) ⟨hb.os, hb.tape, hb.output, hb.size, fun j hj _ => hb.block j (Nat.lt_of_lt_of_le hj hB)⟩ (by simp)
theorem SetOf.alloc {w : World} {m : Nat} {a : List (List UInt8)} (h : SetOf w m a) (o : Obj) : SetOf (w.alloc o) m a := by
  obtain ⟨D, h1, h2⟩ := h
  exact ⟨D, h1.alloc o, h2⟩
theorem SetOf.drew {w : World} {m : Nat} {a : List (List UInt8)} (h : SetOf w m a) : SetOf w.drew m a := by
  obtain ⟨D, h1, h2⟩ := h
  exact ⟨D, h1.drew, h2⟩

/-- An element that reads as a bool's datum is that bool. -/
theorem plainElem_bool_inv {P : Program} {e : TypeId} (he : P.underlying e = some .bool) {v : Value} {z : DataW Unit × List MemPlace} (h : plainElem P e v = some z) : ∃ x, v = .bool x ∧ z = (.lit (.bool x), []) := by
  unfold plainElem at h
  rw [he] at h
  split at h
  · rename_i x h1
    exact ⟨x, rfl, by cases h; rfl⟩
  · cases ‹some TypeDesc.bool = some (TypeDesc.int _)›
  · cases ‹some TypeDesc.bool = some TypeDesc.string›
  · cases h

/-- 'were[name]'. -/
theorem SetOf.look {w : World} {m : Nat} {a : List (List UInt8)} (h : SetOf w m a) (s : ByteArray) (hs : s.size ≤ maxLen) :
    (Instr.lookup 111 (.map (some m)) (.string s) false).run Tryd.prog w = .ok (.bool (a.contains s.data.toList)) w := by
  obtain ⟨D, h1, h2⟩ := h
  obtain ⟨v, ps, hr, hv⟩ := h1.lookup keyedS Tryd.underlying111 (zeroBool w) (plainElem_bool Tryd.underlying4 false) (WideMaps.keyOf_string_mk Tryd.underlying9 hs)
  obtain ⟨x, rfl, hx⟩ := plainElem_bool_inv Tryd.underlying4 hv
  simp only [Prod.mk.injEq] at hx
  rw [h2] at hx
  have e : a.contains s.data.toList = x := by simpa using hx.1
  rw [hr, e]

/-- 'were[name] = true'. -/
theorem wpl_setName {ops : Array Oper} {Q : Exit → Act → World → Prop} {rest : List Oper} {a : Act} {w : World} {dst : Option Tmp} {ty : TypeId} {pos : String} {aft : Array Edge} {mo x v : Operand}
    (m : Nat) (ah : List (List UInt8)) (h : SetOf w m ah) (hm : a.eval mo = .map (some m)) (s : ByteArray) (hs : s.size ≤ maxLen) (hx : a.eval x = .string s) (hv : a.eval v = .bool true) (hn : ah.length < maxLen)
    (hK : ∀ w', SetOf w' m (ah ++ [s.data.toList]) → w.grownBy w' (some m) → wpList Tryd.prog ops Q rest (a.put dst undef) w') :
    wpList Tryd.prog ops Q (⟨dst, .mapUpdate 111 mo x v, ty, pos, aft, none⟩ :: rest) a w := by
  obtain ⟨D, h1, h2⟩ := h
  refine wpList_mapUpdate_own w rfl mo x v 111 rfl 9 4 keyedS Tryd.underlying111 (plainElem Tryd.prog 4) m ah.length D hm h1 hn (.string s) (.bool true) (.string s.data.toList) hx hv (WideMaps.keyOf_string_mk Tryd.underlying9 hs) (.lit (.bool true)) [] (plainElem_bool Tryd.underlying4 true) ?_
  intro w' r1 r2
  refine hK w' ⟨_, by rw [List.length_append]; exact r1, fun l => ?_⟩ r2
  by_cases he : l = s.data.toList
  · subst he
    rw [atKey_put_same h1.isMap (show WideAt.IsKeyLit (.string s.data.toList) from trivial)]
    simp
  · rw [atKey_put_other (fun hh => he (by injection hh)), h2]
    have e : (ah ++ [s.data.toList]).contains l = ah.contains l := by
      rw [Bool.eq_iff_iff]
      simp [he]
    rw [e]

end Go.Proofs.YteiphdcgffapbaaDoor

