/-
  The names that were: a map from strings to bools that the call has made, held by a closure.
-/
import Derived.Test.YtkljkpffpdpphaaDoorStructs
import Derived.Maps.OwnOps
import Derived.Maps.Views
set_option linter.unusedVariables false
set_option linter.unusedSimpArgs false
set_option maxRecDepth 1000000
namespace Go.Proofs.YtkljkpffpdpphaaDoor
open Go.RowKit Go.Maps

theorem keyedS : Keyed Tryd.prog 9 := string_keyed Tryd.underlying9
theorem zeroBool (w : World) : (zeroValue 4).run Tryd.prog w = .ok (.bool false) w := by kernel_rfl

/-- The map in block m holds just these names. -/
def SetOf (w : World) (m : Nat) (ahead : List (List UInt8)) : Prop :=
  ∃ D : DataW Unit, w.ownsMap Tryd.prog 9 (plainElem Tryd.prog 4) m ahead.length D ∧ ∀ l, D.atKey (.string l) (.lit (.bool false)) = .lit (.bool (ahead.contains l))

theorem SetOf.lt {w : World} {m : Nat} {a : List (List UInt8)} (h : SetOf w m a) : m < w.heap.size := by obtain ⟨D, h, _⟩ := h; exact h.lt
theorem SetOf.made (w : World) : SetOf (w.alloc (.map #[] 0)) w.heap.size [] :=
  ⟨.map [], World.ownsMap_made w _ _ _, fun l => by simp [DataW.atKey]⟩
theorem SetOf.kept {w w' : World} {m : Nat} {a : List (List UInt8)} {r : Option Nat} (h : SetOf w m a) (hg : w.grownBy w' r) (hne : some m ≠ r) : SetOf w' m a := by
  obtain ⟨D, h1, h2⟩ := h
  exact ⟨D, h1.kept hg hne, h2⟩
theorem SetOf.later {w w' : World} {m : Nat} {a : List (List UInt8)} {B : Nat} (h : SetOf w m a) (hb : Below B w w') (hB : w.heap.size ≤ B) : SetOf w' m a :=
  h.kept (r := none) ⟨hb.os, hb.tape, hb.output, hb.size, fun j hj _ => hb.block j (Nat.lt_of_lt_of_le hj hB)⟩ (by simp)
theorem SetOf.alloc {w : World} {m : Nat} {a : List (List UInt8)} (h : SetOf w m a) (o : Obj) : SetOf (w.alloc o) m a := by
  obtain ⟨D, h1, h2⟩ := h
  exact ⟨D, h1.alloc o, h2⟩
theorem SetOf.drew {w : World} {m : Nat} {a : List (List UInt8)} (h : SetOf w m a) : SetOf w.drew m a := by
  obtain ⟨D, h1, h2⟩ := h
  exact ⟨D, h1.drew, h2⟩

/-- An element that reads as a bool's datum is that bool. -/
theorem plainElem_bool_inv {P : Program} {e : TypeId} (he : P.underlying e = some .bool) {v : Value} {z : DataW Unit × List MemPlace} (h : plainElem P e v = some z) : ∃ x, v = .bool x ∧ z = (.lit (.bool x), []) := by
  unfold plainElem at h
  rw [he] at h
  split at h
  · rename_i x h1
    exact ⟨x, rfl, by cases h; rfl⟩
  · cases ‹some TypeDesc.bool = some (TypeDesc.int _)›
  · cases ‹some TypeDesc.bool = some TypeDesc.string›
  · cases h

/-- 'were[name]'. -/
theorem SetOf.look {w : World} {m : Nat} {a : List (List UInt8)} (h : SetOf w m a) (s : ByteArray) (hs : s.size ≤ maxLen) :
    (Instr.lookup 91 (.map (some m)) (.string s) false).run Tryd.prog w = .ok (.bool (a.contains s.data.toList)) w := by
  obtain ⟨D, h1, h2⟩ := h
  obtain ⟨v, ps, hr, hv⟩ := h1.lookup keyedS Tryd.underlying91 (zeroBool w) (plainElem_bool Tryd.underlying4 false) (WideMaps.keyOf_string_mk Tryd.underlying9 hs)
  obtain ⟨x, rfl, hx⟩ := plainElem_bool_inv Tryd.underlying4 hv
  simp only [Prod.mk.injEq] at hx
  rw [h2] at hx
  have e : a.contains s.data.toList = x := by simpa using hx.1
  rw [hr, e]

/-- 'were[name] = true'. -/
theorem wpl_setName {ops : Array Oper} {Q : Exit → Act → World → Prop} {rest : List Oper} {a : Act} {w : World} {dst : Option Tmp} {ty : TypeId} {pos : String} {aft : Array Edge} {mo x v : Operand}
    (m : Nat) (ah : List (List UInt8)) (h : SetOf w m ah) (hm : a.eval mo = .map (some m)) (s : ByteArray) (hs : s.size ≤ maxLen) (hx : a.eval x = .string s) (hv : a.eval v = .bool true) (hn : ah.length < maxLen)
    (hK : ∀ w', SetOf w' m (ah ++ [s.data.toList]) → w.grownBy w' (some m) → wpList Tryd.prog ops Q rest (a.put dst undef) w') :
    wpList Tryd.prog ops Q (⟨dst, .mapUpdate 91 mo x v, ty, pos, aft, none⟩ :: rest) a w := by
  obtain ⟨D, h1, h2⟩ := h
  refine wpList_mapUpdate_own w rfl mo x v 91 rfl 9 4 keyedS Tryd.underlying91 (plainElem Tryd.prog 4) m ah.length D hm h1 hn (.string s) (.bool true) (.string s.data.toList) hx hv (WideMaps.keyOf_string_mk Tryd.underlying9 hs) (.lit (.bool true)) [] (plainElem_bool Tryd.underlying4 true) ?_
  intro w' r1 r2
  refine hK w' ⟨_, by rw [List.length_append]; exact r1, fun l => ?_⟩ r2
  by_cases he : l = s.data.toList
  · subst he
    rw [atKey_put_same h1.isMap (show WideAt.IsKeyLit (.string s.data.toList) from trivial)]
    simp
  · rw [atKey_put_other (fun hh => he (by injection hh)), h2]
    have e : (ah ++ [s.data.toList]).contains l = ah.contains l := by
      rw [Bool.eq_iff_iff]
      simp [he]
    rw [e]

end Go.Proofs.YtkljkpffpdpphaaDoor
