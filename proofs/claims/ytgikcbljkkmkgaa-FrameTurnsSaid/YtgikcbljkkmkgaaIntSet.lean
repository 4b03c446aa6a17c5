/-
  The places that were: a map from ints to bools that the call has made.
-/
import Derived.Test.YtgikcbljkkmkgaaNatSl
import Derived.Maps.OwnOps
import Derived.Maps.Views
set_option linter.unusedVariables false
set_option linter.unusedSimpArgs false
set_option maxRecDepth 1000000
namespace Go.Proofs.Ytgikcbljkkmkgaa
open Go.RowKit Go.Maps

theorem keyedI : Keyed Try.prog 3 := int_keyed Try.underlying3
theorem zeroBoolI (w : World) : (zeroValue 4).run Try.prog w = .ok (.bool false) w := by kernel_rfl
theorem wf_place {n : Nat} (hn : n < 9223372036854775808) : (Lit.int .i64 (n : Int)).wf = true := by
  simp [Lit.wf, IntKind.min, IntKind.max, IntKind.signed, IntKind.bits]; omega

/-- The map in block m holds just these places. -/
def SetI (w : World) (m : Nat) (ahead : List Nat) : Prop :=
  ∃ D : DataW Unit, w.ownsMap Try.prog 3 (plainElem Try.prog 4) m ahead.length D ∧ ∀ n : Nat, D.atKey (.int .i64 (n : Int)) (.lit (.bool false)) = .lit (.bool (ahead.contains n))

theorem SetI.lt {w : World} {m : Nat} {a : List Nat} (h : SetI w m a) : m < w.heap.size := by obtain ⟨D, h, _⟩ := h; exact h.lt
theorem SetI.made (w : World) : SetI (w.alloc (.map #[] 0)) w.heap.size [] :=
  ⟨.map [], World.ownsMap_made w _ _ _, fun l => by simp [DataW.atKey]⟩
theorem SetI.kept {w w' : World} {m : Nat} {a : List Nat} {r : Option Nat} (h : SetI w m a) (hg : w.grownBy w' r) (hne : some m ≠ r) : SetI w' m a := by
  obtain ⟨D, h1, h2⟩ := h
  exact ⟨D, h1.kept hg hne, h2⟩
theorem SetI.later {w w' : World} {m : Nat} {a : List Nat} {B : Nat} (h : SetI w m a) (hb : Below B w w') (hB : w.heap.size ≤ B) : SetI w' m a :=
  h.kept (r := none) ⟨hb.os, hb.tape, hb.output, hb.size, fun j hj _ => hb.block j (Nat.lt_of_lt_of_le hj hB)⟩ (by simp)
theorem SetI.drew {w : World} {m : Nat} {a : List Nat} (h : SetI w m a) : SetI w.drew m a := by
  obtain ⟨D, h1, h2⟩ := h
  exact ⟨D, h1.drew, h2⟩

/-- An element that reads as a bool's datum is that bool. -/
theorem plainElem_boolI {P : Program} {e : TypeId} (he : P.underlying e = some .bool) {v : Value} {z : DataW Unit × List MemPlace} (h : plainElem P e v = some z) : ∃ x, v = .bool x ∧ z = (.lit (.bool x), []) := by
  unfold plainElem at h
  rw [he] at h
  split at h
  · rename_i x h1
    exact ⟨x, rfl, by cases h; rfl⟩
  · cases ‹some TypeDesc.bool = some (TypeDesc.int _)›
  · cases ‹some TypeDesc.bool = some TypeDesc.string›
  · cases h

/-- 'turned[i]'. -/
theorem SetI.look {w : World} {m : Nat} {a : List Nat} (h : SetI w m a) (n : Nat) (hn : n < 9223372036854775808) :
    (Instr.lookup 50 (.map (some m)) (.int .i64 (n : Int)) false).run Try.prog w = .ok (.bool (a.contains n)) w := by
  obtain ⟨D, h1, h2⟩ := h
  obtain ⟨v, ps, hr, hv⟩ := h1.lookup keyedI Try.underlying50 (zeroBoolI w) (plainElem_bool Try.underlying4 false) (keyOf_int_mk Try.underlying3 (wf_place hn))
  obtain ⟨x, rfl, hx⟩ := plainElem_boolI Try.underlying4 hv
  simp only [Prod.mk.injEq] at hx
  rw [h2] at hx
  have e : a.contains n = x := by simpa using hx.1
  rw [hr, e]

/-- 'turned[i] = true'. -/
theorem wpl_setPlace {ops : Array Oper} {Q : Exit → Act → World → Prop} {rest : List Oper} {a : Act} {w : World} {dst : Option Tmp} {ty : TypeId} {pos : String} {aft : Array Edge} {mo x v : Operand}
    (m : Nat) (ah : List Nat) (h : SetI w m ah) (hm : a.eval mo = .map (some m)) (n : Nat) (hn0 : n < 9223372036854775808) (hx : a.eval x = .int .i64 (n : Int)) (hv : a.eval v = .bool true) (hn : ah.length < maxLen)
    (hK : ∀ w', SetI w' m (n :: ah) → w.grownBy w' (some m) → wpList Try.prog ops Q rest (a.put dst undef) w') :
    wpList Try.prog ops Q (⟨dst, .mapUpdate 50 mo x v, ty, pos, aft, none⟩ :: rest) a w := by
  obtain ⟨D, h1, h2⟩ := h
  refine wpList_mapUpdate_own w rfl mo x v 50 rfl 3 4 keyedI Try.underlying50 (plainElem Try.prog 4) m ah.length D hm h1 hn (.int .i64 (n : Int)) (.bool true) (.int .i64 (n : Int)) hx hv (keyOf_int_mk Try.underlying3 (wf_place hn0)) (.lit (.bool true)) [] (plainElem_bool Try.underlying4 true) ?_
  intro w' r1 r2
  refine hK w' ⟨_, by rw [List.length_cons]; exact r1, fun l => ?_⟩ r2
  by_cases he : l = n
  · subst he
    rw [atKey_put_same h1.isMap (show WideAt.IsKeyLit (.int .i64 (l : Int)) from trivial)]
    simp
  · rw [atKey_put_other (fun hh => he (by injection hh with _ hh; omega)), h2]
    have e : (n :: ah).contains l = ah.contains l := by
      rw [Bool.eq_iff_iff]
      simp [he]
    rw [e]

end Go.Proofs.Ytgikcbljkkmkgaa
