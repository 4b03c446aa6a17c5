/-
  The kinds' names, as both packages list them; a slice of strings in a block of its own; 'append' of a string in a region that draws.
-/
import Derived.Test.YtkljkpffpdpphaaDoorSchCheck
import Derived.Deep.RegionHeld3
import Derived.Deep.AppendLies
set_option linter.unusedVariables false
set_option linter.unusedSimpArgs false
set_option maxRecDepth 1000000
namespace Go.Proofs.YtkljkpffpdpphaaDoor
open Go.RowKit Go.Shelf

theorem rdT_block {w : World} {b : Nat} {ss : List ByteArray} {z : Nat × Nat} (h : w.heap[b]? = some (.cells (ss.map Value.string).toArray 9 z)) (hs : ss.length ≤ 140737488351232) {n : Nat} (hn : n = ss.length) : RdT w (.slice (some ⟨b, 0, none⟩) n n) ss := by
  subst hn
  refine ⟨⟨_, _, by rw [List.length_map], by rw [List.length_map]; omega, (by intro h; cases h), fun _ => ⟨_, _, rfl⟩⟩, fun i hi j u hu => ?_, fun x hx => ?_, by rw [List.length_map]; exact hs⟩
  · rw [List.length_map] at hi
    rw [getD_map strV ss i hi default] at hu
    obtain rfl : j = 0 := by
      have := (List.getElem?_eq_some_iff.1 hu).1
      simpa [strV] using this
    have hu : Value.string (ss.getD i default) = u := by simpa [strV] using hu
    rw [adr_lit, cell_of_row _ _ _ _ _ z h, List.getElem?_toArray, List.getElem?_map]
    show (ss[0 + (i * 1 + 0)]?).map Value.string = some u
    rw [show 0 + (i * 1 + 0) = i from by omega, List.getElem?_eq_getElem hi, ← hu]
    simp [List.getD, hi]
  · obtain ⟨c, _, rfl⟩ := List.mem_map.1 hx
    rfl

/-- The kinds' names. -/
def kindB : List ByteArray := [⟨#[105, 110, 116]⟩, ⟨#[117, 105, 110, 116]⟩, ⟨#[98, 111, 111, 108]⟩, ⟨#[98, 121, 116, 101, 115]⟩, ⟨#[116, 101, 120, 116]⟩, ⟨#[102, 108, 111, 97, 116]⟩]
theorem kindB_names : kindB.map (·.data.toList) = kindNames := rfl
theorem kindB_rd {q : Nat} (h : q < 6) : RdS (kindB.getD q default) (kindNames.getD q []) ∧ (kindNames.getD q []).length ≤ 5 := by
  have : ∀ q : Fin 6, (kindB.getD q.val default) = ⟨(kindNames.getD q.val []).toArray⟩ ∧ (kindNames.getD q.val []).length ≤ 5 := by decide
  obtain ⟨h1, h2⟩ := this ⟨q, h⟩
  exact ⟨⟨h1, by dsimp only at h2; omega⟩, h2⟩

theorem cell_Names (w : World) :
    Calls Tryd.prog 27 #[] w fun e w' => e = .returned (.slice (some ⟨w.heap.size, 0, none⟩) 6 6) ∧ w' = w.alloc (.cells (kindB.map Value.string).toArray 9) := by
  go_enter Tryd.func27, Tryd.ntmps27
  go_wp2
  go_ret
  exact ⟨rfl, rfl⟩
theorem ref_Names (w : World) :
    Calls Tryd.prog 36 #[] w fun e w' => e = .returned (.slice (some ⟨w.heap.size, 0, none⟩) 6 6) ∧ w' = w.alloc (.cells (kindB.map Value.string).toArray 9) := by
  go_enter Tryd.func36, Tryd.ntmps36
  go_wp2
  go_ret
  exact ⟨rfl, rfl⟩

/-- 'append(s, a string)' in a region that draws. -/
theorem stepT_append {ops : Array Oper} {a : Act} {w : World} {K : Act → World → Prop} {Q : Exit → Act → World → Prop} {E : Prop} {dst : Option Tmp} {ty : TypeId} {pos : String} {aft : Array Edge} {s x : Operand}
    (base : Nat) (sv : Value) (ss : List ByteArray) (hs : a.eval s = sv) (ho : OwnT w base sv ss) (ad : Addr) (c : ByteArray) (hx : a.eval x = .slice (some ad) 1 1)
    (hc : ∀ j z, (strV c)[j]? = some z → w.cell? (ad.add j) = some z) (hn : (ss.length + 1) * 16 ≤ 140737488355328) (hbase : base ≤ w.heap.size)
    (h : ∀ v' w', OwnT w' base v' (ss ++ [c]) → w.grownBy w' sv.ownBlock → K (a.put dst v') w') :
    if Region.wanted ⟨dst, .call ⟨.builtin .append, #[s, x], #[56, 56]⟩, ty, pos, aft, none⟩ (yielded ops a.tmps) = true then Oper.wp Tryd.prog ⟨dst, .call ⟨.builtin .append, #[s, x], #[56, 56]⟩, ty, pos, aft, none⟩ a w K Q else E := by
  rw [if_pos (by simp [Region.wanted])]
  obtain ⟨i0, hi, hz0, hz1, hz2⟩ := info_parts strOk.info
  have ho' : OwnG strE w base sv (ss.map strV) := ho
  refine wp_append_own w s x 56 rfl base 9 i0 (.string ⟨#[]⟩) 1 16 Tryd.underlying56 hi hz0 hz1 hz2 rfl (by decide) sv (ss.map strV).length (ss.map strV).flatten hs ho'.1 ad 1 1 (strV c) hx rfl hc (by intro z hz; simp [strV] at hz; rw [hz]; rfl) (by rw [List.length_map]; unfold maxLen; omega) (by rw [List.length_map]; exact hn) hbase ?_
  intro v' w' h1 h2 _
  refine h v' w' ⟨?_, ?_, ?_⟩ h2
  · show w'.ownsRow base 9 1 v' _ _
    rw [List.map_append, List.length_append, List.flatten_append]; simpa using h1
  · intro y hy; obtain ⟨c, _, rfl⟩ := List.mem_map.1 hy; rfl
  · intro y hy; obtain ⟨c, _, rfl⟩ := List.mem_map.1 hy
    intro z hz; simp [strV] at hz; rw [hz]; rfl

end Go.Proofs.YtkljkpffpdpphaaDoor
