/-
  Slices whose elements have one cell or more: 'append(s, t...)' of a whole slice, empty or not; an empty slice of the call's own; a slice that was built.
-/
import Derived.Test.YtpjhpcolhcgfeaaStructs
set_option linter.unusedVariables false
set_option linter.unusedSimpArgs false
set_option maxRecDepth 1000000
namespace Go.Proofs.Ytpjhpcolhcgfeaa
open Go.RowKit

theorem flatG_inv {n : Nat} (hn : 0 < n) : ∀ (vs : List (List Value)), (∀ x ∈ vs, x.length = n) → ∀ j u, vs.flatten[j]? = some u → j / n < vs.length ∧ (vs.getD (j / n) [])[j % n]? = some u
  | [], _, j, u, h => by simp at h
  | x :: r, hw, j, u, h => by
    have hx := hw x (by simp)
    rw [List.flatten_cons] at h
    by_cases hj : j < n
    · rw [List.getElem?_append_left (by omega)] at h
      rw [Nat.div_eq_of_lt hj, Nat.mod_eq_of_lt hj]
      exact ⟨by simp, h⟩
    · rw [List.getElem?_append_right (by omega), hx] at h
      obtain ⟨h1, h2⟩ := flatG_inv hn r (fun y hy => hw y (by simp [hy])) (j - n) u h
      have e : j = (j - n) + n := by omega
      have e1 : j / n = (j - n) / n + 1 := by conv => lhs; rw [e, Nat.add_div_right _ hn]
      have e2 : j % n = (j - n) % n := by conv => lhs; rw [e, Nat.add_mod_right]
      rw [e1, e2]
      exact ⟨by simp; omega, by simpa using h2⟩

theorem flatG_len {n : Nat} : ∀ (vs : List (List Value)), (∀ x ∈ vs, x.length = n) → vs.flatten.length = vs.length * n
  | [], _ => by simp
  | x :: r, hw => by
    rw [List.flatten_cons, List.length_append, hw x (by simp), flatG_len r (fun y hy => hw y (by simp [hy])), List.length_cons, Nat.add_mul]; omega

section
variable {E : Elt} {w w' : World} {v : Value} {cs ds : List (List Value)} {base : Nat}

/-- 'append(s, t...)': s the call's own, t any that reads. -/
theorem wplG_appendAll (hE : E.Ok) {ops : Array Oper} {Q : Exit → Act → World → Prop} {rest : List Oper} {a : Act} {dst : Option Tmp} {ty : TypeId} {pos : String} {aft : Array Edge} {s x : Operand}
    (base : Nat) (sv : Value) (hs : a.eval s = sv) (ho : OwnG E w base sv cs) (xv : Value) (hx : a.eval x = xv) (hr : RdG E w xv ds) (hone : ∀ x ∈ ds, ∀ u ∈ x, u.oneCell' = true)
    (hn : (cs.length + ds.length) * E.bytes ≤ 140737488355328) (hn2 : cs.length + ds.length ≤ 140737488355328) (hbase : base ≤ w.heap.size)
    (B : Nat) (w0 : World) (hb : Below B w0 w) (hBb : B ≤ base)
    (h : ∀ v' w', OwnG E w' base v' (cs ++ ds) → Below B w0 w' → w.grownBy w' sv.ownBlock → wpList Try.prog ops Q rest (a.put dst v') w') :
    wpList Try.prog ops Q (⟨dst, .call ⟨.builtin .append, #[s, x], #[E.S, E.S]⟩, ty, pos, aft, none⟩ :: rest) a w := by
  obtain ⟨i0, hi, hz0, hz1, hz2⟩ := info_parts hE.info
  obtain ⟨ao, cap, hv, hcap, hnil, hp⟩ := RdG.shape hr
  cases ao with
  | none =>
    obtain rfl : cap = 0 := hnil rfl
    obtain rfl : ds = [] := List.eq_nil_of_length_eq_zero (by omega)
    refine wpList_append_own_none rfl s x E.S rfl base E.T i0 E.n hE.hS hi sv cs.length cs.flatten hs ho.1 (by rw [hx, hv]; rfl) ?_
    exact h sv w (by simpa using ho) hb (World.grownBy.refl _ _)
  | some ad =>
    have hwid := hr.wid
    refine wpList_append_own w rfl s x E.S rfl base E.T i0 E.zero E.n E.bytes hE.hS hi hz0 hz1 hz2 hE.hz hE.hn sv cs.length cs.flatten hs ho.1 ad ds.length cap ds.flatten (by rw [hx, hv]) (flatG_len ds hwid) ?_ ?_ (by unfold maxLen; omega) hn hbase ?_
    · intro j u hj
      obtain ⟨h1, h2⟩ := flatG_inv hE.hn ds hwid j u hj
      obtain ⟨b, o, e⟩ := hp (Nat.lt_of_le_of_lt (Nat.zero_le _) h1)
      injection e with e
      subst e
      have := RdG.cells hr (j / E.n) h1 (j % E.n) u h2
      rw [hv, adr_lit] at this
      have e : o + (j / E.n * E.n + j % E.n) = o + j := by
        have := Nat.div_add_mod j E.n
        rw [Nat.mul_comm] at this
        omega
      rw [e] at this
      have e2 : Addr.add ⟨b, o, none⟩ j = ⟨b, o + j, none⟩ := by simp only [Addr.add]; split <;> simp_all
      rw [e2]; exact this
    · intro u hu
      obtain ⟨y, hy, hz⟩ := List.mem_flatten.1 hu
      exact hone y hy u hz
    · intro v' w' h1' h2 _
      refine h v' w' ⟨?_, ?_, ?_⟩ (hb.grown h2 (by omega) fun k hk => ?_) h2
      · rw [List.length_append, List.flatten_append]; exact h1'
      · intro y hy
        rcases List.mem_append.1 hy with hy | hy
        · exact ho.2.1 y hy
        · exact hwid y hy
      · intro y hy
        rcases List.mem_append.1 hy with hy | hy
        · exact ho.2.2 y hy
        · exact hone y hy
      · exact Nat.le_trans hBb (World.ownsRow.lt ho.1 k hk).1

theorem ownG_empty (E : Elt) (w : World) (base : Nat) (hb : base ≤ w.heap.size) : OwnG E (w.alloc (.cells #[] E.T)) base (.slice (some ⟨w.heap.size, 0, none⟩) 0 0) [] :=
  ⟨World.ownsRow_made w #[] 0 hb (Nat.zero_le _) (by simp), by simp, by simp⟩

/-- A slice that was built: its elements' cells, one behind the other. -/
theorem ownG_built (E : Elt) (w : World) (base : Nat) (hb : base ≤ w.heap.size) (vs : List (List Value)) (hw : ∀ x ∈ vs, x.length = E.n) (h1 : ∀ x ∈ vs, ∀ u ∈ x, u.oneCell' = true) (hs : vs.length ≤ 140737488351232) :
    OwnG E (w.alloc (.cells vs.flatten.toArray E.T)) base (.slice (some ⟨w.heap.size, 0, none⟩) vs.length vs.length) vs := by
  refine ⟨⟨flatG_len vs hw, .inr ⟨w.heap.size, vs.length, vs.flatten.toArray, rfl, hb, heap_alloc_new _ _, Nat.le_refl _, by unfold maxLen; omega, ?_, ?_⟩⟩, hw, h1⟩
  · show vs.flatten.toArray.size = vs.length * E.n
    rw [List.size_toArray]; exact flatG_len vs hw
  · show vs.flatten.toArray.toList.take (vs.length * E.n) = vs.flatten
    rw [← flatG_len vs hw, List.toList_toArray, List.take_length]
end

end Go.Proofs.Ytpjhpcolhcgfeaa
