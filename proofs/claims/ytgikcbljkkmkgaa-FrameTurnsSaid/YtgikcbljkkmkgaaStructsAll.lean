/-
  Slices whose elements have one cell or more: 'append(s, t...)' of a whole slice, empty or not; an empty slice of the call's own; a slice that was built.
-/
import Derived.Test.YtgikcbljkkmkgaaStructs
set_option linter.unusedVariables false
set_option linter.unusedSimpArgs false
set_option maxRecDepth 1000000
namespace Go.Proofs.Ytgikcbljkkmkgaa
open Go.RowKit

theorem flatG_inv {n : Nat} (hn : 0 < n) : ∀ (vs : List (List Value)), (∀ x ∈ vs, x.length = n) → ∀ j u, vs.flatten[j]? = some u → j / n < vs.length ∧ (vs.getD (j / n) [])[j % n]? = some u
  | [], _, j, u, h => by simp at h
  | x :: r, hw, j, u, h => by
    have hx := hw x (by simp)
    rw [List.flatten_cons] at h
    by_cases hj : j < n
    · rw [List.getElem?_append_left (by omega)] at h
      rw [Nat.div_eq_of_lt hj, Nat.mod_eq_of_lt hj]
      exact ⟨by simp, h⟩
    · rw [List.getElem?_append_right (by omega), hx] at h
      obtain ⟨h1, h2⟩ := flatG_inv hn r (fun y hy => hw y (by simp [hy])) (j - n) u h
      have e : j = (j - n) + n := by omega
      have e1 : j / n = (j - n) / n + 1 := by conv => lhs; rw [e, Nat.add_div_right _ hn]
      have e2 : j % n = (j - n) % n := by conv => lhs; rw [e, Nat.add_mod_right]
      rw [e1, e2]
      exact ⟨by simp; omega, by simpa using h2⟩

theorem flatG_len {n : Nat} : ∀ (vs : List (List Value)), (∀ x ∈ vs, x.length = n) → vs.flatten.length = vs.length * n
  | [], _ => by simp
  | x :: r, hw => by
    rw [List.flatten_cons, List.length_append, hw x (by simp), flatG_len r (fun y hy => hw y (by simp [hy])), List.length_cons, Nat.add_mul]; omega

section
variable {E : Elt} {w w' : World} {v : Value} {cs ds : List (List Value)} {base : Nat}

/-- 'append(s, t...)': s the call's own, t any that reads. -/
theorem wplG_appendAll (hE : E.Ok) {ops : Array Oper} {Q : Exit → Act → World → Prop} {rest : List Oper} {a : Act} {dst : Option Tmp} {ty : TypeId} {pos : String} {aft : Array Edge} {s x : Operand}
    (base : Nat) (sv : Value) (hs : a.eval s = sv) (ho : OwnG E w base sv cs) (xv : Value) (hx : a.eval x = xv) (hr : RdG E w xv ds) (hone : ∀ x ∈ ds, ∀ u ∈ x, u.oneCell' = true)
    (hn : (cs.length + ds.length) * E.bytes ≤ 140737488355328) (hn2 : cs.length + ds.length ≤ 140737488355328) (hbase : base ≤ w.heap.size)
    (B : Nat) (w0 : World) (hb : Below B w0 w) (hBb : B ≤ base)
    (h : ∀ v' w', OwnG E w' base v' (cs ++ ds) → Below B w0 w' → w.grownBy w' sv.ownBlock → wpList Try.prog ops Q rest (a.put dst v') w') :
    wpList Try.prog ops Q (⟨dst, .call ⟨.builtin .append, #[s, x], #[E.S, E.S]⟩, ty, pos, aft, none⟩ :: rest) a w := by
  obtain ⟨i0, hi, hz0, hz1, hz2⟩ := info_parts hE.info
  obtain ⟨ao, cap, hv, hcap, hnil, hp⟩ := RdG.shape hr
  cases ao with
  | none =>
    obtain rfl : cap = 0 := hnil rfl
    obtain rfl : ds = [] := List.eq_nil_of_length_eq_zero (by omega)
    refine wpList_append_own_none rfl s x E.S rfl base E.T i0 E.n hE.hS hi sv cs.length cs.flatten hs ho.1 (by rw [hx, hv]; rfl) ?_
    exact h sv w (by simpa using ho) hb (World.grownBy.refl _ _)
  | some ad =>
    have hwid := hr.wid
    refine wpList_append_own w rfl s x E.S rfl base E.T i0 E.zero E.n E.bytes hE.hS hi hz0 hz1 hz2 hE.hz hE.hn sv cs.length cs.flatten hs ho.1 ad ds.length cap ds.flatten (by rw [hx, hv]) (flatG_len ds hwid) ?_ ?_ (by unfold maxLen; omega) hn hbase ?_
    · intro j u hj
      obtain ⟨h1, h2⟩ := flatG_inv hE.hn ds hwid j u hj
      obtain ⟨b, o, e⟩ := hp (Nat.lt_of_le_of_lt (Nat.zero_le _) h1)
      injection e with e
      subst e
      have := RdG.cells hr (j / E.n) h1 (j % E.n) u h2
      rw [hv, adr_lit] at this
      have e : o + (j / E.n * E.n + j % E.n) = o + j := by
        have := Nat.div_add_mod j E.n
        rw [Nat.mul_comm] at this
        omega
      rw [e] at this
      have e2 : Addr.add ⟨b, o, none⟩ j = ⟨b, o + j, none⟩ := by simp only [Addr.add]; split <;> simp_all
      rw [e2]; exact this
    · intro u hu
      obtain ⟨y, hy, hz⟩ := List.mem_flatten.1 hu
      exact hone y hy u hz
    · intro v' w' h1' h2 _
      refine h v' w' ⟨?_, ?_, ?_⟩ (hb.grown h2 (by omega) fun k hk => ?_) h2
      · rw [List.length_append, List.flatten_append]; exact h1'
      · intro y hy
        rcases List.mem_append.1 hy with hy | hy
        · exact ho.2.1 y hy
        · exact hwid y hy
      · intro y hy
        rcases List.mem_append.1 hy with hy | hy
        · exact ho.2.2 y hy
        · exact hone y hy
      · exact Nat.le_trans hBb (World.ownsRow.lt ho.1 k hk).1

/-- Where an append's slice lies: in the block that it lay in, or in a new one. -/
def Place (w : World) (v v' : Value) : Prop := v'.ownBlock = v.ownBlock ∨ ∀ g, v'.ownBlock = some g → w.heap.size ≤ g

theorem append_place (hE : E.Ok) {base : Nat} {sv : Value} (ho : OwnG E w base sv cs) {ad : Addr} {m c : Nat} {news : List Value} (hl : news.length = m * E.n)
    (hnews : ∀ j u, news[j]? = some u → w.cell? (ad.add j) = some u) (h1 : ∀ u ∈ news, u.oneCell' = true) (hn : (cs.length + m) * E.bytes ≤ 140737488355328) (hn2 : cs.length + m ≤ 140737488355328)
    {ty : TypeId} {v' : Value} {w' : World} (hr : (Builtin.append_ #[E.S, E.S] ty #[sv, .slice (some ad) m c]).run Try.prog w = .ok v' w') : Place w sv v' := by
  obtain ⟨i0, hi, hz0, hz1, hz2⟩ := info_parts hE.info
  have hb48 : (cs.length + m) * i0.bytes ≤ 140737488355328 := by rw [hz2]; exact hn
  have hown := ho.1
  rcases hown.2 with ⟨rfl, h0⟩ | ⟨g, cap, cur, rfl, _, hg, hnc, hcm, hcs, _⟩
  · refine .inr fun g hgv => ?_
    by_cases hm : m = 0
    · subst hm
      have hnil : news = [] := List.eq_nil_of_length_eq_zero (by simpa using hl)
      subst hnil
      have e : (Builtin.append_ #[E.S, E.S] ty #[.slice none 0 0, .slice (some ad) 0 c]).run Try.prog w = .ok (.slice none 0 0) w := by
        simp [Builtin.append_, run_underlying hE.hS, sizeOf, typeInfo, hi, Builtin.lenOf, Builtin.firstCells, loadCells, loadCellsFrom]
      rw [e] at hr
      injection hr with e1 e2
      subst e1
      cases hgv
    · rw [h0, Nat.zero_add] at hb48
      have e := run_append_nil (P := Try.prog) w E.S ty E.T i0 E.zero hE.hS hi hz0 ad m c news (by rw [hz1]; exact hl) hnews (by omega) (by omega) (by omega)
      rw [e] at hr
      injection hr with e1 e2
      subst e1
      injection hgv with hgv
      exact Nat.le_of_eq hgv
  · by_cases hroom : cs.length + m ≤ cap
    · have e := run_append_room (P := Try.prog) w E.S ty E.T i0 hE.hS hi g cs.length cap cur hg ad m c news (by rw [hz1]; exact hl) hnews h1 hroom (by rw [hl, hcs, hz1, ← Nat.add_mul]; exact Nat.mul_le_mul_right _ hroom)
      rw [e] at hr
      injection hr with e1 e2
      subst e1
      exact .inl rfl
    · refine .inr fun g' hgv => ?_
      have holds : ∀ j u, cs.flatten[j]? = some u → w.cell? ((⟨g, 0, none⟩ : Addr).add j) = some u := World.ownsRow.cells (g := g) hown rfl
      have e := run_append_grow (P := Try.prog) w E.S ty E.T i0 E.zero hE.hS hi hz0 ⟨g, 0, none⟩ cs.length cap cs.flatten (by rw [hz1]; exact hown.1) holds ad m c news (by rw [hz1]; exact hl) hnews (by omega) (by omega) (growslice_fits (by omega) hb48)
      rw [e] at hr
      injection hr with e1 e2
      subst e1
      injection hgv with hgv
      exact Nat.le_of_eq hgv

/-- 'append(s, t...)' of any that reads, and where the slice lies behind it: one operation. -/
theorem wpG_appendAll (hE : E.Ok) {a : Act} {K : Act → World → Prop} {Q : Exit → Act → World → Prop} {dst : Option Tmp} {ty : TypeId} {pos : String} {aft : Array Edge} {s x : Operand} {gu : Option (Nat × Bool)}
    (base : Nat) (sv : Value) (hs : a.eval s = sv) (ho : OwnG E w base sv cs) (xv : Value) (hx : a.eval x = xv) (hr : RdG E w xv ds) (hone : ∀ x ∈ ds, ∀ u ∈ x, u.oneCell' = true)
    (hn : (cs.length + ds.length) * E.bytes ≤ 140737488355328) (hn2 : cs.length + ds.length ≤ 140737488355328) (hbase : base ≤ w.heap.size)
    (B : Nat) (w0 : World) (hb : Below B w0 w) (hBb : B ≤ base)
    (h : ∀ v' w', OwnG E w' base v' (cs ++ ds) → Below B w0 w' → w.grownBy w' sv.ownBlock → Place w sv v' → K (a.put dst v') w') :
    Oper.wp Try.prog ⟨dst, .call ⟨.builtin .append, #[s, x], #[E.S, E.S]⟩, ty, pos, aft, gu⟩ a w K Q := by
  obtain ⟨i0, hi, hz0, hz1, hz2⟩ := info_parts hE.info
  obtain ⟨ao, cap, hv, hcap, hnil, hp⟩ := RdG.shape hr
  cases ao with
  | none =>
    obtain rfl : cap = 0 := hnil rfl
    obtain rfl : ds = [] := List.eq_nil_of_length_eq_zero (by omega)
    have hxe : a.eval x = .slice none 0 0 := by rw [hx, hv]; rfl
    have hrun := run_append_owned_none (P := Try.prog) (w := w) base E.S ty E.T i0 E.n hE.hS hi sv cs.length cs.flatten ho.1
    unfold Oper.wp execOp
    simp only [resolve, invoke, builtin, Sem.run_bind, Sem.run_pure, Result.andThen_ok, List.map_toArray, List.map_cons, List.map_nil, hs, hxe, hrun]
    exact h sv w (by simpa using ho) hb (World.grownBy.refl _ _) (.inl rfl)
  | some ad =>
    have hwid := hr.wid
    have hnews : ∀ j u, ds.flatten[j]? = some u → w.cell? (ad.add j) = some u := by
      intro j u hj
      obtain ⟨h1, h2⟩ := flatG_inv hE.hn ds hwid j u hj
      obtain ⟨b, o, e⟩ := hp (Nat.lt_of_le_of_lt (Nat.zero_le _) h1)
      injection e with e
      subst e
      have := RdG.cells hr (j / E.n) h1 (j % E.n) u h2
      rw [hv, adr_lit] at this
      have e : o + (j / E.n * E.n + j % E.n) = o + j := by
        have := Nat.div_add_mod j E.n
        rw [Nat.mul_comm] at this
        omega
      rw [e] at this
      have e2 : Addr.add ⟨b, o, none⟩ j = ⟨b, o + j, none⟩ := by simp only [Addr.add]; split <;> simp_all
      rw [e2]; exact this
    have h1c : ∀ u ∈ ds.flatten, u.oneCell' = true := by
      intro u hu
      obtain ⟨y, hy, hz⟩ := List.mem_flatten.1 hu
      exact hone y hy u hz
    obtain ⟨v', w', hrun, h2, h3, _⟩ := run_append_own (P := Try.prog) w base E.S ty E.T i0 E.zero E.n E.bytes hE.hS hi hz0 hz1 hz2 hE.hz hE.hn sv cs.length cs.flatten ho.1 ad ds.length cap ds.flatten (flatG_len ds hwid) hnews h1c (by unfold maxLen; omega) hn hbase
    have hpl := append_place hE ho (flatG_len ds hwid) hnews h1c hn hn2 hrun
    have hxe : a.eval x = .slice (some ad) ds.length cap := by rw [hx, hv]
    unfold Oper.wp execOp
    simp only [resolve, invoke, builtin, Sem.run_bind, Sem.run_pure, Result.andThen_ok, List.map_toArray, List.map_cons, List.map_nil, hs, hxe, hrun]
    refine h v' w' ⟨?_, ?_, ?_⟩ (hb.grown h3 (by omega) fun k hk => ?_) h3 hpl
    · rw [List.length_append, List.flatten_append]; exact h2
    · intro y hy
      rcases List.mem_append.1 hy with hy | hy
      · exact ho.2.1 y hy
      · exact hwid y hy
    · intro y hy
      rcases List.mem_append.1 hy with hy | hy
      · exact ho.2.2 y hy
      · exact hone y hy
    · exact Nat.le_trans hBb (World.ownsRow.lt ho.1 k hk).1

/-- .. as the walks take it. -/
theorem wplG_appendPl (hE : E.Ok) {ops : Array Oper} {Q : Exit → Act → World → Prop} {rest : List Oper} {a : Act} {dst : Option Tmp} {ty : TypeId} {pos : String} {aft : Array Edge} {s x : Operand}
    (base : Nat) (sv : Value) (hs : a.eval s = sv) (ho : OwnG E w base sv cs) (xv : Value) (hx : a.eval x = xv) (hr : RdG E w xv ds) (hone : ∀ x ∈ ds, ∀ u ∈ x, u.oneCell' = true)
    (hn : (cs.length + ds.length) * E.bytes ≤ 140737488355328) (hn2 : cs.length + ds.length ≤ 140737488355328) (hbase : base ≤ w.heap.size)
    (B : Nat) (w0 : World) (hb : Below B w0 w) (hBb : B ≤ base)
    (h : ∀ v' w', OwnG E w' base v' (cs ++ ds) → Below B w0 w' → w.grownBy w' sv.ownBlock → Place w sv v' → wpList Try.prog ops Q rest (a.put dst v') w') :
    wpList Try.prog ops Q (⟨dst, .call ⟨.builtin .append, #[s, x], #[E.S, E.S]⟩, ty, pos, aft, none⟩ :: rest) a w :=
  wpList_plain rfl fun K hK => wpG_appendAll hE base sv hs ho xv hx hr hone hn hn2 hbase B w0 hb hBb fun v' w' h1 h2 h3 h4 => hK _ _ (h v' w' h1 h2 h3 h4)

/-- One element, as the slice that an append is handed. -/
theorem rdG_one (hE : E.Ok) (u : List Value) (hu : u.length = E.n) (ad : Addr) (had : ∃ b o, ad = ⟨b, o, none⟩) (hc : ∀ j z, u[j]? = some z → w.cell? (ad.add j) = some z) : RdG E w (.slice (some ad) 1 1) [u] := by
  obtain ⟨b, o, rfl⟩ := had
  refine ⟨⟨_, _, rfl, by simp, (by intro h; cases h), fun _ => ⟨b, o, rfl⟩⟩, fun i hi j z hz => ?_, by simpa using hu, by simp⟩
  obtain rfl : i = 0 := by simpa using hi
  rw [adr_lit]
  have := hc j z (by simpa using hz)
  have e : Addr.add ⟨b, o, none⟩ j = ⟨b, o + j, none⟩ := by simp only [Addr.add]; split <;> simp_all
  rw [e] at this
  rw [Nat.zero_mul, Nat.zero_add]
  exact this

theorem ownG_empty (E : Elt) (w : World) (base : Nat) (hb : base ≤ w.heap.size) : OwnG E (w.alloc (.cells #[] E.T)) base (.slice (some ⟨w.heap.size, 0, none⟩) 0 0) [] :=
  ⟨World.ownsRow_made w #[] 0 hb (Nat.zero_le _) (by simp), by simp, by simp⟩

/-- A slice that was built: its elements' cells, one behind the other. -/
theorem ownG_built (E : Elt) (w : World) (base : Nat) (hb : base ≤ w.heap.size) (vs : List (List Value)) (hw : ∀ x ∈ vs, x.length = E.n) (h1 : ∀ x ∈ vs, ∀ u ∈ x, u.oneCell' = true) (hs : vs.length ≤ 140737488351232) :
    OwnG E (w.alloc (.cells vs.flatten.toArray E.T)) base (.slice (some ⟨w.heap.size, 0, none⟩) vs.length vs.length) vs := by
  refine ⟨⟨flatG_len vs hw, .inr ⟨w.heap.size, vs.length, vs.flatten.toArray, rfl, hb, heap_alloc_new _ _, Nat.le_refl _, by unfold maxLen; omega, ?_, ?_⟩⟩, hw, h1⟩
  · show vs.flatten.toArray.size = vs.length * E.n
    rw [List.size_toArray]; exact flatG_len vs hw
  · show vs.flatten.toArray.toList.take (vs.length * E.n) = vs.flatten
    rw [← flatG_len vs hw, List.toList_toArray, List.take_length]

/-- 'append(s, x)' of one element, in a region that draws. -/
theorem wpG_one (hE : E.Ok) {a : Act} {K : Act → World → Prop} {Q : Exit → Act → World → Prop} {dst : Option Tmp} {ty : TypeId} {pos : String} {aft : Array Edge} {s x : Operand} {gu : Option (Nat × Bool)}
    (base : Nat) (sv : Value) (u : List Value) (ad : Addr) 
    (hs : a.eval s = sv) (ho : OwnG E w base sv cs) (hx : a.eval x = .slice (some ad) 1 1) (hu : u.length = E.n) (h1 : ∀ z ∈ u, z.oneCell' = true) (hc : ∀ j z, u[j]? = some z → w.cell? (ad.add j) = some z)
    (hn : (cs.length + 1) * E.bytes ≤ 140737488355328) (hn2 : cs.length + 1 ≤ 140737488355328) (hbase : base ≤ w.heap.size) (B : Nat) (w0 : World) (hb : Below B w0 w) (hBb : B ≤ base)
    (h : ∀ v' w', OwnG E w' base v' (cs ++ [u]) → Below B w0 w' → w.grownBy w' sv.ownBlock → Place w sv v' → K (a.put dst v') w') :
    Oper.wp Try.prog ⟨dst, .call ⟨.builtin .append, #[s, x], #[E.S, E.S]⟩, ty, pos, aft, gu⟩ a w K Q := by
  obtain ⟨i0, hi, hz0, hz1, hz2⟩ := info_parts hE.info
  obtain ⟨v', w', hrun, h2, h3, _⟩ := run_append_own (P := Try.prog) w base E.S ty E.T i0 E.zero E.n E.bytes hE.hS hi hz0 hz1 hz2 hE.hz hE.hn sv cs.length cs.flatten ho.1 ad 1 1 u (by rw [hu]; omega) hc h1 (by unfold maxLen; omega) hn hbase
  have hpl := append_place hE ho (by rw [hu]; omega) hc h1 hn hn2 hrun
  unfold Oper.wp execOp
  simp only [resolve, invoke, builtin, Sem.run_bind, Sem.run_pure, Result.andThen_ok, List.map_toArray, List.map_cons, List.map_nil, hs, hx, hrun]
  refine h v' w' ⟨?_, ?_, ?_⟩ (hb.grown h3 (by omega) fun k hk => Nat.le_trans hBb (World.ownsRow.lt ho.1 k hk).1) h3 hpl
  · rw [List.length_append, List.flatten_append, List.flatten_singleton]; exact h2
  · intro y hy
    rcases List.mem_append.1 hy with hy | hy
    · exact ho.2.1 y hy
    · rw [List.mem_singleton.1 hy]; exact hu
  · intro y hy
    rcases List.mem_append.1 hy with hy | hy
    · exact ho.2.2 y hy
    · rw [List.mem_singleton.1 hy]; exact h1

theorem stepG_one (hE : E.Ok) {ops : Array Oper} {a : Act} {K : Act → World → Prop} {Q : Exit → Act → World → Prop} {F : Prop} {dst : Option Tmp} {ty : TypeId} {pos : String} {aft : Array Edge} {s x : Operand} {gu : Option (Nat × Bool)}
    (base : Nat) (sv : Value) (u : List Value) (ad : Addr) (hw : Region.wanted ⟨dst, .call ⟨.builtin .append, #[s, x], #[E.S, E.S]⟩, ty, pos, aft, gu⟩ (yielded ops a.tmps) = true)
    (hs : a.eval s = sv) (ho : OwnG E w base sv cs) (hx : a.eval x = .slice (some ad) 1 1) (hu : u.length = E.n) (h1 : ∀ z ∈ u, z.oneCell' = true) (hc : ∀ j z, u[j]? = some z → w.cell? (ad.add j) = some z)
    (hn : (cs.length + 1) * E.bytes ≤ 140737488355328) (hn2 : cs.length + 1 ≤ 140737488355328) (hbase : base ≤ w.heap.size) (B : Nat) (w0 : World) (hb : Below B w0 w) (hBb : B ≤ base)
    (h : ∀ v' w', OwnG E w' base v' (cs ++ [u]) → Below B w0 w' → w.grownBy w' sv.ownBlock → Place w sv v' → K (a.put dst v') w') :
    if Region.wanted ⟨dst, .call ⟨.builtin .append, #[s, x], #[E.S, E.S]⟩, ty, pos, aft, gu⟩ (yielded ops a.tmps) = true then Oper.wp Try.prog ⟨dst, .call ⟨.builtin .append, #[s, x], #[E.S, E.S]⟩, ty, pos, aft, gu⟩ a w K Q else F := by
  rw [if_pos hw]
  exact wpG_one hE base sv u ad hs ho hx hu h1 hc hn hn2 hbase B w0 hb hBb h

theorem flatG_set {n : Nat} : ∀ (vs : List (List Value)), (∀ x ∈ vs, x.length = n) → ∀ k j u, k < vs.length → j < n → vs.flatten.set (k * n + j) u = (vs.set k ((vs.getD k []).set j u)).flatten
  | [], _, k, j, u, hk, _ => absurd hk (by simp)
  | x :: r, hw, 0, j, u, _, hj => by
    have hx := hw x (by simp)
    rw [Nat.zero_mul, Nat.zero_add, List.flatten_cons, List.set_append_left _ _ (by omega)]
    simp
  | x :: r, hw, k + 1, j, u, hk, hj => by
    have hx := hw x (by simp)
    have ih := flatG_set r (fun y hy => hw y (by simp [hy])) k j u (by simpa using hk) hj
    rw [List.flatten_cons, List.set_append_right _ _ (by rw [hx, Nat.add_mul]; omega), hx, show (k + 1) * n + j - n = k * n + j from by rw [Nat.add_mul]; omega, ih]
    simp

/-- Where the elements of a slice of the call's own lie, in this world and in each in which it is its own. -/
theorem OwnG.spot (hE : E.Ok) (h : OwnG E w base v cs) (hp : 0 < cs.length) (hs : cs.length ≤ 140737488351232) : ∃ g cap, v = .slice (some ⟨g, 0, none⟩) cs.length cap ∧ base ≤ g ∧
    (∀ k, k < cs.length → ∀ u, (Instr.indexAt E.S v (.int .i64 (k : Int))).run Try.prog u = .ok (.pointer (some ⟨g, k * E.n, none⟩)) u) ∧
    ∀ w' vs, vs.length = cs.length → OwnG E w' base v vs → ∀ k, k < cs.length → (vs.getD k []).length = E.n ∧ ∀ j, j < E.n → w'.cell? ⟨g, k * E.n + j, none⟩ = (vs.getD k [])[j]? ∧ w'.frozen? ⟨g, k * E.n + j, none⟩ = false ∧
      ∀ u : Value, u.oneCell' = true → OwnG E (w'.setCell ⟨g, k * E.n + j, none⟩ u) base v (vs.set k ((vs.getD k []).set j u)) := by
  obtain ⟨g, cap, hv, hbg⟩ : ∃ g cap, v = .slice (some ⟨g, 0, none⟩) cs.length cap ∧ base ≤ g := by
    rcases h.1.2 with ⟨_, hn⟩ | ⟨g, cap, cur, hv, hbg, _⟩
    · omega
    · exact ⟨g, cap, hv, hbg⟩
  have hrd := OwnG.rd h hs
  refine ⟨g, cap, hv, hbg, fun k hk u => ?_, fun w' vs hl ho k hk => ?_⟩
  · have := RdG.idx hrd hE k hk u
    rw [hv, adr_lit, Nat.zero_add] at this
    rw [hv]; exact this
  · have hrd' := OwnG.rd ho (by omega)
    have hlen : (vs.getD k []).length = E.n := hrd'.get (by omega)
    obtain ⟨⟨h0, h2⟩, hwid, hone⟩ := ho
    rcases h2 with ⟨_, hn⟩ | ⟨g', cap', cur, hv', hbg', hg, hn, hm, hcs, ht⟩
    · omega
    have e := hv.symm.trans hv'
    simp only [Value.slice.injEq, Option.some.injEq, Addr.mk.injEq] at e
    obtain ⟨⟨rfl, _⟩, _, rfl⟩ := e
    refine ⟨hlen, fun j hj => ⟨?_, frozen_of_row _ _ _ _ _ hg, fun u hu => ⟨⟨?_, .inr ⟨g, cap, cur.setIfInBounds (k * E.n + j) u, by rw [List.length_set]; exact hv', hbg', block_setCell hg _, by rw [List.length_set]; exact hn, hm, by simpa using hcs, ?_⟩⟩, ?_, ?_⟩⟩⟩
    · have hc := hrd'.cells k (by omega) j ((vs.getD k [])[j]'(by omega)) (List.getElem?_eq_getElem _)
      rw [hv, adr_lit, Nat.zero_add] at hc
      rw [hc, List.getElem?_eq_getElem (by omega)]
    · rw [← flatG_set vs hwid k j u (by omega) hj, List.length_set, List.length_set]; exact h0
    · rw [← flatG_set vs hwid k j u (by omega) hj, List.length_set, Array.toList_setIfInBounds, List.take_set, ht]
    · intro y hy
      rcases List.mem_or_eq_of_mem_set hy with hy | rfl
      · exact hwid y hy
      · rw [List.length_set]; exact hlen
    · intro y hy z hz
      rcases List.mem_or_eq_of_mem_set hy with hy | rfl
      · exact hone y hy z hz
      · rcases List.mem_or_eq_of_mem_set hz with hz | rfl
        · exact hone _ (by
            have : vs.getD k [] = vs[k]'(by omega) := by simp [List.getD, show k < vs.length by omega]
            rw [this]; exact List.getElem_mem _) z hz
        · exact hu
end

end Go.Proofs.Ytgikcbljkkmkgaa
