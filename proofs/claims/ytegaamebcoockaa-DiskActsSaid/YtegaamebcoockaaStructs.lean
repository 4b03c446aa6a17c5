/-
  Slices whose elements have one cell or more (structs of plain cells, strings): how they read (RdG), how a call owns one that it has made (OwnG), what the operations on them do.
-/
import Derived.Test.YtegaamebcoockaaBytes
set_option linter.unusedVariables false
set_option linter.unusedSimpArgs false
set_option maxRecDepth 1000000
namespace Go.Proofs.Ytegaamebcoockaa
open Go.RowKit

/-- What a slice's elements are: the slice's type, theirs, how many cells each has. -/
structure Elt where
  S : TypeId
  T : TypeId
  n : Nat
  bytes : Nat
  zero : Value

structure Elt.Ok (E : Elt) : Prop where
  hS : Try.prog.underlying E.S = some (.slice E.T)
  hel : Try.prog.elem E.S = E.T
  info : (Try.prog.info? E.T).map (fun i => (i.zero, i.size, i.bytes)) = some (some E.zero, E.n, E.bytes)
  hz : E.zero.cells.size = E.n
  hn : 0 < E.n

theorem adr_lit (b o : Nat) (n c k : Nat) : adr (.slice (some ⟨b, o, none⟩) n c) k = ⟨b, o + k, none⟩ := by simp only [adr, Addr.add]; split <;> simp_all

/-- The slice value v reads as the elements vs, each a list of its cells. -/
structure RdG (E : Elt) (w : World) (v : Value) (vs : List (List Value)) : Prop where
  shape : ∃ ao cap, v = .slice ao vs.length cap ∧ vs.length ≤ cap ∧ (ao = none → cap = 0) ∧ (0 < vs.length → ∃ b o, ao = some ⟨b, o, none⟩)
  cells : ∀ i, i < vs.length → ∀ j u, (vs.getD i [])[j]? = some u → w.cell? (adr v (i * E.n + j)) = some u
  wid : ∀ x ∈ vs, x.length = E.n
  small : vs.length ≤ 140737488351232

section
variable {E : Elt} {w w' : World} {v : Value} {vs : List (List Value)}

theorem RdG.get (h : RdG E w v vs) {i : Nat} (hi : i < vs.length) : (vs.getD i []).length = E.n := by
  have e : vs.getD i [] = vs[i] := by simp [List.getD, hi]
  rw [e]; exact h.wid _ (List.getElem_mem _)

theorem RdG.block (h : RdG E w v vs) (hE : E.Ok) {i : Nat} (hi : i < vs.length) : (adr v (i * E.n)).block < w.heap.size := by
  have hl := h.get hi
  have hn := hE.hn
  have h0 : (vs.getD i [])[0]? = some ((vs.getD i [])[0]'(by omega)) := List.getElem?_eq_getElem _
  have := h.cells i hi 0 _ h0
  rw [Nat.add_zero] at this
  exact World.block_lt_of_cell? w _ this

theorem RdG.blk (h : RdG E w v vs) {i : Nat} (hi : i < vs.length) (j k : Nat) : (adr v j).block = (adr v k).block := by
  obtain ⟨ao, cap, rfl, _, _, hp⟩ := h.shape
  obtain ⟨b, o, rfl⟩ := hp (by omega)
  rw [adr_lit, adr_lit]

theorem RdG.same (h : RdG E w v vs) (hs : ∀ i, i < vs.length → w'.heap[(adr v (i * E.n)).block]? = w.heap[(adr v (i * E.n)).block]?) : RdG E w' v vs :=
  ⟨h.shape, fun i hi j u hu => (World.cell?_of_block (by rw [h.blk hi (i * E.n + j) (i * E.n)]; exact hs i hi)).trans (h.cells i hi j u hu), h.wid, h.small⟩

theorem RdG.later (h : RdG E w v vs) (hE : E.Ok) {B : Nat} (hb : Below B w w') (hB : w.heap.size ≤ B) : RdG E w' v vs :=
  h.same fun i hi => hb.block _ (Nat.lt_of_lt_of_le (h.block hE hi) hB)

theorem RdG.drew (h : RdG E w v vs) : RdG E w.drew v vs := ⟨h.shape, h.cells, h.wid, h.small⟩

theorem RdG.nil (E : Elt) (w : World) : RdG E w (.slice none 0 0) [] :=
  ⟨⟨none, 0, rfl, Nat.le_refl _, fun _ => rfl, fun h => absurd h (by simp)⟩, fun i hi => absurd hi (by simp), fun x hx => absurd hx (by simp), by simp⟩

theorem RdG.len (h : RdG E w v vs) (hE : E.Ok) : ∀ u, (Builtin.len_ #[E.S] 3 #[v]).run Try.prog u = .ok (.int .i64 (vs.length : Int)) u := by
  intro u
  obtain ⟨⟨ao, cap, rfl, _⟩, _, _, _⟩ := h
  exact run_len_slice u _ _ ao _ _ (by rw [hE.hel]; exact hE.hS)

theorem RdG.idx (h : RdG E w v vs) (hE : E.Ok) (i : Nat) (hi : i < vs.length) :
    ∀ u, (Instr.indexAt E.S v (.int .i64 (i : Int))).run Try.prog u = .ok (.pointer (some (adr v (i * E.n)))) u := by
  intro u
  obtain ⟨⟨ao, cap, rfl, _, _, hp⟩, _, _, _⟩ := h
  obtain ⟨b, o, rfl⟩ := hp (by omega)
  have := run_indexAt_slice (P := Try.prog) u E.S ⟨b, o, none⟩ vs.length cap .i64 i (by rw [hE.hel]; exact hE.hS)
  rw [this, if_pos ⟨by omega, by omega⟩]
  obtain ⟨inf, hi1, hi2⟩ := Option.map_eq_some_iff.1 hE.info
  have hsz : inf.size = E.n := by
    have := congrArg (fun x => x.2.1) hi2
    exact this
  have hi1' : Try.prog.info? (Try.prog.elem E.S) = some inf := by rw [hE.hel]; exact hi1
  simp [sizeOf, typeInfo, hi1', hsz, Result.andThen, adr]

/-- Where an element's cells lie. -/
theorem RdG.at (h : RdG E w v vs) {i : Nat} (hi : i < vs.length) : ∃ b o, adr v (i * E.n) = ⟨b, o, none⟩ ∧ ∀ j u, (vs.getD i [])[j]? = some u → w.cell? ⟨b, o + j, none⟩ = some u := by
  obtain ⟨ao, cap, rfl, _, _, hp⟩ := id h.shape
  obtain ⟨b, o, rfl⟩ := hp (by omega)
  refine ⟨b, o + i * E.n, adr_lit _ _ _ _ _, fun j u hu => ?_⟩
  have := h.cells i hi j u hu
  rw [adr_lit, ← Nat.add_assoc] at this
  exact this

/-- The slice value v is the call's own: made from block base on. -/
def OwnG (E : Elt) (w : World) (base : Nat) (v : Value) (vs : List (List Value)) : Prop :=
  w.ownsRow base E.T E.n v vs.length vs.flatten ∧ (∀ x ∈ vs, x.length = E.n) ∧ ∀ x ∈ vs, ∀ u ∈ x, u.oneCell' = true

theorem flatten_at {n : Nat} : ∀ (vs : List (List Value)), (∀ x ∈ vs, x.length = n) → ∀ i j u, i < vs.length → (vs.getD i [])[j]? = some u → vs.flatten[i * n + j]? = some u
  | [], _, i, j, u, hi, _ => absurd hi (by simp)
  | x :: r, hw, 0, j, u, _, h => by
    have hx := hw x (by simp)
    have hj : j < x.length := by
      have : ((x :: r).getD 0 []) = x := rfl
      rw [this] at h
      exact (List.getElem?_eq_some_iff.1 h).1
    rw [Nat.zero_mul, Nat.zero_add, List.flatten_cons, List.getElem?_append_left hj]
    exact h
  | x :: r, hw, i + 1, j, u, hi, h => by
    have hx := hw x (by simp)
    have ih := flatten_at r (fun y hy => hw y (by simp [hy])) i j u (by simp at hi; omega) h
    rw [List.flatten_cons, List.getElem?_append_right (by rw [hx, Nat.add_mul]; omega), hx, show (i + 1) * n + j - n = i * n + j from by rw [Nat.add_mul]; omega]
    exact ih

theorem OwnG.rd {base : Nat} (h : OwnG E w base v vs) (hs : vs.length ≤ 140737488351232) : RdG E w v vs := by
  obtain ⟨h1, hw, _⟩ := h
  have hc := fun g => World.ownsRow.cells (g := g) h1
  obtain ⟨_, h2⟩ := h1
  rcases h2 with ⟨rfl, hn⟩ | ⟨g, cap, cur, rfl, _, hg, hn, hm, _⟩
  · have : vs = [] := List.eq_nil_of_length_eq_zero hn
    subst this; exact RdG.nil E w
  · refine ⟨⟨_, cap, rfl, hn, (by intro h; cases h), fun _ => ⟨g, 0, rfl⟩⟩, fun i hi j u hu => ?_, hw, hs⟩
    exact hc g rfl (i * E.n + j) u (flatten_at vs hw i j u hi hu)

theorem OwnG.later {base B : Nat} (h : OwnG E w base v vs) (hb : Below B w w') (hB : w.heap.size ≤ B) : OwnG E w' base v vs := by
  refine ⟨⟨h.1.1, ?_⟩, h.2⟩
  rcases h.1.2 with h2 | ⟨g, cap, cur, rfl, hbg, hg, r⟩
  · exact .inl h2
  · refine .inr ⟨g, cap, cur, rfl, hbg, ?_, r⟩
    rw [hb.block g (Nat.lt_of_lt_of_le (Array.getElem?_eq_some_iff.1 hg).1 hB)]; exact hg

/-- .. while another block turns. -/
theorem OwnG.grown {base : Nat} (h : OwnG E w base v vs) {r : Option Nat} (hg : w.grownBy w' r) (hne : ∀ k, v.ownBlock = some k → some k ≠ r) : OwnG E w' base v vs := by
  refine ⟨⟨h.1.1, ?_⟩, h.2⟩
  rcases h.1.2 with h2 | ⟨g, cap, cur, rfl, hbg, hgg, q⟩
  · exact .inl h2
  · refine .inr ⟨g, cap, cur, rfl, hbg, ?_, q⟩
    rw [hg.block g (Array.getElem?_eq_some_iff.1 hgg).1 (hne g rfl)]; exact hgg

theorem OwnG.alloc {base : Nat} (h : OwnG E w base v vs) (o : Obj) : OwnG E (w.alloc o) base v vs := ⟨World.ownsRow.alloc h.1 o, h.2⟩
theorem OwnG.drew {base : Nat} (h : OwnG E w base v vs) : OwnG E w.drew base v vs := h.later ((Below.refl w.heap.size w).drew) (Nat.le_refl _)
theorem OwnG.nil (E : Elt) (w : World) (base : Nat) : OwnG E w base (.slice none 0 0) [] := ⟨World.ownsRow_nil w base _ _, by simp, by simp⟩
theorem OwnG.base {base base' : Nat} (h : OwnG E w base v vs) (hb : base' ≤ base) : OwnG E w base' v vs := by
  refine ⟨⟨h.1.1, ?_⟩, h.2⟩
  rcases h.1.2 with h2 | ⟨g, cap, cur, rfl, hbg, r⟩
  · exact .inl h2
  · exact .inr ⟨g, cap, cur, rfl, Nat.le_trans hb hbg, r⟩
theorem OwnG.lt {base : Nat} (h : OwnG E w base v vs) {k : Nat} (hk : v.ownBlock = some k) : base ≤ k ∧ k < w.heap.size := World.ownsRow.lt h.1 k hk

/-- 'append(s, x)': s the call's own, x one element. -/
theorem wplG_append (hE : E.Ok) {ops : Array Oper} {Q : Exit → Act → World → Prop} {rest : List Oper} {a : Act} {dst : Option Tmp} {ty : TypeId} {pos : String} {aft : Array Edge} {s x : Operand}
    (base : Nat) (sv : Value) (hs : a.eval s = sv) (ho : OwnG E w base sv vs) (ad : Addr) (u : List Value) (hx : a.eval x = .slice (some ad) 1 1) (hu : u.length = E.n) (h1 : ∀ z ∈ u, z.oneCell' = true)
    (hc : ∀ j z, u[j]? = some z → w.cell? (ad.add j) = some z) (hn : (vs.length + 1) * E.bytes ≤ 140737488355328) (hn2 : vs.length + 1 ≤ 140737488355328) (hbase : base ≤ w.heap.size)
    (B : Nat) (w0 : World) (hb : Below B w0 w) (hBb : B ≤ base)
    (h : ∀ v' w', OwnG E w' base v' (vs ++ [u]) → Below B w0 w' → w.grownBy w' sv.ownBlock → wpList Try.prog ops Q rest (a.put dst v') w') :
    wpList Try.prog ops Q (⟨dst, .call ⟨.builtin .append, #[s, x], #[E.S, E.S]⟩, ty, pos, aft, none⟩ :: rest) a w := by
  obtain ⟨i0, hi, hz0, hz1, hz2⟩ := info_parts hE.info
  refine wpList_append_own w rfl s x E.S rfl base E.T i0 E.zero E.n E.bytes hE.hS hi hz0 hz1 hz2 hE.hz hE.hn sv vs.length vs.flatten hs ho.1 ad 1 1 u hx (by rw [hu]; omega) hc h1 (by unfold maxLen; omega) hn hbase ?_
  intro v' w' h1' h2 _
  refine h v' w' ⟨?_, ?_, ?_⟩ (hb.grown h2 (by omega) fun k hk => ?_) h2
  · rw [List.length_append, List.flatten_append, List.flatten_singleton]; exact h1'
  · intro y hy
    rcases List.mem_append.1 hy with hy | hy
    · exact ho.2.1 y hy
    · rw [List.mem_singleton.1 hy]; exact hu
  · intro y hy
    rcases List.mem_append.1 hy with hy | hy
    · exact ho.2.2 y hy
    · rw [List.mem_singleton.1 hy]; exact h1
  · exact Nat.le_trans hBb (World.ownsRow.lt ho.1 k hk).1
end

end Go.Proofs.Ytegaamebcoockaa
