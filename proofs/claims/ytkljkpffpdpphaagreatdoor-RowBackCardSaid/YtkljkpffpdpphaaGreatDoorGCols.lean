/-
  Slices whose elements have one cell or more (structs of plain cells, strings): how they read (RdG), how a call owns one that it has made (OwnG), what the operations on them do.
-/
import Derived.Test.YtkljkpffpdpphaaGreatDoorBytes
import Derived.Test.YtkljkpffpdpphaaGreatDoorCellRef
set_option linter.unusedVariables false
set_option linter.unusedSimpArgs false
set_option maxRecDepth 1000000
namespace Go.Proofs.YtkljkpffpdpphaaGreatDoor
open Go.RowKit

/-- What a slice's elements are: the slice's type, theirs, how many cells each has. -/
structure Elt where
  S : TypeId
  T : TypeId
  n : Nat
  bytes : Nat
  zero : Value

structure Elt.Ok (E : Elt) : Prop where
  hS : Tryz.prog.underlying E.S = some (.slice E.T)
  hel : Tryz.prog.elem E.S = E.T
  info : (Tryz.prog.info? E.T).map (fun i => (i.zero, i.size, i.bytes)) = some (some E.zero, E.n, E.bytes)
  hz : E.zero.cells.size = E.n
  hn : 0 < E.n

theorem adr_lit (b o : Nat) (n c k : Nat) : adr (.slice (some ⟨b, o, none⟩) n c) k = ⟨b, o + k, none⟩ := by simp only [adr, Addr.add]; split <;> simp_all

/-- The slice value v reads as the elements vs, each a list of its cells. -/
structure RdG (E : Elt) (w : World) (v : Value) (vs : List (List Value)) : Prop where
  shape : ∃ ao cap, v = .slice ao vs.length cap ∧ vs.length ≤ cap ∧ (ao = none → cap = 0) ∧ (0 < vs.length → ∃ b o, ao = some ⟨b, o, none⟩)
  cells : ∀ i, i < vs.length → ∀ j u, (vs.getD i [])[j]? = some u → w.cell? (adr v (i * E.n + j)) = some u
  wid : ∀ x ∈ vs, x.length = E.n
  small : vs.length ≤ 140737488351232

section
variable {E : Elt} {w w' : World} {v : Value} {vs : List (List Value)}

theorem RdG.get (h : RdG E w v vs) {i : Nat} (hi : i < vs.length) : (vs.getD i []).length = E.n := by
  have e : vs.getD i [] = vs[i] := by simp [List.getD, hi]
  rw [e]; exact h.wid _ (List.getElem_mem _)

theorem RdG.block (h : RdG E w v vs) (hE : E.Ok) {i : Nat} (hi : i < vs.length) : (adr v (i * E.n)).block < w.heap.size := by
  have hl := h.get hi
  have hn := hE.hn
  have h0 : (vs.getD i [])[0]? = some ((vs.getD i [])[0]'(by omega)) := List.getElem?_eq_getElem _
  have := h.cells i hi 0 _ h0
  rw [Nat.add_zero] at this
  exact World.block_lt_of_cell? w _ this

theorem RdG.blk (h : RdG E w v vs) {i : Nat} (hi : i < vs.length) (j k : Nat) : (adr v j).block = (adr v k).block := by
  obtain ⟨ao, cap, rfl, _, _, hp⟩ := h.shape
  obtain ⟨b, o, rfl⟩ := hp (by omega)
  rw [adr_lit, adr_lit]

theorem RdG.same (h : RdG E w v vs) (hs : ∀ i, i < vs.length → w'.heap[(adr v (i * E.n)).block]? = w.heap[(adr v (i * E.n)).block]?) : RdG E w' v vs :=
  ⟨h.shape, fun i hi j u hu => (World.cell?_of_block (by rw [h.blk hi (i * E.n + j) (i * E.n)]; exact hs i hi)).trans (h.cells i hi j u hu), h.wid, h.small⟩

theorem RdG.later (h : RdG E w v vs) (hE : E.Ok) {B : Nat} (hb : Below B w w') (hB : w.heap.size ≤ B) : RdG E w' v vs :=
  h.same fun i hi => hb.block _ (Nat.lt_of_lt_of_le (h.block hE hi) hB)

theorem RdG.drew (h : RdG E w v vs) : RdG E w.drew v vs := ⟨h.shape, h.cells, h.wid, h.small⟩

theorem RdG.nil (E : Elt) (w : World) : RdG E w (.slice none 0 0) [] :=
  ⟨⟨none, 0, rfl, Nat.le_refl _, fun _ => rfl, fun h => absurd h (by simp)⟩, fun i hi => absurd hi (by simp), fun x hx => absurd hx (by simp), by simp⟩

theorem RdG.len (h : RdG E w v vs) (hE : E.Ok) : ∀ u, (Builtin.len_ #[E.S] 3 #[v]).run Tryz.prog u = .ok (.int .i64 (vs.length : Int)) u := by
  intro u
  obtain ⟨⟨ao, cap, rfl, _⟩, _, _, _⟩ := h
  exact run_len_slice u _ _ ao _ _ (by rw [hE.hel]; exact hE.hS)

theorem RdG.idx (h : RdG E w v vs) (hE : E.Ok) (i : Nat) (hi : i < vs.length) :
    ∀ u, (Instr.indexAt E.S v (.int .i64 (i : Int))).run Tryz.prog u = .ok (.pointer (some (adr v (i * E.n)))) u := by
  intro u
  obtain ⟨⟨ao, cap, rfl, _, _, hp⟩, _, _, _⟩ := h
  obtain ⟨b, o, rfl⟩ := hp (by omega)
  have := run_indexAt_slice (P := Tryz.prog) u E.S ⟨b, o, none⟩ vs.length cap .i64 i (by rw [hE.hel]; exact hE.hS)
  rw [this, if_pos ⟨by omega, by omega⟩]
  obtain ⟨inf, hi1, hi2⟩ := Option.map_eq_some_iff.1 hE.info
  have hsz : inf.size = E.n := by
    have := congrArg (fun x => x.2.1) hi2
    exact this
  have hi1' : Tryz.prog.info? (Tryz.prog.elem E.S) = some inf := by rw [hE.hel]; exact hi1
  simp [sizeOf, typeInfo, hi1', hsz, Result.andThen, adr]

/-- Where an element's cells lie. -/
theorem RdG.at (h : RdG E w v vs) {i : Nat} (hi : i < vs.length) : ∃ b o, adr v (i * E.n) = ⟨b, o, none⟩ ∧ ∀ j u, (vs.getD i [])[j]? = some u → w.cell? ⟨b, o + j, none⟩ = some u := by
  obtain ⟨ao, cap, rfl, _, _, hp⟩ := id h.shape
  obtain ⟨b, o, rfl⟩ := hp (by omega)
  refine ⟨b, o + i * E.n, adr_lit _ _ _ _ _, fun j u hu => ?_⟩
  have := h.cells i hi j u hu
  rw [adr_lit, ← Nat.add_assoc] at this
  exact this

/-- The slice value v is the call's own: made from block base on. -/
def OwnG (E : Elt) (w : World) (base : Nat) (v : Value) (vs : List (List Value)) : Prop :=
  w.ownsRow base E.T E.n v vs.length vs.flatten ∧ (∀ x ∈ vs, x.length = E.n) ∧ ∀ x ∈ vs, ∀ u ∈ x, u.oneCell' = true

theorem flatten_at {n : Nat} : ∀ (vs : List (List Value)), (∀ x ∈ vs, x.length = n) → ∀ i j u, i < vs.length → (vs.getD i [])[j]? = some u → vs.flatten[i * n + j]? = some u
  | [], _, i, j, u, hi, _ => absurd hi (by simp)
  | x :: r, hw, 0, j, u, _, h => by
    have hx := hw x (by simp)
    have hj : j < x.length := by
      have : ((x :: r).getD 0 []) = x := rfl
      rw [this] at h
      exact (List.getElem?_eq_some_iff.1 h).1
    rw [Nat.zero_mul, Nat.zero_add, List.flatten_cons, List.getElem?_append_left hj]
    exact h
  | x :: r, hw, i + 1, j, u, hi, h => by
    have hx := hw x (by simp)
    have ih := flatten_at r (fun y hy => hw y (by simp [hy])) i j u (by simp at hi; omega) h
    rw [List.flatten_cons, List.getElem?_append_right (by rw [hx, Nat.add_mul]; omega), hx, show (i + 1) * n + j - n = i * n + j from by rw [Nat.add_mul]; omega]
    exact ih

theorem OwnG.rd {base : Nat} (h : OwnG E w base v vs) (hs : vs.length ≤ 140737488351232) : RdG E w v vs := by
  obtain ⟨h1, hw, _⟩ := h
  have hc := fun g => World.ownsRow.cells (g := g) h1
  obtain ⟨_, h2⟩ := h1
  rcases h2 with ⟨rfl, hn⟩ | ⟨g, cap, cur, rfl, _, hg, hn, hm, _⟩
  · have : vs = [] := List.eq_nil_of_length_eq_zero hn
    subst this; exact RdG.nil E w
  · refine ⟨⟨_, cap, rfl, hn, (by intro h; cases h), fun _ => ⟨g, 0, rfl⟩⟩, fun i hi j u hu => ?_, hw, hs⟩
    exact hc g rfl (i * E.n + j) u (flatten_at vs hw i j u hi hu)

theorem OwnG.later {base B : Nat} (h : OwnG E w base v vs) (hb : Below B w w') (hB : w.heap.size ≤ B) : OwnG E w' base v vs := by
  refine ⟨⟨h.1.1, ?_⟩, h.2⟩
  rcases h.1.2 with h2 | ⟨g, cap, cur, rfl, hbg, hg, r⟩
  · exact .inl h2
  · refine .inr ⟨g, cap, cur, rfl, hbg, ?_, r⟩
    rw [hb.block g (Nat.lt_of_lt_of_le (Array.getElem?_eq_some_iff.1 hg).1 hB)]; exact hg

/-- .. while another block turns. -/
theorem OwnG.grown {base : Nat} (h : OwnG E w base v vs) {r : Option Nat} (hg : w.grownBy w' r) (hne : ∀ k, v.ownBlock = some k → some k ≠ r) : OwnG E w' base v vs := by
  refine ⟨⟨h.1.1, ?_⟩, h.2⟩
  rcases h.1.2 with h2 | ⟨g, cap, cur, rfl, hbg, hgg, q⟩
  · exact .inl h2
  · refine .inr ⟨g, cap, cur, rfl, hbg, ?_, q⟩
    rw [hg.block g (Array.getElem?_eq_some_iff.1 hgg).1 (hne g rfl)]; exact hgg

theorem OwnG.alloc {base : Nat} (h : OwnG E w base v vs) (o : Obj) : OwnG E (w.alloc o) base v vs := ⟨World.ownsRow.alloc h.1 o, h.2⟩
theorem OwnG.drew {base : Nat} (h : OwnG E w base v vs) : OwnG E w.drew base v vs := h.later ((Below.refl w.heap.size w).drew) (Nat.le_refl _)
theorem OwnG.nil (E : Elt) (w : World) (base : Nat) : OwnG E w base (.slice none 0 0) [] := ⟨World.ownsRow_nil w base _ _, by simp, by simp⟩
theorem OwnG.base {base base' : Nat} (h : OwnG E w base v vs) (hb : base' ≤ base) : OwnG E w base' v vs := by
  refine ⟨⟨h.1.1, ?_⟩, h.2⟩
  rcases h.1.2 with h2 | ⟨g, cap, cur, rfl, hbg, r⟩
  · exact .inl h2
  · exact .inr ⟨g, cap, cur, rfl, Nat.le_trans hb hbg, r⟩
theorem OwnG.lt {base : Nat} (h : OwnG E w base v vs) {k : Nat} (hk : v.ownBlock = some k) : base ≤ k ∧ k < w.heap.size := World.ownsRow.lt h.1 k hk

/-- 'append(s, x)': s the call's own, x one element. -/
theorem wplG_append (hE : E.Ok) {ops : Array Oper} {Q : Exit → Act → World → Prop} {rest : List Oper} {a : Act} {dst : Option Tmp} {ty : TypeId} {pos : String} {aft : Array Edge} {s x : Operand}
    (base : Nat) (sv : Value) (hs : a.eval s = sv) (ho : OwnG E w base sv vs) (ad : Addr) (u : List Value) (hx : a.eval x = .slice (some ad) 1 1) (hu : u.length = E.n) (h1 : ∀ z ∈ u, z.oneCell' = true)
    (hc : ∀ j z, u[j]? = some z → w.cell? (ad.add j) = some z) (hn : (vs.length + 1) * E.bytes ≤ 140737488355328) (hn2 : vs.length + 1 ≤ 140737488355328) (hbase : base ≤ w.heap.size)
    (B : Nat) (w0 : World) (hb : Below B w0 w) (hBb : B ≤ base)
    (h : ∀ v' w', OwnG E w' base v' (vs ++ [u]) → Below B w0 w' → w.grownBy w' sv.ownBlock → wpList Tryz.prog ops Q rest (a.put dst v') w') :
    wpList Tryz.prog ops Q (⟨dst, .call ⟨.builtin .append, #[s, x], #[E.S, E.S]⟩, ty, pos, aft, none⟩ :: rest) a w := by
  obtain ⟨i0, hi, hz0, hz1, hz2⟩ := info_parts hE.info
  refine wpList_append_own w rfl s x E.S rfl base E.T i0 E.zero E.n E.bytes hE.hS hi hz0 hz1 hz2 hE.hz hE.hn sv vs.length vs.flatten hs ho.1 ad 1 1 u hx (by rw [hu]; omega) hc h1 (by unfold maxLen; omega) hn hbase ?_
  intro v' w' h1' h2 _
  refine h v' w' ⟨?_, ?_, ?_⟩ (hb.grown h2 (by omega) fun k hk => ?_) h2
  · rw [List.length_append, List.flatten_append, List.flatten_singleton]; exact h1'
  · intro y hy
    rcases List.mem_append.1 hy with hy | hy
    · exact ho.2.1 y hy
    · rw [List.mem_singleton.1 hy]; exact hu
  · intro y hy
    rcases List.mem_append.1 hy with hy | hy
    · exact ho.2.2 y hy
    · rw [List.mem_singleton.1 hy]; exact h1
  · exact Nat.le_trans hBb (World.ownsRow.lt ho.1 k hk).1
end

end Go.Proofs.YtkljkpffpdpphaaGreatDoor


/-
  Slices of columns and of strings, as the walks read them.
-/
namespace Go.Proofs.YtkljkpffpdpphaaGreatDoor
open Go.RowKit

/-- A column: its name, its kind. -/
abbrev ColB := ByteArray × Int
def colV (c : ColB) : List Value := [.string c.1, .int .i64 c.2]
def strV (s : ByteArray) : List Value := [.string s]
def colE : Elt := ⟨22, 54, 2, 24, .agg #[.string ⟨#[]⟩, .int .i64 0]⟩
def strE : Elt := ⟨59, 9, 1, 16, .string ⟨#[]⟩⟩
theorem colOk : colE.Ok := ⟨Tryz.underlying22, by kernel_rfl, by kernel_rfl, rfl, by decide⟩
theorem strOk : strE.Ok := ⟨Tryz.underlying59, by kernel_rfl, by kernel_rfl, rfl, by decide⟩

/-- Columns as a program can hold them: no name too long for a string, kinds in their kind's bounds. -/
def CS (cs : List ColB) : Prop := ∀ c ∈ cs, c.1.size ≤ 140737488351232 ∧ -9223372036854775808 ≤ c.2 ∧ c.2 ≤ 9223372036854775807

def RdC (w : World) (v : Value) (cs : List ColB) : Prop := RdG colE w v (cs.map colV)
def OwnC (w : World) (base : Nat) (v : Value) (cs : List ColB) : Prop := OwnG colE w base v (cs.map colV)
def RdT (w : World) (v : Value) (ss : List ByteArray) : Prop := RdG strE w v (ss.map strV)
def OwnT (w : World) (base : Nat) (v : Value) (ss : List ByteArray) : Prop := OwnG strE w base v (ss.map strV)

theorem rdS_of {s : ByteArray} (h : s.size ≤ 140737488351232) : RdS s s.data.toList := ⟨by cases s; rfl, by simpa using h⟩

section
variable {w w' : World} {v : Value} {cs : List ColB} {ss : List ByteArray} {base : Nat}

theorem RdC.small (h : RdC w v cs) : cs.length ≤ 140737488351232 := by have := RdG.small h; simpa using this
theorem RdT.small (h : RdT w v ss) : ss.length ≤ 140737488351232 := by have := RdG.small h; simpa using this
theorem RdC.later (h : RdC w v cs) {B : Nat} (hb : Below B w w') (hB : w.heap.size ≤ B) : RdC w' v cs := RdG.later h colOk hb hB
theorem RdT.later (h : RdT w v ss) {B : Nat} (hb : Below B w w') (hB : w.heap.size ≤ B) : RdT w' v ss := RdG.later h strOk hb hB
theorem RdC.drew (h : RdC w v cs) : RdC w.drew v cs := RdG.drew h
theorem RdT.drew (h : RdT w v ss) : RdT w.drew v ss := RdG.drew h
theorem RdC.nil (w : World) : RdC w (.slice none 0 0) [] := RdG.nil colE w
theorem RdT.nil (w : World) : RdT w (.slice none 0 0) [] := RdG.nil strE w
theorem OwnC.rd (h : OwnC w base v cs) (hs : cs.length ≤ 140737488351232) : RdC w v cs := OwnG.rd h (by simpa using hs)
theorem OwnT.rd (h : OwnT w base v ss) (hs : ss.length ≤ 140737488351232) : RdT w v ss := OwnG.rd h (by simpa using hs)
theorem OwnC.later {B : Nat} (h : OwnC w base v cs) (hb : Below B w w') (hB : w.heap.size ≤ B) : OwnC w' base v cs := OwnG.later h hb hB
theorem OwnT.later {B : Nat} (h : OwnT w base v ss) (hb : Below B w w') (hB : w.heap.size ≤ B) : OwnT w' base v ss := OwnG.later h hb hB
theorem OwnC.lower {b' : Nat} (h : OwnC w base v cs) (hb : b' ≤ base) : OwnC w b' v cs := OwnG.base h hb
theorem OwnC.grown (h : OwnC w base v cs) {r : Option Nat} (hg : w.grownBy w' r) (hne : ∀ k, v.ownBlock = some k → some k ≠ r) : OwnC w' base v cs := OwnG.grown h hg hne
theorem OwnC.alloc (h : OwnC w base v cs) (o : Obj) : OwnC (w.alloc o) base v cs := OwnG.alloc h o
theorem OwnT.alloc (h : OwnT w base v ss) (o : Obj) : OwnT (w.alloc o) base v ss := OwnG.alloc h o
theorem OwnC.drew (h : OwnC w base v cs) : OwnC w.drew base v cs := OwnG.drew h
theorem OwnT.drew (h : OwnT w base v ss) : OwnT w.drew base v ss := OwnG.drew h
theorem OwnC.nil (w : World) (base : Nat) : OwnC w base (.slice none 0 0) [] := OwnG.nil colE w base
theorem OwnT.nil (w : World) (base : Nat) : OwnT w base (.slice none 0 0) [] := OwnG.nil strE w base
theorem OwnC.lt (h : OwnC w base v cs) {k : Nat} (hk : v.ownBlock = some k) : base ≤ k ∧ k < w.heap.size := OwnG.lt h hk
theorem OwnT.lt (h : OwnT w base v ss) {k : Nat} (hk : v.ownBlock = some k) : base ≤ k ∧ k < w.heap.size := OwnG.lt h hk

theorem RdC.len (h : RdC w v cs) : ∀ u, (Builtin.len_ #[22] 3 #[v]).run Tryz.prog u = .ok (.int .i64 (cs.length : Int)) u := by
  have := RdG.len h colOk
  rw [List.length_map] at this
  exact this
theorem RdT.len (h : RdT w v ss) : ∀ u, (Builtin.len_ #[59] 3 #[v]).run Tryz.prog u = .ok (.int .i64 (ss.length : Int)) u := by
  have := RdG.len h strOk
  rw [List.length_map] at this
  exact this

theorem getD_map {α : Type} (f : α → List Value) (l : List α) (i : Nat) (hi : i < l.length) (d : α) : (l.map f).getD i [] = f (l.getD i d) := by
  simp [List.getD, hi]

/-- An element: where it lies, and what it is. -/
theorem RdC.get (h : RdC w v cs) {i : Nat} (hi : i < cs.length) : ∃ b o, (∀ u, (Instr.indexAt 22 v (.int .i64 (i : Int))).run Tryz.prog u = .ok (.pointer (some ⟨b, o, none⟩)) u) ∧
    (∀ w', RdC w' v cs → w'.cell? ⟨b, o, none⟩ = some (.string (cs.getD i default).1) ∧ w'.cell? ⟨b, o + 1, none⟩ = some (.int .i64 (cs.getD i default).2)) ∧ b < w.heap.size := by
  have hi' : i < (cs.map colV).length := by simpa using hi
  have hx := RdG.idx h colOk i hi'
  obtain ⟨b, o, ha, hc⟩ := RdG.at h hi'
  rw [ha] at hx
  refine ⟨b, o, hx, fun w' h' => ?_, ?_⟩
  · obtain ⟨b', o', ha', hc'⟩ := RdG.at h' hi'
    rw [ha] at ha'
    cases ha'
    rw [getD_map colV cs i hi default] at hc'
    exact ⟨hc' 0 _ rfl, hc' 1 _ rfl⟩
  · rw [getD_map colV cs i hi default] at hc
    exact World.block_lt_of_cell? w _ (hc 0 _ rfl)
theorem RdT.get (h : RdT w v ss) {i : Nat} (hi : i < ss.length) : ∃ b o, (∀ u, (Instr.indexAt 59 v (.int .i64 (i : Int))).run Tryz.prog u = .ok (.pointer (some ⟨b, o, none⟩)) u) ∧
    (∀ w', RdT w' v ss → w'.cell? ⟨b, o, none⟩ = some (.string (ss.getD i default))) ∧ b < w.heap.size := by
  have hi' : i < (ss.map strV).length := by simpa using hi
  have hx := RdG.idx h strOk i hi'
  obtain ⟨b, o, ha, hc⟩ := RdG.at h hi'
  rw [ha] at hx
  refine ⟨b, o, hx, fun w' h' => ?_, ?_⟩
  · obtain ⟨b', o', ha', hc'⟩ := RdG.at h' hi'
    rw [ha] at ha'
    cases ha'
    rw [getD_map strV ss i hi default] at hc'
    exact hc' 0 _ rfl
  · rw [getD_map strV ss i hi default] at hc
    exact World.block_lt_of_cell? w _ (hc 0 _ rfl)

/-- 'append(s, api.Column{..})'. -/
theorem wplC_append {ops : Array Oper} {Q : Exit → Act → World → Prop} {rest : List Oper} {a : Act} {dst : Option Tmp} {ty : TypeId} {pos : String} {aft : Array Edge} {s x : Operand}
    (base : Nat) (sv : Value) (hs : a.eval s = sv) (ho : OwnC w base sv cs) (ad : Addr) (c : ColB) (hx : a.eval x = .slice (some ad) 1 1)
    (hc : ∀ j z, (colV c)[j]? = some z → w.cell? (ad.add j) = some z) (hn : (cs.length + 1) * 24 ≤ 140737488355328) (hbase : base ≤ w.heap.size)
    (B : Nat) (w0 : World) (hb : Below B w0 w) (hBb : B ≤ base)
    (h : ∀ v' w', OwnC w' base v' (cs ++ [c]) → Below B w0 w' → w.grownBy w' sv.ownBlock → wpList Tryz.prog ops Q rest (a.put dst v') w') :
    wpList Tryz.prog ops Q (⟨dst, .call ⟨.builtin .append, #[s, x], #[22, 22]⟩, ty, pos, aft, none⟩ :: rest) a w :=
  wplG_append (E := colE) (vs := cs.map colV) colOk base sv hs ho ad (colV c) hx rfl (by intro z hz; simp [colV] at hz; rcases hz with rfl | rfl <;> rfl) hc (by rw [List.length_map]; exact hn) (by rw [List.length_map]; omega) hbase B w0 hb hBb
    (fun v' w' h1 h2 h3 => h v' w' (by unfold OwnC; rw [List.map_append]; exact h1) h2 h3)
/-- 'append(s, a string)'. -/
theorem wplT_append {ops : Array Oper} {Q : Exit → Act → World → Prop} {rest : List Oper} {a : Act} {dst : Option Tmp} {ty : TypeId} {pos : String} {aft : Array Edge} {s x : Operand}
    (base : Nat) (sv : Value) (hs : a.eval s = sv) (ho : OwnT w base sv ss) (ad : Addr) (c : ByteArray) (hx : a.eval x = .slice (some ad) 1 1)
    (hc : ∀ j z, (strV c)[j]? = some z → w.cell? (ad.add j) = some z) (hn : (ss.length + 1) * 16 ≤ 140737488355328) (hbase : base ≤ w.heap.size)
    (B : Nat) (w0 : World) (hb : Below B w0 w) (hBb : B ≤ base)
    (h : ∀ v' w', OwnT w' base v' (ss ++ [c]) → Below B w0 w' → w.grownBy w' sv.ownBlock → wpList Tryz.prog ops Q rest (a.put dst v') w') :
    wpList Tryz.prog ops Q (⟨dst, .call ⟨.builtin .append, #[s, x], #[59, 59]⟩, ty, pos, aft, none⟩ :: rest) a w :=
  wplG_append (E := strE) (vs := ss.map strV) strOk base sv hs ho ad (strV c) hx rfl (by intro z hz; simp [strV] at hz; rw [hz]; rfl) hc (by rw [List.length_map]; exact hn) (by rw [List.length_map]; omega) hbase B w0 hb hBb
    (fun v' w' h1 h2 h3 => h v' w' (by unfold OwnT; rw [List.map_append]; exact h1) h2 h3)

/-- One column, one string, as the slice that append is handed. -/
theorem one_col (w : World) (c : ColB) : ∀ j z, (colV c)[j]? = some z → (w.alloc (.cells #[.string c.1, .int .i64 c.2] 54)).cell? (Addr.add ⟨w.heap.size, 0, none⟩ j) = some z := by
  intro j z hj
  have e : Addr.add ⟨w.heap.size, 0, none⟩ j = ⟨w.heap.size, j, none⟩ := by simp [Addr.add]; omega
  rw [e, cell_of_row _ _ _ _ _ _ (heap_alloc_new w _), List.getElem?_toArray]
  exact hj
theorem one_str (w : World) (c : ByteArray) : ∀ j z, (strV c)[j]? = some z → (w.alloc (.cells #[.string c] 9)).cell? (Addr.add ⟨w.heap.size, 0, none⟩ j) = some z := by
  intro j z hj
  have e : Addr.add ⟨w.heap.size, 0, none⟩ j = ⟨w.heap.size, j, none⟩ := by simp [Addr.add]; omega
  rw [e, cell_of_row _ _ _ _ _ _ (heap_alloc_new w _), List.getElem?_toArray]
  exact hj
end

end Go.Proofs.YtkljkpffpdpphaaGreatDoor


/-
  Slices of cells, as the walks read them.
-/
namespace Go.Proofs.YtkljkpffpdpphaaGreatDoor
open Go.RowKit

/-- A cell: its number, its text. -/
abbrev CellB := Nat × ByteArray
def cellVs (c : CellB) : List Value := [.int .u64 (c.1 : Int), .string c.2]
def cellE : Elt := ⟨23, 45, 2, 24, .agg #[.int .u64 0, .string ⟨#[]⟩]⟩
theorem cellOk : cellE.Ok := ⟨Tryz.underlying23, by kernel_rfl, by kernel_rfl, rfl, by decide⟩

/-- A cell as a program can hold it. -/
def ceS (c : CellB) : Prop := c.1 < 18446744073709551616 ∧ c.2.size ≤ 140737488351232
def CES (cs : List CellB) : Prop := ∀ c ∈ cs, ceS c
theorem CES.get {cs : List CellB} (h : CES cs) {k : Nat} (hk : k < cs.length) : ceS (cs.getD k default) := by
  have e : cs.getD k default = cs[k] := by simp [List.getD, hk]
  rw [e]; exact h _ (List.getElem_mem _)
theorem CES.rdS {c : CellB} (h : ceS c) : RdS c.2 c.2.data.toList := rdS_of h.2

def RdE (w : World) (v : Value) (cs : List CellB) : Prop := RdG cellE w v (cs.map cellVs)
def OwnE (w : World) (base : Nat) (v : Value) (cs : List CellB) : Prop := OwnG cellE w base v (cs.map cellVs)

section
variable {w w' : World} {v : Value} {cs : List CellB} {base : Nat}

theorem RdE.small (h : RdE w v cs) : cs.length ≤ 140737488351232 := by have := RdG.small h; simpa using this
theorem RdE.later (h : RdE w v cs) {B : Nat} (hb : Below B w w') (hB : w.heap.size ≤ B) : RdE w' v cs := RdG.later h cellOk hb hB
theorem RdE.drew (h : RdE w v cs) : RdE w.drew v cs := RdG.drew h
theorem RdE.nil (w : World) : RdE w (.slice none 0 0) [] := RdG.nil cellE w
theorem OwnE.rd (h : OwnE w base v cs) (hs : cs.length ≤ 140737488351232) : RdE w v cs := OwnG.rd h (by simpa using hs)
theorem OwnE.later {B : Nat} (h : OwnE w base v cs) (hb : Below B w w') (hB : w.heap.size ≤ B) : OwnE w' base v cs := OwnG.later h hb hB
theorem OwnE.lower {b' : Nat} (h : OwnE w base v cs) (hb : b' ≤ base) : OwnE w b' v cs := OwnG.base h hb
theorem OwnE.grown (h : OwnE w base v cs) {r : Option Nat} (hg : w.grownBy w' r) (hne : ∀ k, v.ownBlock = some k → some k ≠ r) : OwnE w' base v cs := OwnG.grown h hg hne
theorem OwnE.alloc (h : OwnE w base v cs) (o : Obj) : OwnE (w.alloc o) base v cs := OwnG.alloc h o
theorem OwnE.drew (h : OwnE w base v cs) : OwnE w.drew base v cs := OwnG.drew h
theorem OwnE.nil (w : World) (base : Nat) : OwnE w base (.slice none 0 0) [] := OwnG.nil cellE w base
theorem OwnE.lt (h : OwnE w base v cs) {k : Nat} (hk : v.ownBlock = some k) : base ≤ k ∧ k < w.heap.size := OwnG.lt h hk

theorem RdE.len (h : RdE w v cs) : ∀ u, (Builtin.len_ #[23] 3 #[v]).run Tryz.prog u = .ok (.int .i64 (cs.length : Int)) u := by
  have := RdG.len h cellOk
  rw [List.length_map] at this
  exact this

/-- An element: where it lies, and what it is. -/
theorem RdE.get (h : RdE w v cs) {i : Nat} (hi : i < cs.length) : ∃ b o, (∀ u, (Instr.indexAt 23 v (.int .i64 (i : Int))).run Tryz.prog u = .ok (.pointer (some ⟨b, o, none⟩)) u) ∧
    (∀ w', RdE w' v cs → w'.cell? ⟨b, o, none⟩ = some (.int .u64 ((cs.getD i default).1 : Int)) ∧ w'.cell? ⟨b, o + 1, none⟩ = some (.string (cs.getD i default).2)) ∧ b < w.heap.size := by
  have hi' : i < (cs.map cellVs).length := by simpa using hi
  have hx := RdG.idx h cellOk i hi'
  obtain ⟨b, o, ha, hc⟩ := RdG.at h hi'
  rw [ha] at hx
  refine ⟨b, o, hx, fun w' h' => ?_, ?_⟩
  · obtain ⟨b', o', ha', hc'⟩ := RdG.at h' hi'
    rw [ha] at ha'
    cases ha'
    rw [getD_map cellVs cs i hi default] at hc'
    exact ⟨hc' 0 _ rfl, hc' 1 _ rfl⟩
  · rw [getD_map cellVs cs i hi default] at hc
    exact World.block_lt_of_cell? w _ (hc 0 _ rfl)

/-- 'append(s, api.Cell{..})'. -/
theorem wplE_append {ops : Array Oper} {Q : Exit → Act → World → Prop} {rest : List Oper} {a : Act} {dst : Option Tmp} {ty : TypeId} {pos : String} {aft : Array Edge} {s x : Operand}
    (base : Nat) (sv : Value) (hs : a.eval s = sv) (ho : OwnE w base sv cs) (ad : Addr) (c : CellB) (hx : a.eval x = .slice (some ad) 1 1)
    (hc : ∀ j z, (cellVs c)[j]? = some z → w.cell? (ad.add j) = some z) (hn : (cs.length + 1) * 24 ≤ 140737488355328) (hbase : base ≤ w.heap.size)
    (B : Nat) (w0 : World) (hb : Below B w0 w) (hBb : B ≤ base)
    (h : ∀ v' w', OwnE w' base v' (cs ++ [c]) → Below B w0 w' → w.grownBy w' sv.ownBlock → wpList Tryz.prog ops Q rest (a.put dst v') w') :
    wpList Tryz.prog ops Q (⟨dst, .call ⟨.builtin .append, #[s, x], #[23, 23]⟩, ty, pos, aft, none⟩ :: rest) a w :=
  wplG_append (E := cellE) (vs := cs.map cellVs) cellOk base sv hs ho ad (cellVs c) hx rfl (by intro z hz; simp [cellVs] at hz; rcases hz with rfl | rfl <;> rfl) hc (by rw [List.length_map]; exact hn) (by rw [List.length_map]; omega) hbase B w0 hb hBb
    (fun v' w' h1 h2 h3 => h v' w' (by unfold OwnE; rw [List.map_append]; exact h1) h2 h3)

/-- One cell, as the slice that append is handed. -/
theorem one_cellv (w : World) (c : CellB) : ∀ j z, (cellVs c)[j]? = some z → (w.alloc (.cells #[.int .u64 (c.1 : Int), .string c.2] 45)).cell? (Addr.add ⟨w.heap.size, 0, none⟩ j) = some z := by
  intro j z hj
  have e : Addr.add ⟨w.heap.size, 0, none⟩ j = ⟨w.heap.size, j, none⟩ := by simp [Addr.add]; omega
  rw [e, cell_of_row _ _ _ _ _ _ (heap_alloc_new w _), List.getElem?_toArray]
  exact hj
end

end Go.Proofs.YtkljkpffpdpphaaGreatDoor

