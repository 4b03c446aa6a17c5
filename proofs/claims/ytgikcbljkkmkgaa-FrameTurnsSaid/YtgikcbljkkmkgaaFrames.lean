/-
  Slices of frames (a kind, a payload, a place), of either package's type, as the walks read and own them.
-/
import Derived.Test.YtgikcbljkkmkgaaFrameDefs
import Derived.Test.YtgikcbljkkmkgaaStructsAll
set_option linter.unusedVariables false
set_option linter.unusedSimpArgs false
set_option maxRecDepth 1000000
namespace Go.Proofs.Ytgikcbljkkmkgaa
open Go.RowKit

/-- A frame, and the value that its payload is read of. -/
abbrev FrmV := Value × FrmB
def frV (t : FrmV) : List Value := [.int .i64 (t.2.1 : Int), t.1, .int .i64 (t.2.2.2 : Int)]
def frameE : Elt := ⟨35, 42, 3, 40, .agg #[.int .i64 0, .slice none 0 0, .int .i64 0]⟩
theorem frameOk : frameE.Ok := ⟨Try.underlying35, by kernel_rfl, by kernel_rfl, rfl, by decide⟩

def frameR : Elt := ⟨38, 43, 3, 40, .agg #[.int .i64 0, .slice none 0 0, .int .i64 0]⟩
theorem frameROk : frameR.Ok := ⟨Try.underlying38, by kernel_rfl, by kernel_rfl, rfl, by decide⟩

/-- A slice of bytes of the call's own, while another block turns. -/
theorem Own.grown {w w' : World} {base : Nat} {v : Value} {l : List UInt8} (h : Own w base v l) {r : Option Nat} (hg : w.grownBy w' r) (hne : ∀ k, v.ownBlock = some k → some k ≠ r) : Own w' base v l := by
  refine ⟨h.1, ?_⟩
  rcases h.2 with h2 | ⟨g, cap, cur, rfl, hbg, hgg, q⟩
  · exact .inl h2
  · refine .inr ⟨g, cap, cur, rfl, hbg, ?_, q⟩
    rw [hg.block g (Array.getElem?_eq_some_iff.1 hgg).1 (hne g rfl)]; exact hgg
theorem Own.own_type {w : World} {base q : Nat} {v : Value} {l : List UInt8} (h : Own w base v l) (hq : v.ownBlock = some q) : ∃ cur, w.heap[q]? = some (.cells cur 5 (0, 0)) := by
  rcases h.2 with ⟨rfl, hn⟩ | ⟨g, cap, cur, rfl, hbg, hgg, _⟩
  · cases hq
  · cases hq; exact ⟨_, hgg⟩
theorem own_block_lt {w : World} {base : Nat} {v : Value} {l : List UInt8} (h : Own w base v l) : ∀ b, v.ownBlock = some b → b < w.heap.size := fun b hb => (World.ownsRow.lt h b hb).2
theorem OwnG.own_type {E : Elt} {w : World} {base q : Nat} {v : Value} {vs : List (List Value)} (h : OwnG E w base v vs) (hq : v.ownBlock = some q) : ∃ cur, w.heap[q]? = some (.cells cur E.T (0, 0)) := by
  rcases h.1.2 with ⟨rfl, hn⟩ | ⟨g, cap, cur, rfl, hbg, hgg, _⟩
  · cases hq
  · cases hq; exact ⟨_, hgg⟩
theorem Own.lit {w : World} {base : Nat} {v : Value} {l : List UInt8} (h : Own w base v l) : ∃ ao n cap, v = .slice ao n cap := by
  rcases h.2 with ⟨rfl, hn⟩ | ⟨g, cap, cur, rfl, hbg, hgg, _⟩
  · exact ⟨_, _, _, rfl⟩
  · exact ⟨_, _, _, rfl⟩

/-- Frames in a slice of the call's own; their payloads are its own, too. -/
def OwnF (E : Elt) (w : World) (base : Nat) (v : Value) (fs : List FrmB) : Prop :=
  ∃ ts : List FrmV, fs = ts.map (·.2) ∧ OwnG E w base v (ts.map frV) ∧ ∀ t ∈ ts, Own w base t.1 t.2.2.1

section
variable {E : Elt} {w w' : World} {v : Value} {fs : List FrmB} {base : Nat}

theorem OwnF.nil (E : Elt) (w : World) (base : Nat) : OwnF E w base (.slice none 0 0) [] := ⟨[], rfl, OwnG.nil E w base, by simp⟩
theorem OwnF.later {B : Nat} (h : OwnF E w base v fs) (hb : Below B w w') (hB : w.heap.size ≤ B) : OwnF E w' base v fs := by
  obtain ⟨ts, e, h, hr⟩ := h
  exact ⟨ts, e, h.later hb hB, fun t ht => (hr t ht).later hb hB⟩
theorem OwnF.lower {b' : Nat} (h : OwnF E w base v fs) (hb : b' ≤ base) : OwnF E w b' v fs := by
  obtain ⟨ts, e, h, hr⟩ := h
  exact ⟨ts, e, h.base hb, fun t ht => (hr t ht).base hb⟩
theorem OwnF.alloc (h : OwnF E w base v fs) (o : Obj) : OwnF E (w.alloc o) base v fs := h.later ((Below.refl w.heap.size w).alloc (Nat.le_refl _) o) (Nat.le_refl _)
theorem OwnF.len (h : OwnF E w base v fs) (hE : E.Ok) (hs : fs.length ≤ 140737488351232) : ∀ u, (Builtin.len_ #[E.S] 3 #[v]).run Try.prog u = .ok (.int .i64 (fs.length : Int)) u := by
  obtain ⟨ts, rfl, h, _⟩ := h
  have := RdG.len (h.rd (by simpa using hs)) hE
  rw [List.length_map] at this ⊢
  exact this

/-- A frame: where it lies, the value of its payload, and what it is. -/
theorem OwnF.get (h : OwnF E w base v fs) (hE : E.Ok) (h3 : E.n = 3) (hs : fs.length ≤ 140737488351232) {i : Nat} (hi : i < fs.length) :
    ∃ b o pv, (∀ u, (Instr.indexAt E.S v (.int .i64 (i : Int))).run Try.prog u = .ok (.pointer (some ⟨b, o, none⟩)) u) ∧
    w.cell? ⟨b, o, none⟩ = some (.int .i64 ((fs.getD i default).1 : Int)) ∧ w.cell? ⟨b, o + 1, none⟩ = some pv ∧ w.cell? ⟨b, o + 2, none⟩ = some (.int .i64 ((fs.getD i default).2.2 : Int)) ∧ Own w base pv (fs.getD i default).2.1 := by
  obtain ⟨ts, rfl, h, hr⟩ := h
  rw [List.length_map] at hi hs
  have h := h.rd (by simpa using hs)
  have hi' : i < (ts.map frV).length := by simpa using hi
  have hx := RdG.idx h hE i hi'
  obtain ⟨b, o, ha, hc⟩ := RdG.at h hi'
  rw [ha] at hx
  have eg : (ts.map frV).getD i [] = frV ts[i] := by simp [List.getD, hi]
  have ep : (ts.map (·.2)).getD i default = ts[i].2 := by simp [List.getD, hi]
  rw [eg] at hc
  rw [ep]
  exact ⟨b, o, ts[i].1, hx, hc 0 _ rfl, hc 1 _ rfl, hc 2 _ rfl, hr _ (List.getElem_mem _)⟩

/-- 'append(s, Frame{kind, payload, place})'. -/
theorem wplF_append (hE : E.Ok) (h3 : E.n = 3) (h40 : E.bytes = 40) (hT : E.T ≠ 5) {ops : Array Oper} {Q : Exit → Act → World → Prop} {rest : List Oper} {a : Act} {dst : Option Tmp} {ty : TypeId} {pos : String} {aft : Array Edge} {s x : Operand}
    (base : Nat) (sv : Value) (hs : a.eval s = sv) (ho : OwnF E w base sv fs) (g : Nat) (pv : Value) (f : FrmB) (hx : a.eval x = .slice (some ⟨g, 0, none⟩) 1 1) (hg : w.heap[g]? = some (.cells #[.int .i64 (f.1 : Int), pv, .int .i64 (f.2.2 : Int)] E.T (0, 0)))
    (hp : Own w base pv f.2.1) (hn : (fs.length + 1) * 40 ≤ 140737488355328) (hbase : base ≤ w.heap.size)
    (B : Nat) (w0 : World) (hb : Below B w0 w) (hBb : B ≤ base)
    (h : ∀ v' w', OwnF E w' base v' (fs ++ [f]) → Below B w0 w' → w.grownBy w' sv.ownBlock → wpList Try.prog ops Q rest (a.put dst v') w') :
    wpList Try.prog ops Q (⟨dst, .call ⟨.builtin .append, #[s, x], #[E.S, E.S]⟩, ty, pos, aft, none⟩ :: rest) a w := by
  obtain ⟨ts, rfl, hG, hts⟩ := ho
  rw [List.length_map] at hn
  refine wplG_append hE base sv hs hG ⟨g, 0, none⟩ (frV (pv, f)) hx (by rw [h3]; rfl) ?_ ?_ (by rw [List.length_map, h40]; exact hn) (by rw [List.length_map]; omega) hbase B w0 hb hBb ?_
  · intro z hz
    obtain ⟨ao, n, cap, rfl⟩ := hp.lit
    simp [frV] at hz
    rcases hz with rfl | rfl | rfl <;> rfl
  · intro j z hj
    have e : Addr.add ⟨g, 0, none⟩ j = ⟨g, j, none⟩ := by simp only [Addr.add]; split <;> simp_all
    rw [e, cell_of_row _ _ _ _ _ _ hg]
    simpa [frV] using hj
  · intro v' w' h1 h2 h4
    have key : ∀ (u : Value) (l : List UInt8), Own w base u l → Own w' base u l := fun u l hu => hu.grown h4 fun k hk e => by
      obtain ⟨c1, e1⟩ := hu.own_type hk
      obtain ⟨c2, e2⟩ := hG.own_type e.symm
      rw [e1] at e2
      injection e2 with e2
      injection e2 with _ e3 _
      exact hT e3.symm
    refine h v' w' ⟨ts ++ [(pv, f)], by simp, by simpa using h1, ?_⟩ h2 h4
    intro t ht
    rcases List.mem_append.1 ht with ht | ht
    · exact key _ _ (hts t ht)
    · rw [List.mem_singleton.1 ht]; exact key _ _ hp
end

theorem wplFrame_append {fs : List FrmB} {w : World} {ops : Array Oper} {Q : Exit → Act → World → Prop} {rest : List Oper} {a : Act} {dst : Option Tmp} {ty : TypeId} {pos : String} {aft : Array Edge} {s x : Operand}
    (base : Nat) (sv : Value) (hs : a.eval s = sv) (ho : OwnF frameE w base sv fs) (g : Nat) (pv : Value) (f : FrmB) (hx : a.eval x = .slice (some ⟨g, 0, none⟩) 1 1) (hg : w.heap[g]? = some (.cells #[.int .i64 (f.1 : Int), pv, .int .i64 (f.2.2 : Int)] 42 (0, 0)))
    (hp : Own w base pv f.2.1) (hn : (fs.length + 1) * 40 ≤ 140737488355328) (hbase : base ≤ w.heap.size)
    (B : Nat) (w0 : World) (hb : Below B w0 w) (hBb : B ≤ base)
    (h : ∀ v' w', OwnF frameE w' base v' (fs ++ [f]) → Below B w0 w' → w.grownBy w' sv.ownBlock → wpList Try.prog ops Q rest (a.put dst v') w') :
    wpList Try.prog ops Q (⟨dst, .call ⟨.builtin .append, #[s, x], #[35, 35]⟩, ty, pos, aft, none⟩ :: rest) a w :=
  wplF_append (E := frameE) frameOk rfl rfl (by decide) base sv hs ho g pv f hx hg hp hn hbase B w0 hb hBb h

theorem wplFrameR_append {fs : List FrmB} {w : World} {ops : Array Oper} {Q : Exit → Act → World → Prop} {rest : List Oper} {a : Act} {dst : Option Tmp} {ty : TypeId} {pos : String} {aft : Array Edge} {s x : Operand}
    (base : Nat) (sv : Value) (hs : a.eval s = sv) (ho : OwnF frameR w base sv fs) (g : Nat) (pv : Value) (f : FrmB) (hx : a.eval x = .slice (some ⟨g, 0, none⟩) 1 1) (hg : w.heap[g]? = some (.cells #[.int .i64 (f.1 : Int), pv, .int .i64 (f.2.2 : Int)] 43 (0, 0)))
    (hp : Own w base pv f.2.1) (hn : (fs.length + 1) * 40 ≤ 140737488355328) (hbase : base ≤ w.heap.size)
    (B : Nat) (w0 : World) (hb : Below B w0 w) (hBb : B ≤ base)
    (h : ∀ v' w', OwnF frameR w' base v' (fs ++ [f]) → Below B w0 w' → w.grownBy w' sv.ownBlock → wpList Try.prog ops Q rest (a.put dst v') w') :
    wpList Try.prog ops Q (⟨dst, .call ⟨.builtin .append, #[s, x], #[38, 38]⟩, ty, pos, aft, none⟩ :: rest) a w :=
  wplF_append (E := frameR) frameROk rfl rfl (by decide) base sv hs ho g pv f hx hg hp hn hbase B w0 hb hBb h

/-- What All answers. -/
def RetAF (E : Elt) (w : World) (r : List FrmB × Nat × Nat) (e : Ending) (w' : World) : Prop :=
  ∃ v, e = .returned (.tuple #[v, .int .i64 (r.2.1 : Nat), .int .i64 (r.2.2 : Nat)]) ∧ OwnF E w' w.heap.size v r.1 ∧ Below w.heap.size w w'
theorem RetAF.mk {E : Elt} {w w' : World} {r : List FrmB × Nat × Nat} {fs : List FrmB} {n k : Nat} {v : Value} {x y : Int} (h : r = (fs, n, k)) (ho : OwnF E w' w.heap.size v fs) (hb : Below w.heap.size w w') (hx : x = (n : Nat)) (hy : y = (k : Nat)) :
    RetAF E w r (.returned (.tuple #[v, .int .i64 x, .int .i64 y])) w' := by
  subst h hx hy
  exact ⟨_, rfl, ho, hb⟩

end Go.Proofs.Ytgikcbljkkmkgaa
