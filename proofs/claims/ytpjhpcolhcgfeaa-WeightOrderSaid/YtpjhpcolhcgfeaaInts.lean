/-
  Slices of int64 as slices of one-celled elements: parts of them, append, a store.
-/
import Derived.Test.YtpjhpcolhcgfeaaNums
import Derived.Test.YtpjhpcolhcgfeaaStructsAll
import Derived.Test.YtpjhpcolhcgfeaaSliceG
set_option linter.unusedVariables false
set_option linter.unusedSimpArgs false
set_option maxRecDepth 1000000
namespace Go.Proofs.Ytpjhpcolhcgfeaa
open Go.RowKit

def intE : Elt := ⟨27, 2, 1, 8, .int .i64 0⟩
theorem intOk : intE.Ok := ⟨Try.underlying27, by kernel_rfl, by kernel_rfl, rfl, by decide⟩
def intV (x : Int) : List Value := [.int .i64 x]
def inR (x : Int) : Prop := -9223372036854775808 ≤ x ∧ x ≤ 9223372036854775807
theorem wf_i64 {x : Int} : (Lit.int .i64 x).wf = true ↔ inR x := by
  simp [Lit.wf, IntKind.min, IntKind.max, IntKind.signed, IntKind.bits, inR]

section
variable {w w' : World} {v : Value} {l : List Int} {base : Nat}

theorem intV_get {i : Nat} (hi : i < l.length) : (l.map intV).getD i [] = intV (atI l i) := by
  simp [List.getD, hi, atI]

theorem RdI.toG (h : RdI .i64 w v l) : RdG intE w v (l.map intV) := by
  refine ⟨by simpa using h.shape, fun i hi j u hu => ?_, fun x hx => ?_, by simpa using h.small⟩
  · rw [List.length_map] at hi
    rw [intV_get hi] at hu
    obtain rfl : j = 0 := by
      have := (List.getElem?_eq_some_iff.1 hu).1
      simpa [intV] using this
    have : u = .int .i64 (atI l i) := by simpa [intV] using hu.symm
    subst this
    have := h.cells i hi
    simpa [intE] using this
  · obtain ⟨y, _, rfl⟩ := List.mem_map.1 hx
    rfl

theorem RdI.ofG (h : RdG intE w v (l.map intV)) (hw : ∀ x ∈ l, inR x) : RdI .i64 w v l := by
  refine ⟨by have := h.shape; rw [List.length_map] at this; exact this, fun i hi => ?_, fun n hn => wf_i64.2 (hw n hn), by have := h.small; simpa using this⟩
  have := h.cells i (by simpa using hi) 0 (.int .i64 (atI l i)) (by rw [intV_get hi]; rfl)
  simpa [intE] using this

theorem RdI.inR (h : RdI .i64 w v l) : ∀ x ∈ l, inR x := fun x hx => wf_i64.1 (h.wf x hx)

theorem RdI.from64 (h : RdI .i64 w v l) (lo : Nat) (h1 : lo ≤ l.length) :
    ∃ v', (∀ u, (Instr.slice 27 v (some (.int .i64 (lo : Int))) none none).run Try.prog u = .ok v' u) ∧ ∀ w', RdI .i64 w' v l → RdI .i64 w' v' (l.drop lo) := by
  obtain ⟨v', h2, h3⟩ := RdG.from intOk h.toG lo (by simpa using h1)
  refine ⟨v', h2, fun w' h' => RdI.ofG (by rw [List.map_drop]; exact h3 w' h'.toG) fun x hx => h'.inR x (List.mem_of_mem_drop hx)⟩

theorem RdI.upto64 (h : RdI .i64 w v l) (hi : Nat) (h1 : hi ≤ l.length) :
    ∃ v', (∀ u, (Instr.slice 27 v none (some (.int .i64 (hi : Int))) none).run Try.prog u = .ok v' u) ∧ ∀ w', RdI .i64 w' v l → RdI .i64 w' v' (l.take hi) := by
  obtain ⟨v', h2, h3⟩ := RdG.upto intOk h.toG hi (by simpa using h1)
  refine ⟨v', h2, fun w' h' => RdI.ofG (by rw [List.map_take]; exact h3 w' h'.toG) fun x hx => h'.inR x (List.mem_of_mem_take hx)⟩

/-- A slice of int64 of the call's own. -/
def OwnI (w : World) (base : Nat) (v : Value) (l : List Int) : Prop := OwnG intE w base v (l.map intV)

theorem OwnI.rd (h : OwnI w base v l) (hw : ∀ x ∈ l, inR x) (hs : l.length ≤ 140737488351232) : RdI .i64 w v l := RdI.ofG (OwnG.rd h (by simpa using hs)) hw
theorem OwnI.later {B : Nat} (h : OwnI w base v l) (hb : Below B w w') (hB : w.heap.size ≤ B) : OwnI w' base v l := OwnG.later h hb hB
theorem OwnI.alloc (h : OwnI w base v l) (o : Obj) : OwnI (w.alloc o) base v l := OwnG.alloc h o
theorem OwnI.drew (h : OwnI w base v l) : OwnI w.drew base v l := OwnG.drew h
theorem OwnI.lt (h : OwnI w base v l) {k : Nat} (hk : v.ownBlock = some k) : base ≤ k ∧ k < w.heap.size := OwnG.lt h hk
theorem OwnI.nil (w : World) (base : Nat) : OwnI w base (.slice none 0 0) [] := OwnG.nil intE w base
theorem ownI_empty (w : World) (base : Nat) (hb : base ≤ w.heap.size) : OwnI (w.alloc (.cells #[] 2)) base (.slice (some ⟨w.heap.size, 0, none⟩) 0 0) [] := ownG_empty intE w base hb
theorem ownI_one (w : World) (base : Nat) (hb : base ≤ w.heap.size) (x : Int) : OwnI (w.alloc (.cells #[.int .i64 x] 2)) base (.slice (some ⟨w.heap.size, 0, none⟩) 1 1) [x] :=
  ownG_built intE w base hb [intV x] (by simp [intV, intE]) (by simp [intV, Value.oneCell']) (by simp)

theorem intV_one (l : List Int) : ∀ x ∈ l.map intV, ∀ u ∈ x, u.oneCell' = true := by
  intro x hx u hu
  obtain ⟨y, _, rfl⟩ := List.mem_map.1 hx
  simp [intV] at hu; subst hu; rfl

/-- 'append(s, t...)'. -/
theorem wplI_append {ops : Array Oper} {Q : Exit → Act → World → Prop} {rest : List Oper} {a : Act} {dst : Option Tmp} {ty : TypeId} {pos : String} {aft : Array Edge} {s x : Operand} {m : List Int}
    (base : Nat) (sv : Value) (hs : a.eval s = sv) (ho : OwnI w base sv l) (xv : Value) (hx : a.eval x = xv) (hr : RdI .i64 w xv m)
    (hn : l.length + m.length ≤ 1000000000) (hbase : base ≤ w.heap.size)
    (B : Nat) (w0 : World) (hb : Below B w0 w) (hBb : B ≤ base)
    (h : ∀ v' w', OwnI w' base v' (l ++ m) → Below B w0 w' → w.grownBy w' sv.ownBlock → wpList Try.prog ops Q rest (a.put dst v') w') :
    wpList Try.prog ops Q (⟨dst, .call ⟨.builtin .append, #[s, x], #[27, 27]⟩, ty, pos, aft, none⟩ :: rest) a w := by
  refine wplG_appendAll intOk base sv hs ho xv hx hr.toG (intV_one m) (by simp [intE]; omega) (by simp; omega) hbase B w0 hb hBb (fun v' w' h1 h2 h3 => h v' w' ?_ h2 h3)
  unfold OwnI; rw [List.map_append]; exact h1

theorem flatI_set : ∀ (l : List Int) (i : Nat) (x : Int), i < l.length → (l.map intV).flatten.set i (.int .i64 x) = ((l.set i x).map intV).flatten
  | [], i, x, h => by simp at h
  | a :: r, 0, x, h => by simp [intV]
  | a :: r, i + 1, x, h => by
    have ih := flatI_set r i x (by simpa using h)
    rw [List.set_cons_succ, List.map_cons, List.map_cons, List.flatten_cons, List.flatten_cons, ← ih]
    rfl

/-- A store into a slice of the call's own. -/
theorem OwnI.set (h : OwnI w base v l) {i : Nat} (hi : i < l.length) : ∃ g cap, v = .slice (some ⟨g, 0, none⟩) l.length cap ∧ base ≤ g ∧ (∃ cur, w.heap[g]? = some (.cells cur 2 (0, 0))) ∧
    ∀ k x, k < l.length → OwnI (w.setCell ⟨g, k, none⟩ (.int .i64 x)) base v (l.set k x) := by
  obtain ⟨⟨h0, h2⟩, h3⟩ := h
  rw [List.length_map] at h2 h0
  rcases h2 with ⟨rfl, hn⟩ | ⟨g, cap, cur, rfl, hbg, hg, hn, hm, hs, ht⟩
  · exact absurd hi (by omega)
  · refine ⟨g, cap, rfl, hbg, ⟨cur, hg⟩, fun k x hk => ⟨⟨?_, .inr ⟨g, cap, cur.setIfInBounds k (.int .i64 x), by rw [List.length_map, List.length_set], hbg, block_setCell hg _, by rw [List.length_map, List.length_set]; exact hn, hm, by simpa using hs, ?_⟩⟩, ?_, intV_one _⟩⟩
    · rw [← flatI_set l k x hk, List.length_set, List.length_map, List.length_set]; exact h0
    · rw [← flatI_set l k x hk, List.length_map, List.length_set, Array.toList_setIfInBounds, List.take_set]
      rw [ht]
    · intro y hy; obtain ⟨c, _, rfl⟩ := List.mem_map.1 hy; rfl
/-- Where the cells of a slice of the call's own lie, in this world and in each in which it is its own. -/
theorem OwnI.spot (h : OwnI w base v l) (hp : 0 < l.length) (hs : l.length ≤ 140737488351232) : ∃ g, base ≤ g ∧
    (∀ k, k < l.length → ∀ u, (Instr.indexAt 27 v (.int .i64 (k : Int))).run Try.prog u = .ok (.pointer (some ⟨g, k, none⟩)) u) ∧
    ∀ w' l', l'.length = l.length → OwnI w' base v l' → ∀ k, k < l.length → w'.cell? ⟨g, k, none⟩ = some (.int .i64 (atI l' k)) ∧ w'.frozen? ⟨g, k, none⟩ = false ∧ ∀ x, OwnI (w'.setCell ⟨g, k, none⟩ (.int .i64 x)) base v (l'.set k x) := by
  obtain ⟨g, cap, hv, hbg, _, _⟩ := h.set hp
  have hrd := OwnG.rd h (by simpa using hs)
  refine ⟨g, hbg, fun k hk u => ?_, fun w' l' hl ho k hk => ?_⟩
  · have := RdG.idx hrd intOk k (by simpa using hk) u
    rw [hv, adr_lit] at this
    rw [hv]
    simpa [intE] using this
  · obtain ⟨g', cap', hv', _, ⟨cur, hg⟩, hset⟩ := ho.set (i := k) (by omega)
    have e := hv.symm.trans hv'
    simp only [Value.slice.injEq, Option.some.injEq, Addr.mk.injEq] at e
    obtain ⟨⟨rfl, _⟩, _⟩ := e
    have hrd' := OwnG.rd ho (by rw [List.length_map]; omega)
    have hc := hrd'.cells k (by rw [List.length_map]; omega) 0 (.int .i64 (atI l' k)) (by rw [intV_get (by omega)]; rfl)
    rw [hv, adr_lit] at hc
    refine ⟨by simpa [intE] using hc, frozen_of_row _ _ _ _ _ hg, fun x => hset k x (by omega)⟩

end

end Go.Proofs.Ytpjhpcolhcgfeaa
