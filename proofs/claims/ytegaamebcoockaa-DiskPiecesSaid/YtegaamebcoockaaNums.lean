/-
  Slices of numbers of any kind that came in: how they read, and what the operations on them do.
-/
import Derived.Test.YtegaamebcoockaaLater
import Derived.Test.YtegaamebcoockaaLawKit
set_option linter.unusedVariables false
set_option linter.unusedSimpArgs false
set_option maxRecDepth 1000000
namespace Go.Proofs.Ytegaamebcoockaa
open Go.ChangeShapes Go.WideShapes Go.ChangeAt Go.RowKit

/-- The number at place i of a list. -/
def atI (l : List Int) (i : Nat) : Int := l.getD i 0

/-- The slice value v reads as the numbers l of kind k in the world w. -/
structure RdI (k : IntKind) (w : World) (v : Value) (l : List Int) : Prop where
  shape : ∃ ao cap, v = .slice ao l.length cap ∧ l.length ≤ cap ∧ (ao = none → cap = 0) ∧ (0 < l.length → ∃ b o, ao = some ⟨b, o, none⟩)
  cells : ∀ i, i < l.length → w.cell? (adr v i) = some (.int k (atI l i))
  wf : ∀ n ∈ l, (Lit.int k n).wf = true
  small : l.length ≤ 140737488351232

theorem RdI.block {k : IntKind} {w : World} {v : Value} {l : List Int} (h : RdI k w v l) {i : Nat} (hi : i < l.length) : (adr v i).block < w.heap.size :=
  World.block_lt_of_cell? w _ (h.cells i hi)
theorem RdI.later {k : IntKind} {w w' : World} {v : Value} {l : List Int} (h : RdI k w v l) {B : Nat} (hb : Below B w w') (hB : w.heap.size ≤ B) : RdI k w' v l :=
  ⟨h.shape, fun i hi => by rw [hb.cell (Nat.lt_of_lt_of_le (h.block hi) hB)]; exact h.cells i hi, h.wf, h.small⟩
theorem RdI.drew {k : IntKind} {w : World} {v : Value} {l : List Int} (h : RdI k w v l) : RdI k w.drew v l := ⟨h.shape, h.cells, h.wf, h.small⟩
theorem RdI.nil (k : IntKind) (w : World) : RdI k w (.slice none 0 0) [] :=
  ⟨⟨none, 0, rfl, Nat.le_refl _, fun _ => rfl, fun h => absurd h (by simp)⟩, fun i hi => absurd hi (by simp), by simp, by simp⟩

theorem RdI.len {k : IntKind} {w : World} {v : Value} {l : List Int} (h : RdI k w v l) {t : TypeId} (ht : Try.prog.underlying t = some (.slice (Try.prog.elem t))) :
    ∀ u, (Builtin.len_ #[t] 3 #[v]).run Try.prog u = .ok (.int .i64 (l.length : Int)) u := by
  intro u
  obtain ⟨⟨ao, cap, rfl, _⟩, _, _, _⟩ := h
  exact run_len_slice u _ _ ao _ _ ht

theorem RdI.idx {k : IntKind} {w : World} {v : Value} {l : List Int} (h : RdI k w v l) {t : TypeId} (ht : Try.prog.underlying t = some (.slice (Try.prog.elem t))) (h1 : (Try.prog.info? (Try.prog.elem t)).map (·.size) = some 1) (i : Nat) (hi : i < l.length) :
    ∀ u, (Instr.indexAt t v (.int .i64 (i : Int))).run Try.prog u = .ok (.pointer (some (adr v i))) u := by
  intro u
  obtain ⟨⟨ao, cap, rfl, _, _, hp⟩, _, _, _⟩ := h
  obtain ⟨b, o, rfl⟩ := hp (by omega)
  have := run_indexAt_slice (P := Try.prog) u t ⟨b, o, none⟩ l.length cap .i64 i ht
  rw [this, if_pos ⟨by omega, by omega⟩]
  obtain ⟨inf, hi1, hi2⟩ := Option.map_eq_some_iff.1 h1
  simp [sizeOf, typeInfo, hi1, hi2, Result.andThen, adr]

theorem RdI.mem {k : IntKind} {w : World} {v : Value} {l : List Int} (h : RdI k w v l) {i : Nat} (hi : i < l.length) : (Lit.int k (atI l i)).wf = true := by
  refine h.wf _ ?_
  simp [atI, List.getD, hi]

section
variable {H : Type} {enc : TypeId × Value → H} {W : World}

/-- A slice of numbers that came in, as the walks read it. -/
theorem ints_open {k : IntKind} {t e : TypeId} (hu : Try.prog.underlying t = some (.slice e)) (he : Try.prog.underlying e = some (.int k)) (hc : Try.prog.cellsOf e = 1) (hby : 1 ≤ Try.prog.bytesOf e)
    {base : Nat} {v : Value} {d : DataW H} {ps : List MemPlace} {ts : List TypeId} {ds : List (DataW H)} {j : Nat} (hval : Value.okWide Try.prog W .any base t v)
    (h : DataW.Trod enc Try.prog W 0 (fun _ => true) true t v d ps) (hz : (DataW.weightsEach Try.prog ts ds).all (· ≤ reachBytes) = true) (ht : ts[j]? = some t) (hd : ds[j]? = some d) : ∃ l, RdI k W v l := by
  obtain ⟨a0, len, cap, rfl⟩ := okWide_slice hu hval
  obtain ⟨fuel, hf⟩ := h
  rcases open_ints hu he hc hf with ⟨hcs, _⟩ | ⟨x, l, c, zs, hcs, _, hl, hm, hzl, hx, hcell, hwz⟩
  · simp [Value.cells] at hcs
    obtain ⟨rfl, rfl, rfl⟩ := hcs
    exact ⟨[], RdI.nil k W⟩
  · simp [Value.cells] at hcs
    obtain ⟨rfl, rfl, rfl⟩ := hcs
    simp only [Prod.mk.injEq] at hx
    obtain ⟨rfl, _⟩ := hx
    simp only [if_true] at hzl
    have hs := sized_slice hz ht hd hu
    simp only [lits, List.length_map, List.length_take, List.length_drop, reachBytes] at hs
    have hs2 : len ≤ 140737488351232 := by
      have : (min len zs.length + (zs.length - len)) * 1 ≤ (min len zs.length + (zs.length - len)) * Try.prog.bytesOf e := Nat.mul_le_mul_left _ hby
      omega
    have hlen : (zs.take len).length = len := by simp; omega
    refine ⟨zs.take len, ⟨some x, cap, by rw [hlen], by omega, (by intro h; cases h), ?_⟩, ?_, fun n hn => hwz n (List.mem_of_mem_take hn), by omega⟩
    · intro hp
      rw [hlen] at hp
      have h0 := hcell 0 (by omega)
      obtain ⟨b, o, sp⟩ := x
      cases sp with
      | none => exact ⟨b, o, rfl⟩
      | some s =>
        exfalso
        simp only [Addr.add, if_true, World.cell?] at h0
        split at h0 <;> simp at h0
    · intro i hi
      rw [hlen] at hi
      have h0 := hcell i (by omega)
      have e : atI (zs.take len) i = zs.getD i 0 := by simp only [atI, List.getD]; rw [List.getElem?_take_of_lt hi]
      rw [e]
      exact h0
end

end Go.Proofs.Ytegaamebcoockaa
