/-
  What the frames of layer 6's last laws want: two rows that came in, and three.
-/
import Derived.Test.YtkljkpffpdpphaaGreatDoorDoorR
set_option linter.unusedVariables false
set_option linter.unusedSimpArgs false
set_option maxRecDepth 1000000
namespace Go.Proofs.YtkljkpffpdpphaaGreatDoor
open Go.ChangeShapes Go.WideShapes Go.ChangeAt Go.RowKit Go.Shelf Go.Deep

section
variable {H : Type} {enc : TypeId × Value → H} {W : World}

theorem cells_exact {v : Value} {l : List Value} (hl : 1 < l.length) (h : v.cells.toList = l) : v = .agg l.toArray := by
  have h' : v.cells = l.toArray := Array.toList_inj.1 (by simpa using h)
  cases v <;> simp [Value.cells] at h'
  all_goals first | (subst h'; rfl) | (rw [h']) | (subst h'; simp at hl)

theorem weights_agg {ds : List (DataW H)} {d : DataW H} {t e : TypeId} {n k : Nat} (ht : Tryz.prog.underlying t = some (.array n e)) (hd : d ∈ ds) (hk : k ∈ d.weights Tryz.prog e) : k ∈ (DataW.agg ds).weights Tryz.prog t := by
  rw [DataW.weights]
  simp only [ht]
  exact weights_mem_all5 hk hd

theorem rows3_open {v : Value} {d : DataW H} {ps : List MemPlace} {ts : List TypeId} {ds : List (DataW H)} {j : Nat}
    (h : DataW.Trod enc Tryz.prog W 0 (fun _ => true) true 41 v d ps) (hz : (DataW.weightsEach Tryz.prog ts ds).all (· ≤ reachBytes) = true) (ht : ts[j]? = some 41) (hd : ds[j]? = some d) :
    ∃ (x0 x1 x2 : Value) (l0 l1 l2 : List CellB), v = .agg #[x0, x1, x2] ∧ RdE W x0 l0 ∧ CES l0 ∧ RdE W x1 l1 ∧ CES l1 ∧ RdE W x2 l2 ∧ CES l2 := by
  have hzd : ∀ n ∈ d.weights Tryz.prog 41, n ≤ reachBytes := fun n hn => by
    have := List.all_eq_true.1 hz _ (DataW.weights_mem_each ht hd n hn)
    simpa using this
  obtain ⟨fuel, hf⟩ := h
  obtain ⟨xs, m, rfl, hx, hl, hn, hi⟩ := DataW.trod_array Tryz.underlying41 hf
  have c6 : Tryz.prog.cellsOf 41 = 3 := by kernel_rfl
  have c1 : Tryz.prog.cellsOf 23 = 1 := by kernel_rfl
  rw [c6] at hl
  obtain ⟨c0, c1', c2, hcs⟩ : ∃ c0 c1 c2, v.cells.toList = [c0, c1, c2] := by
    match hq : v.cells.toList, (hl : _) with
    | [c0, c1, c2], _ => exact ⟨c0, c1, c2, rfl⟩
  obtain ⟨x0, x1, x2, rfl⟩ : ∃ x0 x1 x2, xs = [x0, x1, x2] := by
    match xs, hn with
    | [x0, x1, x2], _ => exact ⟨x0, x1, x2, rfl⟩
  rw [hcs, c1] at hi
  have h0 := hi 0 (by omega)
  have h1 := hi 1 (by omega)
  have h2 := hi 2 (by omega)
  simp only [Nat.zero_mul, Nat.one_mul, List.drop_zero, List.take_succ_cons, List.take_zero, List.drop_succ_cons, List.getElem?_cons_zero, List.getElem?_cons_succ] at h0 h1 h2
  simp only [List.map_cons, List.map_nil, Prod.mk.injEq] at hx
  obtain ⟨rfl, _⟩ := hx
  obtain ⟨l0, r0, s0⟩ := cells_core (d := x0.1) (ps := x0.2) h0 (fun n hn => hzd n (weights_agg Tryz.underlying41 (by simp) hn))
  obtain ⟨l1, r1, s1⟩ := cells_core (d := x1.1) (ps := x1.2) h1 (fun n hn => hzd n (weights_agg Tryz.underlying41 (by simp) hn))
  obtain ⟨l2, r2, s2⟩ := cells_core (d := x2.1) (ps := x2.2) h2 (fun n hn => hzd n (weights_agg Tryz.underlying41 (by simp) hn))
  exact ⟨_, _, _, l0, l1, l2, cells_exact (by simp) hcs, r0, s0, r1, s1, r2, s2⟩

theorem rows2_open {v : Value} {d : DataW H} {ps : List MemPlace} {ts : List TypeId} {ds : List (DataW H)} {j : Nat}
    (h : DataW.Trod enc Tryz.prog W 0 (fun _ => true) true 46 v d ps) (hz : (DataW.weightsEach Tryz.prog ts ds).all (· ≤ reachBytes) = true) (ht : ts[j]? = some 46) (hd : ds[j]? = some d) :
    ∃ (x0 x1 : Value) (l0 l1 : List CellB), v = .agg #[x0, x1] ∧ RdE W x0 l0 ∧ CES l0 ∧ RdE W x1 l1 ∧ CES l1 := by
  have hzd : ∀ n ∈ d.weights Tryz.prog 46, n ≤ reachBytes := fun n hn => by
    have := List.all_eq_true.1 hz _ (DataW.weights_mem_each ht hd n hn)
    simpa using this
  obtain ⟨fuel, hf⟩ := h
  obtain ⟨xs, m, rfl, hx, hl, hn, hi⟩ := DataW.trod_array Tryz.underlying46 hf
  have c6 : Tryz.prog.cellsOf 46 = 2 := by kernel_rfl
  have c1 : Tryz.prog.cellsOf 23 = 1 := by kernel_rfl
  rw [c6] at hl
  obtain ⟨c0, c1', hcs⟩ : ∃ c0 c1, v.cells.toList = [c0, c1] := by
    match hq : v.cells.toList, (hl : _) with
    | [c0, c1], _ => exact ⟨c0, c1, rfl⟩
  obtain ⟨x0, x1, rfl⟩ : ∃ x0 x1, xs = [x0, x1] := by
    match xs, hn with
    | [x0, x1], _ => exact ⟨x0, x1, rfl⟩
  rw [hcs, c1] at hi
  have h0 := hi 0 (by omega)
  have h1 := hi 1 (by omega)
  simp only [Nat.zero_mul, Nat.one_mul, List.drop_zero, List.take_succ_cons, List.take_zero, List.drop_succ_cons, List.getElem?_cons_zero, List.getElem?_cons_succ] at h0 h1
  simp only [List.map_cons, List.map_nil, Prod.mk.injEq] at hx
  obtain ⟨rfl, _⟩ := hx
  obtain ⟨l0, r0, s0⟩ := cells_core (d := x0.1) (ps := x0.2) h0 (fun n hn => hzd n (weights_agg Tryz.underlying46 (by simp) hn))
  obtain ⟨l1, r1, s1⟩ := cells_core (d := x1.1) (ps := x1.2) h1 (fun n hn => hzd n (weights_agg Tryz.underlying46 (by simp) hn))
  exact ⟨_, _, l0, l1, cells_exact (by simp) hcs, r0, s0, r1, s1⟩
end

end Go.Proofs.YtkljkpffpdpphaaGreatDoor
