/-
  Slices of slices of bytes that came in: how they read.
-/
import Derived.Test.YtojjfocnkdijpaaNums
import Derived.Deep.Slices
set_option linter.unusedVariables false
set_option linter.unusedSimpArgs false
namespace Go.Proofs.Ytojjfocnkdijpaa
open Go.ChangeShapes Go.WideShapes Go.ChangeAt Go.RowKit Go.Deep

/-- The slice value v holds the values us, and these read as the bytes ls. -/
structure RdL (w : World) (v : Value) (us : Nat → Value) (ls : List (List UInt8)) : Prop where
  shape : ∃ ao cap, v = .slice ao ls.length cap ∧ ls.length ≤ cap ∧ (ao = none → cap = 0) ∧ (0 < ls.length → ∃ b o, ao = some ⟨b, o, none⟩)
  cells : ∀ i, i < ls.length → w.cell? (adr v i) = some (us i)
  rds : ∀ i, i < ls.length → Rd w (us i) (ls.getD i [])
  small : ls.length ≤ 140737488351232

theorem RdL.block {w : World} {v : Value} {us : Nat → Value} {ls : List (List UInt8)} (h : RdL w v us ls) {i : Nat} (hi : i < ls.length) : (adr v i).block < w.heap.size :=
  World.block_lt_of_cell? w _ (h.cells i hi)
theorem RdL.later {w w' : World} {v : Value} {us : Nat → Value} {ls : List (List UInt8)} (h : RdL w v us ls) {B : Nat} (hb : Below B w w') (hB : w.heap.size ≤ B) : RdL w' v us ls :=
  ⟨h.shape, fun i hi => by rw [hb.cell (Nat.lt_of_lt_of_le (h.block hi) hB)]; exact h.cells i hi, fun i hi => (h.rds i hi).later hb hB, h.small⟩
theorem RdL.nil (w : World) : RdL w (.slice none 0 0) (fun _ => .slice none 0 0) [] :=
  ⟨⟨none, 0, rfl, Nat.le_refl _, fun _ => rfl, fun h => absurd h (by simp)⟩, fun i hi => absurd hi (by simp), fun i hi => absurd hi (by simp), by simp⟩

theorem RdL.len {w : World} {v : Value} {us : Nat → Value} {ls : List (List UInt8)} (h : RdL w v us ls) : ∀ u, (Builtin.len_ #[48] 3 #[v]).run Try.prog u = .ok (.int .i64 (ls.length : Int)) u := by
  intro u
  obtain ⟨⟨ao, cap, rfl, _⟩, _, _, _⟩ := h
  exact run_len_slice u _ _ ao _ _ Try.underlying48

theorem RdL.idx {w : World} {v : Value} {us : Nat → Value} {ls : List (List UInt8)} (h : RdL w v us ls) (i : Nat) (hi : i < ls.length) :
    ∀ u, (Instr.indexAt 48 v (.int .i64 (i : Int))).run Try.prog u = .ok (.pointer (some (adr v i))) u := by
  intro u
  obtain ⟨⟨ao, cap, rfl, _, _, hp⟩, _, _, _⟩ := h
  obtain ⟨b, o, rfl⟩ := hp (by omega)
  have := run_indexAt_slice (P := Try.prog) u 48 ⟨b, o, none⟩ ls.length cap .i64 i Try.underlying48
  rw [this, if_pos ⟨by omega, by omega⟩]
  have h1 : (Try.prog.info? (Try.prog.elem 48)).map (·.size) = some 1 := by kernel_rfl
  obtain ⟨inf, hi1, hi2⟩ := Option.map_eq_some_iff.1 h1
  simp [sizeOf, typeInfo, hi1, hi2, Result.andThen, adr]

section
variable {H : Type} {enc : TypeId × Value → H} {W : World}

theorem weights_mem_all {P : Program} {e : TypeId} {d : DataW H} {n : Nat} (hn : n ∈ d.weights P e) : ∀ {l : List (DataW H)}, d ∈ l → n ∈ DataW.weightsAll P e l
  | [], h => by simp at h
  | a :: r, h => by
    rw [DataW.weightsAll, List.mem_append]
    rcases List.mem_cons.1 h with rfl | h
    · exact .inl hn
    · exact .inr (weights_mem_all hn h)

/-- Bytes in a cell that came in. -/
theorem rd_cell {fuel : Nat} {v : Value} {d : DataW H} {ps : List MemPlace} (hf : DataW.trod enc Try.prog W 0 (fun _ => true) true fuel 22 [v] = some (d, ps)) (hz : ∀ n ∈ d.weights Try.prog 22, n ≤ reachBytes) : ∃ l, Rd W v l := by
  rcases open_ints Try.underlying22 Try.underlying5 cells_u8 hf with ⟨hcs, _⟩ | ⟨x, l, c, zs, hcs, _, hl, hm, hzl, hx, hcell, hwz⟩
  · simp at hcs
    subst hcs
    exact ⟨[], Rd.nil W⟩
  · simp at hcs
    subst hcs
    simp only [Prod.mk.injEq] at hx
    obtain ⟨rfl, _⟩ := hx
    simp only [if_true] at hzl
    have hs := hz _ (by rw [DataW.weights]; simp only [Try.underlying22]; exact List.mem_cons_self ..)
    rw [bytes_u8] at hs
    simp only [lits, List.length_map, List.length_take, List.length_drop, reachBytes] at hs
    have hbnd : ∀ n ∈ zs, 0 ≤ n ∧ n ≤ 255 := fun n hn => bd_u8 (hwz n hn)
    refine ⟨(zs.take l).map fun n => UInt8.ofNat n.toNat, ⟨some x, c, ?_, ?_, (by intro h; cases h), ?_⟩, ?_, ?_⟩
    · simp; omega
    · simp; omega
    · intro hp
      simp at hp
      have h0 := hcell 0 (by omega)
      obtain ⟨b, o, sp⟩ := x
      cases sp with
      | none => exact ⟨b, o, rfl⟩
      | some s =>
        exfalso
        simp only [Addr.add, if_true, World.cell?] at h0
        split at h0 <;> simp at h0
    · intro i hi
      simp at hi
      have h0 := hcell i (by omega)
      have e : at8 ((zs.take l).map fun n => UInt8.ofNat n.toNat) i = zs.getD i 0 := by
        have hz' := hbnd (zs[i]'(by omega)) (List.getElem_mem _)
        rw [at8_eq (by simp; omega)]
        simp [List.getD, show i < zs.length by omega]
        omega
      rw [e]
      exact h0
    · simp; omega

/-- A slice of slices of bytes that came in, as the walks read it. -/
theorem rdl_open {base : Nat} {v : Value} {d : DataW H} {ps : List MemPlace} {ts : List TypeId} {ds : List (DataW H)} {j : Nat} (hval : Value.okWide Try.prog W .any base 48 v)
    (h : DataW.Trod enc Try.prog W 0 (fun _ => true) true 48 v d ps) (hz : (DataW.weightsEach Try.prog ts ds).all (· ≤ reachBytes) = true) (ht : ts[j]? = some 48) (hd : ds[j]? = some d) : ∃ us ls, RdL W v us ls := by
  have hzd : ∀ n ∈ d.weights Try.prog 48, n ≤ reachBytes := fun n hn => by
    have := List.all_eq_true.1 hz _ (DataW.weights_mem_each ht hd n hn)
    simpa using this
  obtain ⟨a0, len, cap, rfl⟩ := okWide_slice Try.underlying48 hval
  obtain ⟨fuel, hf⟩ := h
  have hc1 : Try.prog.cellsOf 22 = 1 := by kernel_rfl
  have hb1 : Try.prog.bytesOf 22 = 24 := by kernel_rfl
  rcases open_slice1 Try.underlying48 hc1 hf with ⟨hcs, _⟩ | ⟨x, l, c, m, n, V, D, Pl, hcs, _, hl, hm, hmm, hx, hcell⟩
  · simp [Value.cells] at hcs
    obtain ⟨rfl, rfl, rfl⟩ := hcs
    exact ⟨_, [], RdL.nil W⟩
  · simp [Value.cells] at hcs
    obtain ⟨rfl, rfl, rfl⟩ := hcs
    simp only [Prod.mk.injEq] at hx
    obtain ⟨rfl, _⟩ := hx
    simp only [if_true] at hmm
    subst hmm
    have hw : ∀ i, i < len → ∀ k ∈ (D i).weights Try.prog 22, k ≤ reachBytes := fun i hi k hk => by
      refine hzd k ?_
      rw [DataW.weights]
      simp only [Try.underlying48]
      refine List.mem_cons_of_mem _ (List.mem_append.2 (.inl (weights_mem_all hk ?_)))
      exact List.mem_map.2 ⟨i, List.mem_range.2 hi, rfl⟩
    have hs := hzd _ (by rw [DataW.weights]; simp only [Try.underlying48]; exact List.mem_cons_self ..)
    rw [hb1] at hs
    simp only [List.length_map, List.length_range, reachBytes] at hs
    obtain ⟨L, hL⟩ := choose_lt (α := List UInt8) (p := fun i l => Rd W (V i) l) (n := len) (fun i hi => rd_cell (hcell i (by omega)).2 (hw i hi))
    have hlen : ((List.range len).map L).length = len := by simp
    refine ⟨V, (List.range len).map L, ⟨some x, _, by rw [hlen], by omega, (by intro h; cases h), ?_⟩, ?_, ?_, by omega⟩
    · intro hp
      rw [hlen] at hp
      have h0 := (hcell 0 (by omega)).1
      obtain ⟨b, o, sp⟩ := x
      cases sp with
      | none => exact ⟨b, o, rfl⟩
      | some s =>
        exfalso
        simp only [Addr.add, if_true, World.cell?] at h0
        split at h0 <;> simp at h0
    · intro i hi
      rw [hlen] at hi
      exact (hcell i (by omega)).1
    · intro i hi
      rw [hlen] at hi
      have e : ((List.range len).map L).getD i [] = L i := by simp [List.getD, hi]
      rw [e]
      exact hL i hi
end

end Go.Proofs.Ytojjfocnkdijpaa
