/-
  A slice of cells that came in: how much it holds.
-/
import Derived.Test.YtccclfpngdjmjaaDoorDoorC
import Derived.Test.YtccclfpngdjmjaaDoorColRefWrite
import Derived.Test.YtccclfpngdjmjaaDoorRows
set_option linter.unusedVariables false
set_option linter.unusedSimpArgs false
set_option maxRecDepth 1000000
namespace Go.Proofs.YtccclfpngdjmjaaDoor
open Go.ChangeShapes Go.WideShapes Go.ChangeAt Go.RowKit Go.Shelf Go.Deep

section
variable {H : Type} {enc : TypeId × Value → H} {W : World}

/-- A cell's datum. -/
def cellD (c : CellB) : DataW H := .agg [.lit (.int .u64 (c.1 : Int)), .lit (.string c.2.data.toList)]
theorem bulk_cells : ∀ (cs : List CellB), cs.length + sumT (cesL cs) ≤ Rows.uptoBulkAll (cs.map (cellD (H := H)))
  | [] => by simp [cesL, sumT]
  | c :: r => by
    have := bulk_cells r
    rw [List.map_cons]
    simp only [Rows.uptoBulkAll, cellD, Rows.uptoBulk, List.length_cons]
    show r.length + 1 + (c.2.data.toList.length + sumT (cesL r)) ≤ _
    omega

theorem cells_coreU {fuel : Nat} {v : Value} {d : DataW H} {ps : List MemPlace} (hf : DataW.trod enc Tryd.prog W 0 (fun _ => true) true fuel 22 [v] = some (d, ps)) (hzd : ∀ n ∈ d.weights Tryd.prog 22, n ≤ reachBytes) : ∃ cs, RdE W v cs ∧ CES cs ∧ cs.length + sumT (cesL cs) ≤ Rows.uptoBulk d := by
  have hb1 : 1 ≤ Tryd.prog.bytesOf 44 := Nat.le_of_ble_eq_true (by kernel_rfl)
  rcases open_slice Tryd.underlying22 hf with ⟨hcs, _⟩ | ⟨x, len, c, m, n, D, Pl, hcs, _, hl, hm, hmm, hx, hcell⟩
  · obtain rfl : v = .slice none 0 0 := by simpa using hcs
    exact ⟨[], RdE.nil W, fun c hc => absurd hc (by simp), by simp [cesL, sumT]⟩
  · obtain rfl : v = .slice (some x) len c := by simpa using hcs
    simp only [Prod.mk.injEq] at hx
    obtain ⟨rfl, _⟩ := hx
    simp only [if_true] at hmm
    subst hmm
    have hw : ∀ i, i < len → ∀ k ∈ (D i).weights Tryd.prog 44, k ≤ reachBytes := fun i hi k hk => by
      refine hzd k ?_
      rw [DataW.weights]
      simp only [Tryd.underlying22]
      refine List.mem_cons_of_mem _ (List.mem_append.2 (.inl (weights_mem_all5 hk ?_)))
      exact List.mem_map.2 ⟨i, List.mem_range.2 hi, rfl⟩
    have hs := hzd _ (by rw [DataW.weights]; simp only [Tryd.underlying22]; exact List.mem_cons_self ..)
    simp only [List.length_map, List.length_range, reachBytes] at hs
    have hs2 : len ≤ 140737488351232 := by
      have : (len + (m - len)) * 1 ≤ (len + (m - len)) * Tryd.prog.bytesOf 44 := Nat.mul_le_mul_left _ hb1
      omega
    rw [cells_cell] at hcell
    obtain ⟨L, hL⟩ := choose_lt (α := CellB) (p := fun i a => ceS a ∧ (∀ j u, (cellVs a)[j]? = some u → W.cell? ((x.add (i * 2)).add j) = some u) ∧ D i = cellD a) (n := len) (fun i hi => by
      obtain ⟨cs', h1, h2⟩ := hcell i (by omega)
      obtain ⟨_, h3, h4⟩ := World.cells?_some h1
      obtain ⟨a, rfl, hwa, hk1⟩ := cell_part2 h2
      have hsz := hw i hi a.2.data.toList.length (by
        dsimp only at hwa
        rw [hwa]
        simp [DataW.weights, Tryd.underlying44, DataW.weightsEach])
      refine ⟨a, ⟨hk1, by simpa [reachBytes] using hsz⟩, fun j u hu => ?_, hwa⟩
      have hj : j < 2 := by have := (List.getElem?_eq_some_iff.1 hu).1; simpa [cellVs] using this
      rw [h4 j hj, hu])
    have hlen : ((List.range len).map L).length = len := by simp
    have e : ∀ i, i < len → ((List.range len).map L).getD i default = L i := fun i hi => by simp [List.getD, hi]
    have hsp : 0 < len → ∃ b o, x = ⟨b, o, none⟩ := by
      intro hp
      have h0 := (hL 0 hp).2.1 0 _ rfl
      obtain ⟨b, o, sp⟩ := x
      cases sp with
      | none => exact ⟨b, o, rfl⟩
      | some s =>
        exfalso
        simp only [Addr.add, if_true, World.cell?] at h0
        split at h0 <;> simp at h0
    refine ⟨(List.range len).map L, ⟨⟨some x, _, by rw [List.length_map, hlen], by rw [List.length_map, hlen]; omega, (by intro h; cases h), fun hp => ?_⟩, ?_, ?_, by rw [List.length_map, hlen]; exact hs2⟩, ?_, ?_⟩
    · rw [List.length_map, hlen] at hp
      obtain ⟨b, o, rfl⟩ := hsp hp
      exact ⟨b, o, rfl⟩
    · intro i hi j u hu
      rw [List.length_map, hlen] at hi
      rw [getD_map cellVs _ i (by rw [hlen]; exact hi) default, e i hi] at hu
      have := (hL i hi).2.1 j u hu
      obtain ⟨b, o, rfl⟩ := hsp (by omega)
      rw [Addr.add_mid, Addr.add_mid, Nat.add_assoc] at this
      rw [adr_lit]
      exact this
    · intro z hz
      obtain ⟨c, _, rfl⟩ := List.mem_map.1 hz
      rfl
    · intro c hc
      obtain ⟨i, hi, rfl⟩ := List.mem_map.1 hc
      exact (hL i (List.mem_range.1 hi)).1
    · have e2 : (List.range len).map D = ((List.range len).map L).map cellD := by
        rw [List.map_map]
        exact List.map_congr_left fun i hi => (hL i (List.mem_range.1 hi)).2.2
      simp only [Rows.uptoBulk]
      rw [e2]
      have := bulk_cells (H := H) ((List.range len).map L)
      omega

theorem cells_openU {base : Nat} {v : Value} {d : DataW H} {ps : List MemPlace} {ts : List TypeId} {ds : List (DataW H)} {j : Nat} (hval : Value.okWide Tryd.prog W .any base 22 v)
    (h : DataW.Trod enc Tryd.prog W 0 (fun _ => true) true 22 v d ps) (hz : (DataW.weightsEach Tryd.prog ts ds).all (· ≤ reachBytes) = true) (ht : ts[j]? = some 22) (hd : ds[j]? = some d) : ∃ cs, RdE W v cs ∧ CES cs ∧ cs.length + sumT (cesL cs) ≤ Rows.uptoBulk d := by
  have hzd : ∀ n ∈ d.weights Tryd.prog 22, n ≤ reachBytes := fun n hn => by
    have := List.all_eq_true.1 hz _ (DataW.weights_mem_each ht hd n hn)
    simpa using this
  obtain ⟨a0, len, cap, rfl⟩ := okWide_slice Tryd.underlying22 hval
  obtain ⟨fuel, hf⟩ := h
  exact cells_coreU (v := .slice a0 len cap) hf hzd
end

end Go.Proofs.YtccclfpngdjmjaaDoor
