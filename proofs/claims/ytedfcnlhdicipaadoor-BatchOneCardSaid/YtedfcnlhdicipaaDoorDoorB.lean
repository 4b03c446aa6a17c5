/-
  What the frames of layer 10's laws want beside layer 9's: columns that came in, pairs, two lists of pairs, three numbers.
-/
import Derived.Test.YtedfcnlhdicipaaDoorDoorC
import Derived.Test.YtedfcnlhdicipaaDoorGBaseB
set_option linter.unusedVariables false
set_option linter.unusedSimpArgs false
set_option maxRecDepth 1000000
namespace Go.Proofs.YtedfcnlhdicipaaDoor
open Go.ChangeShapes Go.WideShapes Go.ChangeAt Go.RowKit Go.Shelf Go.Deep

section
variable {H : Type} {enc : TypeId × Value → H} {W : World}

theorem cells_column : Tryd.prog.cellsOf 43 = 2 := by kernel_rfl

theorem col_part {m : Nat} {cs : List Value} {x : DataW H × List MemPlace} (h : DataW.trod enc Tryd.prog W 0 (fun _ => true) true m 43 cs = some x) :
    ∃ (c : ColB), cs = colV c ∧ x.1 = .agg [.lit (.string c.1.data.toList), .lit (.int .i64 c.2)] ∧ -9223372036854775808 ≤ c.2 ∧ c.2 ≤ 9223372036854775807 := by
  obtain ⟨y0, y1, k, hx, hl, h0, h1⟩ := trod_struct2 Tryd.underlying43 h
  rw [cells_column] at hl
  match cs, hl with
  | [c0, c1], _ =>
    have k9 : Tryd.prog.cellsOf 3 = 1 := by kernel_rfl
    have k8 : Tryd.prog.cellsOf 9 = 1 := by kernel_rfl
    simp [k9, k8] at h0 h1
    obtain ⟨s, e2, e3, _⟩ := DataW.trod_string Tryd.underlying9 h0
    obtain ⟨a, e0, e1, wa⟩ := DataW.trod_int Tryd.underlying3 h1
    simp at e0 e2
    subst e0 e2
    have hb := bd_i64 wa
    exact ⟨(s, a), rfl, by rw [hx]; simp [e1, e3], hb.1, hb.2⟩

theorem cols_open {base : Nat} {v : Value} {d : DataW H} {ps : List MemPlace} {ts : List TypeId} {ds : List (DataW H)} {j : Nat} (hval : Value.okWide Tryd.prog W .any base 23 v)
    (h : DataW.Trod enc Tryd.prog W 0 (fun _ => true) true 23 v d ps) (hz : (DataW.weightsEach Tryd.prog ts ds).all (· ≤ reachBytes) = true) (ht : ts[j]? = some 23) (hd : ds[j]? = some d) : ∃ cs, RdC W v cs ∧ CS cs := by
  have hzd : ∀ n ∈ d.weights Tryd.prog 23, n ≤ reachBytes := fun n hn => by
    have := List.all_eq_true.1 hz _ (DataW.weights_mem_each ht hd n hn)
    simpa using this
  obtain ⟨a0, len, cap, rfl⟩ := okWide_slice Tryd.underlying23 hval
  obtain ⟨fuel, hf⟩ := h
  have hb1 : 1 ≤ Tryd.prog.bytesOf 43 := Nat.le_of_ble_eq_true (by kernel_rfl)
  rcases open_slice Tryd.underlying23 hf with ⟨hcs, _⟩ | ⟨x, l, c, m, n, D, Pl, hcs, _, hl, hm, hmm, hx, hcell⟩
  · simp [Value.cells] at hcs
    obtain ⟨rfl, rfl, rfl⟩ := hcs
    exact ⟨[], RdC.nil W, fun c hc => absurd hc (by simp)⟩
  · simp [Value.cells] at hcs
    obtain ⟨rfl, rfl, rfl⟩ := hcs
    simp only [Prod.mk.injEq] at hx
    obtain ⟨rfl, _⟩ := hx
    simp only [if_true] at hmm
    subst hmm
    have hw : ∀ i, i < len → ∀ k ∈ (D i).weights Tryd.prog 43, k ≤ reachBytes := fun i hi k hk => by
      refine hzd k ?_
      rw [DataW.weights]
      simp only [Tryd.underlying23]
      refine List.mem_cons_of_mem _ (List.mem_append.2 (.inl (weights_mem_all5 hk ?_)))
      exact List.mem_map.2 ⟨i, List.mem_range.2 hi, rfl⟩
    have hs := hzd _ (by rw [DataW.weights]; simp only [Tryd.underlying23]; exact List.mem_cons_self ..)
    simp only [List.length_map, List.length_range, reachBytes] at hs
    have hs2 : len ≤ 140737488351232 := by
      have : (len + (m - len)) * 1 ≤ (len + (m - len)) * Tryd.prog.bytesOf 43 := Nat.mul_le_mul_left _ hb1
      omega
    rw [cells_column] at hcell
    obtain ⟨L, hL⟩ := choose_lt (α := ColB) (p := fun i a => (a.1.size ≤ 140737488351232 ∧ -9223372036854775808 ≤ a.2 ∧ a.2 ≤ 9223372036854775807) ∧ ∀ j u, (colV a)[j]? = some u → W.cell? ((x.add (i * 2)).add j) = some u) (n := len) (fun i hi => by
      obtain ⟨cs', h1, h2⟩ := hcell i (by omega)
      obtain ⟨_, h3, h4⟩ := World.cells?_some h1
      obtain ⟨a, rfl, hwa, hk1, hk2⟩ := col_part h2
      have hsz := hw i hi a.1.data.toList.length (by
        dsimp only at hwa
        rw [hwa]
        simp [DataW.weights, Tryd.underlying43, DataW.weightsEach])
      refine ⟨a, ⟨by simpa [reachBytes] using hsz, hk1, hk2⟩, fun j u hu => ?_⟩
      have hj : j < 2 := by have := (List.getElem?_eq_some_iff.1 hu).1; simpa [colV] using this
      rw [h4 j hj, hu])
    have hlen : ((List.range len).map L).length = len := by simp
    have e : ∀ i, i < len → ((List.range len).map L).getD i default = L i := fun i hi => by simp [List.getD, hi]
    have hsp : 0 < len → ∃ b o, x = ⟨b, o, none⟩ := by
      intro hp
      have h0 := (hL 0 hp).2 0 _ rfl
      obtain ⟨b, o, sp⟩ := x
      cases sp with
      | none => exact ⟨b, o, rfl⟩
      | some s =>
        exfalso
        simp only [Addr.add, if_true, World.cell?] at h0
        split at h0 <;> simp at h0
    refine ⟨(List.range len).map L, ⟨⟨some x, _, by rw [List.length_map, hlen], by rw [List.length_map, hlen]; omega, (by intro h; cases h), fun hp => ?_⟩, ?_, ?_, by rw [List.length_map, hlen]; exact hs2⟩, ?_⟩
    · rw [List.length_map, hlen] at hp
      obtain ⟨b, o, rfl⟩ := hsp hp
      exact ⟨b, o, rfl⟩
    · intro i hi j u hu
      rw [List.length_map, hlen] at hi
      rw [getD_map colV _ i (by rw [hlen]; exact hi) default, e i hi] at hu
      have := (hL i hi).2 j u hu
      obtain ⟨b, o, rfl⟩ := hsp (by omega)
      rw [Addr.add_mid, Addr.add_mid, Nat.add_assoc] at this
      rw [adr_lit]
      exact this
    · intro z hz
      obtain ⟨c, _, rfl⟩ := List.mem_map.1 hz
      rfl
    · intro c hc
      obtain ⟨i, hi, rfl⟩ := List.mem_map.1 hc
      exact (hL i (List.mem_range.1 hi)).1

theorem cells_exact {v : Value} {l : List Value} (hl : 1 < l.length) (h : v.cells.toList = l) : v = .agg l.toArray := by
  have h' : v.cells = l.toArray := Array.toList_inj.1 (by simpa using h)
  cases v <;> simp [Value.cells] at h'
  all_goals first | (subst h'; rfl) | (rw [h']) | (subst h'; simp at hl)

theorem weights_agg {ds : List (DataW H)} {d : DataW H} {t e : TypeId} {n k : Nat} (ht : Tryd.prog.underlying t = some (.array n e)) (hd : d ∈ ds) (hk : k ∈ d.weights Tryd.prog e) : k ∈ (DataW.agg ds).weights Tryd.prog t := by
  rw [DataW.weights]
  simp only [ht]
  exact weights_mem_all5 hk hd

theorem arr3b_open {k : IntKind} {t e : TypeId} (hu : Tryd.prog.underlying t = some (.array 3 e)) (he : Tryd.prog.underlying e = some (.int k)) (hc : Tryd.prog.cellsOf e = 1) (hct : Tryd.prog.cellsOf t = 3)
    {v : Value} {d : DataW H} {ps : List MemPlace} (h : DataW.Trod enc Tryd.prog W 0 (fun _ => true) true t v d ps) :
    ∃ a0 a1 a2 : Int, v = .agg #[.int k a0, .int k a1, .int k a2] ∧ (Lit.int k a0).wf = true ∧ (Lit.int k a1).wf = true ∧ (Lit.int k a2).wf = true := by
  obtain ⟨fuel, hf⟩ := h
  obtain ⟨xs, m, rfl, hx, hl, hn, hi⟩ := DataW.trod_array hu hf
  rw [hct] at hl
  obtain ⟨c0, c1, c2, hcs⟩ : ∃ c0 c1 c2, v.cells.toList = [c0, c1, c2] := by
    match hq : v.cells.toList, (hl : _) with
    | [c0, c1, c2], _ => exact ⟨c0, c1, c2, rfl⟩
  obtain ⟨x0, x1, x2, rfl⟩ : ∃ x0 x1 x2, xs = [x0, x1, x2] := by
    match xs, hn with
    | [x0, x1, x2], _ => exact ⟨x0, x1, x2, rfl⟩
  rw [hcs, hc] at hi
  have h0 := hi 0 (by omega)
  have h1 := hi 1 (by omega)
  have h2 := hi 2 (by omega)
  simp at h0 h1 h2
  obtain ⟨a0, e0, _, w0⟩ := DataW.trod_int he h0
  obtain ⟨a1, e1, _, w1⟩ := DataW.trod_int he h1
  obtain ⟨a2, e2, _, w2⟩ := DataW.trod_int he h2
  refine ⟨a0, a1, a2, cells_three ?_, w0, w1, w2⟩
  rw [hcs]; simp_all

theorem cells_pair : Tryd.prog.cellsOf 48 = 2 := by kernel_rfl

theorem pair_part {m : Nat} {cs : List Value} {x : DataW H × List MemPlace} (h : DataW.trod enc Tryd.prog W 0 (fun _ => true) true m 48 cs = some x) (hw : ∀ n ∈ x.1.weights Tryd.prog 48, n ≤ reachBytes) :
    ∃ t : TriB, cs = triV t ∧ RdE W t.1 t.2.1 ∧ CES t.2.1 ∧ inW t.2.2 := by
  obtain ⟨y0, y1, k, hx, hl, h0, h1⟩ := trod_struct2 Tryd.underlying48 h
  rw [cells_pair] at hl
  match cs, hl with
  | [c0, c1], _ =>
    have k9 : Tryd.prog.cellsOf 2 = 1 := by kernel_rfl
    have k8 : Tryd.prog.cellsOf 45 = 1 := by kernel_rfl
    simp [k9, k8] at h0 h1
    obtain ⟨a, e0, e1, wa⟩ := DataW.trod_int Tryd.underlying2 h1
    simp at e0
    subst e0
    have hb := bd_i64 wa
    obtain ⟨r, hr, hc⟩ := cells_core (d := y0.1) (ps := y0.2) h0 (fun n hn => hw n (by
      rw [hx]
      simp only [DataW.weights, Tryd.underlying48]
      simp [DataW.weightsEach, hn]))
    exact ⟨(c0, (r, a)), rfl, hr, hc, hb⟩

theorem pairs_core {fuel : Nat} {v : Value} {d : DataW H} {pl : List MemPlace} (hf : DataW.trod enc Tryd.prog W 0 (fun _ => true) true fuel 25 [v] = some (d, pl)) (hzd : ∀ n ∈ d.weights Tryd.prog 25, n ≤ reachBytes) : ∃ ps, RdP W v ps ∧ PSO ps ∧ ps.length * 32 ≤ 140737488351232 := by
  have hb1 : 1 ≤ Tryd.prog.bytesOf 48 := Nat.le_of_ble_eq_true (by kernel_rfl)
  rcases open_slice Tryd.underlying25 hf with ⟨hcs, _⟩ | ⟨x, len, c, m, n, D, Pl, hcs, _, hl, hm, hmm, hx, hcell⟩
  · obtain rfl : v = .slice none 0 0 := by simpa using hcs
    exact ⟨[], RdP.nil W, fun c hc => absurd hc (by simp), by simp⟩
  · obtain rfl : v = .slice (some x) len c := by simpa using hcs
    simp only [Prod.mk.injEq] at hx
    obtain ⟨rfl, _⟩ := hx
    simp only [if_true] at hmm
    subst hmm
    have hw : ∀ i, i < len → ∀ k ∈ (D i).weights Tryd.prog 48, k ≤ reachBytes := fun i hi k hk => by
      refine hzd k ?_
      rw [DataW.weights]
      simp only [Tryd.underlying25]
      refine List.mem_cons_of_mem _ (List.mem_append.2 (.inl (weights_mem_all5 hk ?_)))
      exact List.mem_map.2 ⟨i, List.mem_range.2 hi, rfl⟩
    have hs := hzd _ (by rw [DataW.weights]; simp only [Tryd.underlying25]; exact List.mem_cons_self ..)
    simp only [List.length_map, List.length_range, reachBytes] at hs
    have hs2 : len ≤ 140737488351232 := by
      have : (len + (m - len)) * 1 ≤ (len + (m - len)) * Tryd.prog.bytesOf 48 := Nat.mul_le_mul_left _ hb1
      omega
    have hby : Tryd.prog.bytesOf 48 = 32 := by kernel_rfl
    rw [hby] at hs
    rw [cells_pair] at hcell
    obtain ⟨L, hL⟩ := choose_lt (α := TriB) (p := fun i a => (RdE W a.1 a.2.1 ∧ CES a.2.1 ∧ inW a.2.2) ∧ ∀ j u, (triV a)[j]? = some u → W.cell? ((x.add (i * 2)).add j) = some u) (n := len) (fun i hi => by
      obtain ⟨cs', h1, h2⟩ := hcell i (by omega)
      obtain ⟨_, h3, h4⟩ := World.cells?_some h1
      obtain ⟨a, rfl, hr⟩ := pair_part h2 (hw i hi)
      refine ⟨a, hr, fun j u hu => ?_⟩
      have hj : j < 2 := by have := (List.getElem?_eq_some_iff.1 hu).1; simpa [triV] using this
      rw [h4 j hj, hu])
    have hlen : ((List.range len).map L).length = len := by simp
    have e : ∀ i, i < len → ((List.range len).map L).getD i default = L i := fun i hi => by simp [List.getD, hi]
    have hsp : 0 < len → ∃ b o, x = ⟨b, o, none⟩ := by
      intro hp
      have h0 := (hL 0 hp).2 0 _ rfl
      obtain ⟨b, o, sp⟩ := x
      cases sp with
      | none => exact ⟨b, o, rfl⟩
      | some s =>
        exfalso
        simp only [Addr.add, if_true, World.cell?] at h0
        split at h0 <;> simp at h0
    have hmem : ∀ t ∈ (List.range len).map L, RdE W t.1 t.2.1 ∧ CES t.2.1 ∧ inW t.2.2 := by
      intro t ht
      obtain ⟨i, hi, rfl⟩ := List.mem_map.1 ht
      exact (hL i (List.mem_range.1 hi)).1
    refine ⟨((List.range len).map L).map (·.2), ⟨(List.range len).map L, rfl, ⟨⟨some x, _, by rw [List.length_map, hlen], by rw [List.length_map, hlen]; omega, (by intro h; cases h), fun hp => ?_⟩, ?_, ?_, by rw [List.length_map, hlen]; exact hs2⟩, fun t ht => (hmem t ht).1⟩, ?_, by simp; omega⟩
    · rw [List.length_map, hlen] at hp
      obtain ⟨b, o, rfl⟩ := hsp hp
      exact ⟨b, o, rfl⟩
    · intro i hi j u hu
      rw [List.length_map, hlen] at hi
      rw [getD_map triV _ i (by rw [hlen]; exact hi) default, e i hi] at hu
      have := (hL i hi).2 j u hu
      obtain ⟨b, o, rfl⟩ := hsp (by omega)
      rw [Addr.add_mid, Addr.add_mid, Nat.add_assoc] at this
      rw [adr_lit]
      exact this
    · intro z hz
      obtain ⟨t, _, rfl⟩ := List.mem_map.1 hz
      rfl
    · intro p hp
      obtain ⟨t, ht, rfl⟩ := List.mem_map.1 hp
      exact (hmem t ht).2

theorem pairs_open {base : Nat} {v : Value} {d : DataW H} {pl : List MemPlace} {ts : List TypeId} {ds : List (DataW H)} {j : Nat} (hval : Value.okWide Tryd.prog W .any base 25 v)
    (h : DataW.Trod enc Tryd.prog W 0 (fun _ => true) true 25 v d pl) (hz : (DataW.weightsEach Tryd.prog ts ds).all (· ≤ reachBytes) = true) (ht : ts[j]? = some 25) (hd : ds[j]? = some d) : ∃ ps, RdP W v ps ∧ PSO ps ∧ ps.length * 32 ≤ 140737488351232 := by
  have hzd : ∀ n ∈ d.weights Tryd.prog 25, n ≤ reachBytes := fun n hn => by
    have := List.all_eq_true.1 hz _ (DataW.weights_mem_each ht hd n hn)
    simpa using this
  obtain ⟨a0, len, cap, rfl⟩ := okWide_slice Tryd.underlying25 hval
  obtain ⟨fuel, hf⟩ := h
  exact pairs_core hf hzd

end

end Go.Proofs.YtedfcnlhdicipaaDoor
