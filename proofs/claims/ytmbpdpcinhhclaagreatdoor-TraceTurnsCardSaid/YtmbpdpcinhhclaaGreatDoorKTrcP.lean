/- -/
import Derived.Test.YtmbpdpcinhhclaaGreatDoorKColRd
import Derived.Test.YtmbpdpcinhhclaaGreatDoorKBaseB
import Derived.Test.YtmbpdpcinhhclaaGreatDoorKTrcM
set_option linter.unusedVariables false
set_option linter.unusedSimpArgs false
set_option maxRecDepth 1000000
namespace Go.Proofs.YtmbpdpcinhhclaaGreatDoor
open Go.RowKit Go.Shelf

abbrev EntV := Value × EntB
def enV (t : EntV) : List Value := [.int .i64 t.2.1, .int .i64 t.2.2.1, t.1]
def entryE : Elt := ⟨23, 71, 3, 40, .agg #[.int .i64 0, .int .i64 0, .slice none 0 0]⟩
theorem entryOk : entryE.Ok := ⟨Tryz.underlying23, by kernel_rfl, by kernel_rfl, rfl, by decide⟩
abbrev CurB := Int × Int × Int
def cuV (t : CurB) : List Value := [.int .i64 t.1, .int .i64 t.2.1, .int .u32 t.2.2]
def cursorE : Elt := ⟨49, 57, 3, 24, .agg #[.int .i64 0, .int .i64 0, .int .u32 0]⟩
theorem cursorOk : cursorE.Ok := ⟨Tryz.underlying49, by kernel_rfl, by kernel_rfl, rfl, by decide⟩

def RdZ (w : World) (v : Value) (es : List EntB) : Prop := ∃ ts : List EntV, es = ts.map (·.2) ∧ RdG entryE w v (ts.map enV) ∧ ∀ t ∈ ts, RdP w t.1 t.2.2.2
def RdT13 (w : World) (v : Value) (cs : List ColB) (es : List EntB) : Prop := ∃ sv ev, v = .agg #[sv, ev] ∧ RdC w sv cs ∧ RdZ w ev es

section
variable {w w' : World} {v : Value} {es : List EntB} {cs : List ColB} {base : Nat} {ps : List PairB}

theorem RdZ.small (h : RdZ w v es) : es.length ≤ 140737488351232 := by
  obtain ⟨ts, rfl, h, _⟩ := h
  have := h.small; simpa using this
theorem RdZ.later (h : RdZ w v es) {B : Nat} (hb : Below B w w') (hB : w.heap.size ≤ B) : RdZ w' v es := by
  obtain ⟨ts, e, h, hr⟩ := h
  exact ⟨ts, e, h.later entryOk hb hB, fun t ht => (hr t ht).later hb hB⟩
theorem RdZ.nil (w : World) : RdZ w (.slice none 0 0) [] := ⟨[], rfl, RdG.nil entryE w, by simp⟩
theorem RdZ.lit (h : RdZ w v es) : ∃ ao n cap, v = .slice ao n cap := by
  obtain ⟨ts, e, h, _⟩ := h
  obtain ⟨ao, cap, e, _⟩ := RdG.shape h
  exact ⟨_, _, _, e⟩
theorem RdZ.len (h : RdZ w v es) : ∀ u, (Builtin.len_ #[23] 3 #[v]).run Tryz.prog u = .ok (.int .i64 (es.length : Int)) u := by
  obtain ⟨ts, rfl, h, _⟩ := h
  have := RdG.len h entryOk
  rw [List.length_map] at this ⊢
  exact this
theorem RdZ.get (h : RdZ w v es) {i : Nat} (hi : i < es.length) : ∃ b o pv, (∀ u, (Instr.indexAt 23 v (.int .i64 (i : Int))).run Tryz.prog u = .ok (.pointer (some ⟨b, o, none⟩)) u) ∧
    w.cell? ⟨b, o, none⟩ = some (.int .i64 (es.getD i default).1) ∧ w.cell? ⟨b, o + 1, none⟩ = some (.int .i64 (es.getD i default).2.1) ∧ w.cell? ⟨b, o + 2, none⟩ = some pv ∧ RdP w pv (es.getD i default).2.2 ∧ b < w.heap.size := by
  obtain ⟨ts, rfl, h, hr⟩ := h
  rw [List.length_map] at hi
  have hi' : i < (ts.map enV).length := by simpa using hi
  have hx := RdG.idx h entryOk i hi'
  obtain ⟨b, o, ha, hc⟩ := RdG.at h hi'
  rw [ha] at hx
  have eg : (ts.map enV).getD i [] = enV ts[i] := by simp [List.getD, hi]
  have ep : (ts.map (·.2)).getD i default = ts[i].2 := by simp [List.getD, hi]
  rw [eg] at hc
  rw [ep]
  exact ⟨b, o, ts[i].1, hx, hc 0 _ rfl, hc 1 _ rfl, hc 2 _ rfl, hr _ (List.getElem_mem _), World.block_lt_of_cell? w _ (hc 0 _ rfl)⟩
theorem RdZ.upto (h : RdZ w v es) (hi : Nat) (h1 : hi ≤ es.length) :
    ∃ v', (∀ u, (Instr.slice 23 v none (some (.int .i64 (hi : Int))) none).run Tryz.prog u = .ok v' u) ∧ ∀ w', Below w.heap.size w w' → RdZ w' v' (es.take hi) := by
  obtain ⟨ts, rfl, hg, hr⟩ := h
  rw [List.length_map] at h1
  obtain ⟨v', e1, e2⟩ := RdG.upto entryOk hg hi (by rw [List.length_map]; exact h1)
  refine ⟨v', e1, fun w' hb => ⟨ts.take hi, by rw [List.map_take], by rw [List.map_take]; exact e2 w' (hg.later entryOk hb (Nat.le_refl _)), fun t ht => (hr t (List.mem_of_mem_take ht)).later hb (Nat.le_refl _)⟩⟩
theorem RdZ.from (h : RdZ w v es) (lo : Nat) (h1 : lo ≤ es.length) :
    ∃ v', (∀ u, (Instr.slice 23 v (some (.int .i64 (lo : Int))) none none).run Tryz.prog u = .ok v' u) ∧ ∀ w', Below w.heap.size w w' → RdZ w' v' (es.drop lo) := by
  obtain ⟨ts, rfl, hg, hr⟩ := h
  rw [List.length_map] at h1
  obtain ⟨v', e1, e2⟩ := RdG.from entryOk hg lo (by rw [List.length_map]; exact h1)
  refine ⟨v', e1, fun w' hb => ⟨ts.drop lo, by rw [List.map_drop], by rw [List.map_drop]; exact e2 w' (hg.later entryOk hb (Nat.le_refl _)), fun t ht => (hr t (List.mem_of_mem_drop ht)).later hb (Nat.le_refl _)⟩⟩
theorem pairs_one {w : World} {pv : Value} {ps : List PairB} (h : RdP w pv ps) : pv.oneCell' = true := by
  obtain ⟨ao, n, cap, rfl⟩ := h.lit12
  rfl
theorem enV_one {t : EntV} (h : RdP w t.1 t.2.2.2) : ∀ z ∈ enV t, z.oneCell' = true := by
  intro z hz
  simp [enV] at hz
  rcases hz with rfl | rfl | rfl
  · rfl
  · rfl
  · exact pairs_one h
end

def Tbox (w : World) (b : Nat) (sv ev : Value) : Prop := w.heap[b]? = some (.cells #[sv, ev] 25 (0, 0))
theorem Tbox.cells {w : World} {b : Nat} {sv ev : Value} (h : Tbox w b sv ev) : w.cell? ⟨b, 0, none⟩ = some sv ∧ w.cell? ⟨b, 1, none⟩ = some ev :=
  ⟨cell_of_row _ _ 0 _ _ _ h, cell_of_row _ _ 1 _ _ _ h⟩
theorem Tbox.later {w w' : World} {b : Nat} {sv ev : Value} (h : Tbox w b sv ev) (hb : Below w.heap.size w w') : Tbox w' b sv ev :=
  (hb.block b (Array.getElem?_eq_some_iff.1 h).1).trans h
theorem Tbox.grown {E : Elt} {w w' : World} {b base : Nat} {sv ev av : Value} {vs : List (List Value)} (h : Tbox w b sv ev) (ho : OwnG E w base av vs) (hT : E.T ≠ 25) (hg : w.grownBy w' av.ownBlock) : Tbox w' b sv ev := by
  unfold Tbox at h ⊢
  rw [hg.block b (Array.getElem?_eq_some_iff.1 h).1 (fun e => ?_)]
  · exact h
  · rcases ho.1.2 with ⟨rfl, hn⟩ | ⟨g, cap, cur, rfl, hbg, hgg, _⟩
    · cases e
    · cases e
      rw [h] at hgg
      injection hgg with hgg
      injection hgg with _ h3 _
      exact hT h3.symm

end Go.Proofs.YtmbpdpcinhhclaaGreatDoor


/- -/
namespace Go.Proofs.YtmbpdpcinhhclaaGreatDoor
open Go.ChangeShapes Go.WideShapes Go.ChangeAt Go.RowKit Go.Shelf Go.Deep

section
variable {H : Type} {enc : TypeId × Value → H} {W : World}

theorem cells_entry : Tryz.prog.cellsOf 71 = 3 := by kernel_rfl

theorem entry_part {m : Nat} {cs : List Value} {x : DataW H × List MemPlace} (h : DataW.trod enc Tryz.prog W 0 (fun _ => true) true m 71 cs = some x) (hw : ∀ n ∈ x.1.weights Tryz.prog 71, n ≤ reachBytes) :
    ∃ t : EntV, cs = enV t ∧ RdP W t.1 t.2.2.2 ∧ EnO t.2 := by
  obtain ⟨y0, y1, y2, k, hx, hl, h0, h1, h2⟩ := Go.Deep.trod_struct3 Tryz.underlying71 h
  rw [cells_entry] at hl
  match cs, hl with
  | [c0, c1, c2], _ =>
    have k9 : Tryz.prog.cellsOf 3 = 1 := by kernel_rfl
    have k8 : Tryz.prog.cellsOf 2 = 1 := by kernel_rfl
    have k7 : Tryz.prog.cellsOf 34 = 1 := by kernel_rfl
    simp [k9, k8, k7] at h0 h1 h2
    obtain ⟨a, e0, e1, wa⟩ := DataW.trod_int Tryz.underlying3 h0
    obtain ⟨b, e2, e3, wb⟩ := DataW.trod_int Tryz.underlying2 h1
    simp at e0 e2
    subst e0 e2
    obtain ⟨ps, hr, hp, _⟩ := pairs_core (d := y2.1) (pl := y2.2) h2 (fun n hn => hw n (by
      rw [hx]
      simp only [DataW.weights, Tryz.underlying71]
      simp [DataW.weightsEach, hn]))
    exact ⟨(c2, (a, b, ps)), rfl, hr, bd_i64 wa, bd_i64 wb, hp⟩

theorem ents_core {fuel : Nat} {v : Value} {d : DataW H} {pl : List MemPlace} (hf : DataW.trod enc Tryz.prog W 0 (fun _ => true) true fuel 23 [v] = some (d, pl)) (hzd : ∀ n ∈ d.weights Tryz.prog 23, n ≤ reachBytes) : ∃ es, RdZ W v es ∧ ∀ x ∈ es, EnO x := by
  have hb1 : 1 ≤ Tryz.prog.bytesOf 71 := Nat.le_of_ble_eq_true (by kernel_rfl)
  rcases open_slice Tryz.underlying23 hf with ⟨hcs, _⟩ | ⟨x, len, c, m, n, D, Pl, hcs, _, hl, hm, hmm, hx, hcell⟩
  · obtain rfl : v = .slice none 0 0 := by simpa using hcs
    exact ⟨[], RdZ.nil W, fun c hc => absurd hc (by simp)⟩
  · obtain rfl : v = .slice (some x) len c := by simpa using hcs
    simp only [Prod.mk.injEq] at hx
    obtain ⟨rfl, _⟩ := hx
    simp only [if_true] at hmm
    subst hmm
    have hw : ∀ i, i < len → ∀ k ∈ (D i).weights Tryz.prog 71, k ≤ reachBytes := fun i hi k hk => by
      refine hzd k ?_
      rw [DataW.weights]
      simp only [Tryz.underlying23]
      refine List.mem_cons_of_mem _ (List.mem_append.2 (.inl (weights_mem_all5 hk ?_)))
      exact List.mem_map.2 ⟨i, List.mem_range.2 hi, rfl⟩
    have hs := hzd _ (by rw [DataW.weights]; simp only [Tryz.underlying23]; exact List.mem_cons_self ..)
    simp only [List.length_map, List.length_range, reachBytes] at hs
    have hs2 : len ≤ 140737488351232 := by
      have : (len + (m - len)) * 1 ≤ (len + (m - len)) * Tryz.prog.bytesOf 71 := Nat.mul_le_mul_left _ hb1
      omega
    rw [cells_entry] at hcell
    obtain ⟨L, hL⟩ := choose_lt (α := EntV) (p := fun i a => (RdP W a.1 a.2.2.2 ∧ EnO a.2) ∧ ∀ j u, (enV a)[j]? = some u → W.cell? ((x.add (i * 3)).add j) = some u) (n := len) (fun i hi => by
      obtain ⟨cs', h1, h2⟩ := hcell i (by omega)
      obtain ⟨_, h3, h4⟩ := World.cells?_some h1
      obtain ⟨a, rfl, hr⟩ := entry_part h2 (hw i hi)
      refine ⟨a, hr, fun j u hu => ?_⟩
      have hj : j < 3 := by have := (List.getElem?_eq_some_iff.1 hu).1; simpa [enV] using this
      rw [h4 j hj, hu])
    have hlen : ((List.range len).map L).length = len := by simp
    have e : ∀ i, i < len → ((List.range len).map L).getD i default = L i := fun i hi => by simp [List.getD, hi]
    have hsp : 0 < len → ∃ b o, x = ⟨b, o, none⟩ := by
      intro hp
      have h0 := (hL 0 hp).2 0 _ rfl
      obtain ⟨b, o, sp⟩ := x
      cases sp with
      | none => exact ⟨b, o, rfl⟩
      | some s =>
        exfalso
        simp only [Addr.add, if_true, World.cell?] at h0
        split at h0 <;> simp at h0
    have hmem : ∀ t ∈ (List.range len).map L, RdP W t.1 t.2.2.2 ∧ EnO t.2 := by
      intro t ht
      obtain ⟨i, hi, rfl⟩ := List.mem_map.1 ht
      exact (hL i (List.mem_range.1 hi)).1
    refine ⟨((List.range len).map L).map (·.2), ⟨(List.range len).map L, rfl, ⟨⟨some x, _, by rw [List.length_map, hlen], by rw [List.length_map, hlen]; omega, (by intro h; cases h), fun hp => ?_⟩, ?_, ?_, by rw [List.length_map, hlen]; exact hs2⟩, fun t ht => (hmem t ht).1⟩, ?_⟩
    · rw [List.length_map, hlen] at hp
      obtain ⟨b, o, rfl⟩ := hsp hp
      exact ⟨b, o, rfl⟩
    · intro i hi j u hu
      rw [List.length_map, hlen] at hi
      rw [getD_map enV _ i (by rw [hlen]; exact hi) default, e i hi] at hu
      have := (hL i hi).2 j u hu
      obtain ⟨b, o, rfl⟩ := hsp (by omega)
      rw [Addr.add_mid, Addr.add_mid, Nat.add_assoc] at this
      rw [adr_lit]
      exact this
    · intro z hz
      obtain ⟨t, _, rfl⟩ := List.mem_map.1 hz
      rfl
    · intro p hp
      obtain ⟨t, ht, rfl⟩ := List.mem_map.1 hp
      exact (hmem t ht).2

theorem cols_core {fuel : Nat} {v : Value} {d : DataW H} {ps : List MemPlace} (hf : DataW.trod enc Tryz.prog W 0 (fun _ => true) true fuel 22 [v] = some (d, ps)) (hzd : ∀ n ∈ d.weights Tryz.prog 22, n ≤ reachBytes) : ∃ cs, RdC W v cs ∧ CS cs := by
  have hb1 : 1 ≤ Tryz.prog.bytesOf 76 := Nat.le_of_ble_eq_true (by kernel_rfl)
  rcases open_slice Tryz.underlying22 hf with ⟨hcs, _⟩ | ⟨x, len, c, m, n, D, Pl, hcs, _, hl, hm, hmm, hx, hcell⟩
  · obtain rfl : v = .slice none 0 0 := by simpa using hcs
    exact ⟨[], RdC.nil W, fun c hc => absurd hc (by simp)⟩
  · obtain rfl : v = .slice (some x) len c := by simpa using hcs
    simp only [Prod.mk.injEq] at hx
    obtain ⟨rfl, _⟩ := hx
    simp only [if_true] at hmm
    subst hmm
    have hw : ∀ i, i < len → ∀ k ∈ (D i).weights Tryz.prog 76, k ≤ reachBytes := fun i hi k hk => by
      refine hzd k ?_
      rw [DataW.weights]
      simp only [Tryz.underlying22]
      refine List.mem_cons_of_mem _ (List.mem_append.2 (.inl (weights_mem_all5 hk ?_)))
      exact List.mem_map.2 ⟨i, List.mem_range.2 hi, rfl⟩
    have hs := hzd _ (by rw [DataW.weights]; simp only [Tryz.underlying22]; exact List.mem_cons_self ..)
    simp only [List.length_map, List.length_range, reachBytes] at hs
    have hs2 : len ≤ 140737488351232 := by
      have : (len + (m - len)) * 1 ≤ (len + (m - len)) * Tryz.prog.bytesOf 76 := Nat.mul_le_mul_left _ hb1
      omega
    rw [cells_column] at hcell
    obtain ⟨L, hL⟩ := choose_lt (α := ColB) (p := fun i a => (a.1.size ≤ 140737488351232 ∧ -9223372036854775808 ≤ a.2 ∧ a.2 ≤ 9223372036854775807) ∧ ∀ j u, (colV a)[j]? = some u → W.cell? ((x.add (i * 2)).add j) = some u) (n := len) (fun i hi => by
      obtain ⟨cs', h1, h2⟩ := hcell i (by omega)
      obtain ⟨_, h3, h4⟩ := World.cells?_some h1
      obtain ⟨a, rfl, hwa, hk1, hk2⟩ := col_part h2
      have hsz := hw i hi a.1.data.toList.length (by
        dsimp only at hwa
        rw [hwa]
        simp [DataW.weights, Tryz.underlying76, DataW.weightsEach])
      refine ⟨a, ⟨by simpa [reachBytes] using hsz, hk1, hk2⟩, fun j u hu => ?_⟩
      have hj : j < 2 := by have := (List.getElem?_eq_some_iff.1 hu).1; simpa [colV] using this
      rw [h4 j hj, hu])
    have hlen : ((List.range len).map L).length = len := by simp
    have e : ∀ i, i < len → ((List.range len).map L).getD i default = L i := fun i hi => by simp [List.getD, hi]
    have hsp : 0 < len → ∃ b o, x = ⟨b, o, none⟩ := by
      intro hp
      have h0 := (hL 0 hp).2 0 _ rfl
      obtain ⟨b, o, sp⟩ := x
      cases sp with
      | none => exact ⟨b, o, rfl⟩
      | some s =>
        exfalso
        simp only [Addr.add, if_true, World.cell?] at h0
        split at h0 <;> simp at h0
    refine ⟨(List.range len).map L, ⟨⟨some x, _, by rw [List.length_map, hlen], by rw [List.length_map, hlen]; omega, (by intro h; cases h), fun hp => ?_⟩, ?_, ?_, by rw [List.length_map, hlen]; exact hs2⟩, ?_⟩
    · rw [List.length_map, hlen] at hp
      obtain ⟨b, o, rfl⟩ := hsp hp
      exact ⟨b, o, rfl⟩
    · intro i hi j u hu
      rw [List.length_map, hlen] at hi
      rw [getD_map colV _ i (by rw [hlen]; exact hi) default, e i hi] at hu
      have := (hL i hi).2 j u hu
      obtain ⟨b, o, rfl⟩ := hsp (by omega)
      rw [Addr.add_mid, Addr.add_mid, Nat.add_assoc] at this
      rw [adr_lit]
      exact this
    · intro z hz
      obtain ⟨c, _, rfl⟩ := List.mem_map.1 hz
      rfl
    · intro c hc
      obtain ⟨i, hi, rfl⟩ := List.mem_map.1 hc
      exact (hL i (List.mem_range.1 hi)).1

theorem trace_open {v : Value} {d : DataW H} {pl : List MemPlace} {ts : List TypeId} {ds : List (DataW H)} {j : Nat}
    (h : DataW.Trod enc Tryz.prog W 0 (fun _ => true) true 25 v d pl) (hz : (DataW.weightsEach Tryz.prog ts ds).all (· ≤ reachBytes) = true) (ht : ts[j]? = some 25) (hd : ds[j]? = some d) : ∃ cs es, RdT13 W v cs es ∧ CS cs ∧ ∀ x ∈ es, EnO x := by
  have hzd : ∀ n ∈ d.weights Tryz.prog 25, n ≤ reachBytes := fun n hn => by
    have := List.all_eq_true.1 hz _ (DataW.weights_mem_each ht hd n hn)
    simpa using this
  obtain ⟨fuel, hf⟩ := h
  obtain ⟨y0, y1, n, hx, hl, h0, h1⟩ := trod_struct2 Tryz.underlying25 hf
  have hc : Tryz.prog.cellsOf 25 = 2 := by kernel_rfl
  rw [hc] at hl
  obtain ⟨c0, c1, hcs⟩ : ∃ c0 c1, v.cells.toList = [c0, c1] := by
    match hq : v.cells.toList, (hl : _) with
    | [c0, c1], _ => exact ⟨c0, c1, rfl⟩
  rw [hcs] at h0 h1
  have k9 : Tryz.prog.cellsOf 22 = 1 := by kernel_rfl
  have k8 : Tryz.prog.cellsOf 23 = 1 := by kernel_rfl
  simp [k9, k8] at h0 h1
  injection hx with hx1 hx2
  obtain ⟨cs, hr, hC⟩ := cols_core (d := y0.1) (ps := y0.2) h0 (fun n hn => hzd n (by
    rw [hx1]
    simp only [DataW.weights, Tryz.underlying25]
    simp [DataW.weightsEach, hn]))
  obtain ⟨es, hr2, hO⟩ := ents_core (d := y1.1) (pl := y1.2) h1 (fun n hn => hzd n (by
    rw [hx1]
    simp only [DataW.weights, Tryz.underlying25]
    simp [DataW.weightsEach, hn]))
  exact ⟨cs, es, ⟨c0, c1, cells_exact (by simp) hcs, hr, hr2⟩, hC, hO⟩

end

end Go.Proofs.YtmbpdpcinhhclaaGreatDoor


/- -/
namespace Go.Proofs.YtmbpdpcinhhclaaGreatDoor
open Go.RowKit Go.Shelf

theorem getD_mem13 {α : Type} {l : List α} {k : Nat} (h : k < l.length) (d : α) : l.getD k d ∈ l := by simp [List.getD, h]
theorem trW_bytes {cs : List ColB} {M : Nat} (hM : ∀ x, (entW cs x).1.length ≤ M) : ∀ (es : List EntB) (n : Nat) (s : Int) (v : List PairB), (trW cs n s v es).1.length ≤ es.length * M
  | [], n, s, v => by rw [trW]; simp
  | x :: t, n, s, v => by
    have ih := trW_bytes hM t (n + 1) (apN cs s v x) (apV cs s v x)
    have h1 := hM x
    generalize hT : trW cs (n + 1) (apN cs s v x) (apV cs s v x) t = T at ih
    rw [trW, hT, List.length_cons, Nat.add_mul, Nat.one_mul]
    generalize t.length * M = q at *
    split
    · simp
    · split
      · simp
      · split
        · simp
        · split
          · omega
          · dsimp only; rw [List.length_append]; omega
theorem trW_bytes_le {cs : List ColB} (es : List EntB) (n : Nat) (s : Int) (v : List PairB) : (trW cs n s v es).1.length ≤ es.length * 1048591 := trW_bytes (entW_small cs) es n s v
theorem hdB_small {cols : List Col} (h : errS cols = 0) : (hdB cols).length ≤ 1048600 := by
  have h1 := wrS_million h
  have h2 := frB_small 0 h1
  rw [hdB_length]; omega
section
variable {cs : List ColB} {es : List EntB} {k : Nat}
theorem trW_at (hk : k < es.length) (h : (trW cs 0 0 [] (es.take k)).2.2.2.2 = 0) {T : List UInt8 × Int × List PairB × Nat × Nat} (hT : trW cs k (trW cs 0 0 [] (es.take k)).2.1 (trW cs 0 0 [] (es.take k)).2.2.1 (es.getD k default :: es.drop (k + 1)) = T) :
    trW cs 0 0 [] es = if T.2.2.2.2 ≠ 0 then T else ((trW cs 0 0 [] (es.take k)).1 ++ T.1, T.2) := by
  have e := trW_app (es.take k) (es.drop k) 0 0 [] h
  have hl : (es.take k).length = k := by rw [List.length_take]; omega
  have hd : es.drop k = es.getD k default :: es.drop (k + 1) := by
    rw [List.drop_eq_getElem_cons hk]
    simp [List.getD, hk]
  rw [List.take_append_drop, hl, Nat.zero_add, hd, hT] at e
  exact e
theorem trW_limit (hk : k < es.length) (h : (trW cs 0 0 [] (es.take k)).2.2.2.2 = 0) (h1 : 4096 ≤ k) : trW cs 0 0 [] es = ([], 0, [], k, 13) := by
  have hT : trW cs k (trW cs 0 0 [] (es.take k)).2.1 (trW cs 0 0 [] (es.take k)).2.2.1 (es.getD k default :: es.drop (k + 1)) = ([], 0, [], k, 13) := by rw [trW, if_pos h1]
  rw [trW_at hk h hT, if_pos (by simp)]
theorem trW_apply (hk : k < es.length) (h : (trW cs 0 0 [] (es.take k)).2.2.2.2 = 0) (h1 : k < 4096) {E : Nat} (hE : apE cs (trW cs 0 0 [] (es.take k)).2.1 (trW cs 0 0 [] (es.take k)).2.2.1 (es.getD k default) = E) (h2 : E ≠ 0) : trW cs 0 0 [] es = ([], 0, [], k, E) := by
  have hT : trW cs k (trW cs 0 0 [] (es.take k)).2.1 (trW cs 0 0 [] (es.take k)).2.2.1 (es.getD k default :: es.drop (k + 1)) = ([], 0, [], k, E) := by
    rw [trW, if_neg (by omega), if_pos (by rw [hE]; exact h2), hE]
  rw [trW_at hk h hT, if_pos h2]
theorem trW_write (hk : k < es.length) (h : (trW cs 0 0 [] (es.take k)).2.2.2.2 = 0) (h1 : k < 4096) (h2 : apE cs (trW cs 0 0 [] (es.take k)).2.1 (trW cs 0 0 [] (es.take k)).2.2.1 (es.getD k default) = 0) {E : Nat} (hE : (entW cs (es.getD k default)).2 = E) (h3 : E ≠ 0) :
    trW cs 0 0 [] es = ([], 0, [], k, E) := by
  have hT : trW cs k (trW cs 0 0 [] (es.take k)).2.1 (trW cs 0 0 [] (es.take k)).2.2.1 (es.getD k default :: es.drop (k + 1)) = ([], 0, [], k, E) := by
    rw [trW, if_neg (by omega), if_neg (fun h => h h2), if_pos (by rw [hE]; exact h3), hE]
  rw [trW_at hk h hT, if_pos h3]
theorem trW_go (hk : k < es.length) (h : (trW cs 0 0 [] (es.take k)).2.2.2.2 = 0) (h1 : k < 4096) (h2 : apE cs (trW cs 0 0 [] (es.take k)).2.1 (trW cs 0 0 [] (es.take k)).2.2.1 (es.getD k default) = 0) (h3 : (entW cs (es.getD k default)).2 = 0) :
    (trW cs 0 0 [] (es.take (k + 1))).2.2.2.2 = 0 ∧ (trW cs 0 0 [] (es.take (k + 1))).1 = (trW cs 0 0 [] (es.take k)).1 ++ (entW cs (es.getD k default)).1 ∧
    (trW cs 0 0 [] (es.take (k + 1))).2.1 = apN cs (trW cs 0 0 [] (es.take k)).2.1 (trW cs 0 0 [] (es.take k)).2.2.1 (es.getD k default) ∧
    (trW cs 0 0 [] (es.take (k + 1))).2.2.1 = apV cs (trW cs 0 0 [] (es.take k)).2.1 (trW cs 0 0 [] (es.take k)).2.2.1 (es.getD k default) := by
  have e := trW_app (es.take k) [es.getD k default] 0 0 [] h
  have hl : (es.take k).length = k := by rw [List.length_take]; omega
  have h0 : ∀ n s v, trW cs n s v [] = ([], s, v, n, 0) := fun n s v => by rw [trW]
  have h8 := trW_of (cs := cs) (i := k) (s := (trW cs 0 0 [] (es.take k)).2.1) (v := (trW cs 0 0 [] (es.take k)).2.2.1) (x := es.getD k default) (t := []) h1 h2 h3 (by rw [h0])
  rw [h0] at h8
  rw [← take_succD hk default, hl, Nat.zero_add, h8, if_neg (by simp)] at e
  rw [e]
  refine ⟨rfl, ?_, rfl, rfl⟩
  dsimp only
  rw [List.append_nil]
theorem trW_known (hO : ∀ x ∈ es, EnO x) (hk : k ≤ es.length) (h : (trW cs 0 0 [] (es.take k)).2.2.2.2 = 0) (hk2 : k ≤ 140737488351232) : PSO (trW cs 0 0 [] (es.take k)).2.2.1 ∧ inW (trW cs 0 0 [] (es.take k)).2.1 ∧ (trW cs 0 0 [] (es.take k)).2.2.2.1 = k := by
  have hl : (es.take k).length = k := by rw [List.length_take]; omega
  obtain ⟨f1, f2, f3⟩ := trW_view (es.take k) 0 0 [] [] (fun x hx => hO x (List.mem_of_mem_take hx)) h Fold.nil
  refine ⟨?_, ?_, by rw [f3, hl]; omega⟩
  · rcases f1.2 with ⟨_, e⟩ | ⟨h1, _⟩
    · rw [e]; exact fun p hp => absurd hp (by simp)
    · exact h1.1
  · have : deltaN (es.take k) ≤ (es.take k).length := List.length_filter_le _ _
    unfold inW
    omega
end

section
variable {cs : List ColB} {es : List EntB} {k : Nat} {A : List UInt8} {s : Int} {v : List PairB} {x : EntB}
theorem tr_limit (hS : trW cs 0 0 [] (es.take k) = (A, s, v, k, 0)) (hk : k < es.length) (h1 : 4096 ≤ k) : trW cs 0 0 [] es = ([], 0, [], k, 13) := trW_limit hk (by rw [hS]) h1
theorem tr_apply (hS : trW cs 0 0 [] (es.take k) = (A, s, v, k, 0)) (hk : k < es.length) (h1 : k < 4096) (hx : x = es.getD k default) (h2 : apE cs s v x ≠ 0) : trW cs 0 0 [] es = ([], 0, [], k, apE cs s v x) := by
  subst hx
  exact trW_apply hk (by rw [hS]) h1 (by rw [hS]) h2
theorem tr_write (hS : trW cs 0 0 [] (es.take k) = (A, s, v, k, 0)) (hk : k < es.length) (h1 : k < 4096) (hx : x = es.getD k default) (h2 : apE cs s v x = 0) (h3 : (entW cs x).2 ≠ 0) : trW cs 0 0 [] es = ([], 0, [], k, (entW cs x).2) := by
  subst hx
  exact trW_write hk (by rw [hS]) h1 (by rw [hS]; exact h2) rfl h3
theorem tr_next (hO : ∀ x ∈ es, EnO x) (hS : trW cs 0 0 [] (es.take k) = (A, s, v, k, 0)) (hk : k < es.length) (h1 : k < 4096) (hx : x = es.getD k default) (h2 : apE cs s v x = 0) (h3 : (entW cs x).2 = 0) :
    trW cs 0 0 [] (es.take (k + 1)) = (A ++ (entW cs x).1, apN cs s v x, apV cs s v x, k + 1, 0) := by
  subst hx
  obtain ⟨e1, e2, e3, e4⟩ := trW_go hk (by rw [hS]) h1 (by rw [hS]; exact h2) h3
  have e5 := (trW_known hO (k := k + 1) (by omega) e1 (by omega)).2.2
  rw [hS] at e2 e3 e4
  generalize trW cs 0 0 [] (es.take (k + 1)) = T at *
  obtain ⟨a, b, c, d, e⟩ := T
  dsimp only at e1 e2 e3 e4 e5
  rw [e1, e2, e3, e4, e5]
theorem tr_known (hO : ∀ x ∈ es, EnO x) (hS : trW cs 0 0 [] (es.take k) = (A, s, v, k, 0)) (hk : k ≤ es.length) (hk2 : k ≤ 140737488351232) : PSO v ∧ inW s ∧ A.length ≤ k * 1048591 := by
  have h := trW_known (cs := cs) hO hk (by rw [hS]) hk2
  have h2 := trW_bytes_le (cs := cs) (es.take k) 0 0 []
  rw [hS] at h h2
  rw [List.length_take, Nat.min_eq_left hk] at h2
  exact ⟨h.1, h.2.1, h2⟩
end

end Go.Proofs.YtmbpdpcinhhclaaGreatDoor


/- -/
namespace Go.Proofs.YtmbpdpcinhhclaaGreatDoor
open Go.RowKit Go.Shelf

theorem trW_err {cs : List ColB} : ∀ (es : List EntB) (n : Nat) (s : Int) (v : List PairB), (trW cs n s v es).2.2.2.2 ≠ 0 → (trW cs n s v es).1 = [] ∧ n ≤ (trW cs n s v es).2.2.2.1 ∧ (trW cs n s v es).2.2.2.1 ≤ n + es.length ∧ (trW cs n s v es).2.1 = 0 ∧ (trW cs n s v es).2.2.1 = []
  | [], n, s, v, h => by rw [trW] at h; exact absurd rfl h
  | x :: t, n, s, v, h => by
    have ih := trW_err (cs := cs) t (n + 1) (apN cs s v x) (apV cs s v x)
    generalize hT : trW cs (n + 1) (apN cs s v x) (apV cs s v x) t = T at ih
    rw [trW, hT] at h ⊢
    rw [List.length_cons]
    split
    · exact ⟨rfl, Nat.le_refl _, by dsimp only; omega, rfl, rfl⟩
    · split
      · exact ⟨rfl, Nat.le_refl _, by dsimp only; omega, rfl, rfl⟩
      · split
        · exact ⟨rfl, Nat.le_refl _, by dsimp only; omega, rfl, rfl⟩
        · split
          · rename_i h9
            obtain ⟨a, b, c, d⟩ := ih h9
            exact ⟨a, by omega, by omega, d⟩
          · rename_i g1 g2 g3 h9
            rw [if_neg g1, if_neg g2, if_neg g3, if_neg h9] at h
            exact absurd h h9
theorem trE_err {cs : List ColB} {es : List EntB} (h : (trE cs es).2.2.2.2 ≠ 0) : (trE cs es).1 = [] ∧ (trE cs es).2.2.2.1 ≤ es.length ∧ (trE cs es).2.1 = 0 ∧ (trE cs es).2.2.1 = [] := by
  unfold trE at h ⊢
  by_cases h0 : errS (colsL cs) = 0
  · rw [if_neg (fun h => h h0)] at h ⊢
    by_cases h1 : (trW cs 0 0 [] es).2.2.2.2 = 0
    · rw [if_neg (fun h => h h1)] at h
      exact absurd h1 h
    · rw [if_pos h1]
      obtain ⟨a, b, c, d⟩ := trW_err es 0 0 [] h1
      exact ⟨a, by omega, d⟩
  · rw [if_pos h0]
    exact ⟨rfl, Nat.zero_le _, rfl, rfl⟩
theorem trE_parts {cs : List ColB} {es : List EntB} (h : (trE cs es).2.2.2.2 = 0) : errS (colsL cs) = 0 ∧ (trW cs 0 0 [] es).2.2.2.2 = 0 ∧ trE cs es = (hdB (colsL cs) ++ (trW cs 0 0 [] es).1, (trW cs 0 0 [] es).2) := by
  unfold trE at h ⊢
  by_cases h0 : errS (colsL cs) = 0
  · rw [if_neg (fun h => h h0)] at h ⊢
    by_cases h1 : (trW cs 0 0 [] es).2.2.2.2 = 0
    · rw [if_neg (fun h => h h1)]
      exact ⟨h0, h1, rfl⟩
    · rw [if_pos h1] at h
      exact absurd h h1
  · rw [if_pos h0] at h
    exact absurd h h0
theorem trE_of {cs : List ColB} {es : List EntB} (h0 : errS (colsL cs) = 0) (h1 : (trW cs 0 0 [] es).2.2.2.2 = 0) : trE cs es = (hdB (colsL cs) ++ (trW cs 0 0 [] es).1, (trW cs 0 0 [] es).2) := by
  unfold trE
  rw [if_neg (fun h => h h0), if_neg (fun h => h h1)]
theorem trE_back {cs : List ColB} {es : List EntB} (hO : ∀ x ∈ es, EnO x) (h : (trE cs es).2.2.2.2 = 0) :
    (trE cs es).2.2.2.1 = es.length ∧ (trD (trE cs es).1).1 = cs ∧ (trD (trE cs es).1).2.1 = es ∧ (trD (trE cs es).1).2.2.2.1 = (trE cs es).1.length ∧ (trD (trE cs es).1).2.2.2.2 = 0 := by
  obtain ⟨h0, h1, e⟩ := trE_parts h
  have hk := (trW_view es 0 0 [] [] hO h1 Fold.nil).2.2
  rw [e]
  rw [trD_back h0 hO h1]
  exact ⟨by dsimp only; rw [hk]; omega, rfl, rfl, rfl, rfl⟩
theorem trE_same {cs ds : List ColB} {es fs : List EntB} (hO : ∀ x ∈ es, EnO x) (hP : ∀ x ∈ fs, EnO x) (h : (trE cs es).2.2.2.2 = 0) (k : (trE ds fs).2.2.2.2 = 0) : (trE cs es).1 = (trE ds fs).1 ↔ (cs = ds ∧ es = fs) := by
  obtain ⟨_, a1, a2, _, _⟩ := trE_back hO h
  obtain ⟨_, b1, b2, _, _⟩ := trE_back hP k
  constructor
  · intro e
    rw [e] at a1 a2
    exact ⟨a1.symm.trans b1, a2.symm.trans b2⟩
  · rintro ⟨rfl, rfl⟩; rfl

theorem trR_place {cs : List ColB} {b : List UInt8} : ∀ (f at_ n : Nat) (s : Int) (v : List PairB), at_ ≤ b.length → (trR cs b f at_ n s v).2.2.1 ≤ b.length
  | 0, at_, n, s, v, h => by rw [trR]; exact h
  | f + 1, at_, n, s, v, h => by
    rw [trR]
    split
    · exact h
    · split
      · exact h
      · split
        · exact h
        · rename_i h9
          have hx := (nxF_some (b := b.drop at_) (Decidable.of_not_not h9)).2.1
          rw [List.length_drop] at hx
          split
          · exact h
          · split
            · exact h
            · split
              · exact trR_place f _ _ _ _ (by omega)
              · exact trR_place f _ _ _ _ (by omega)
theorem trD_no {b : List UInt8} (h : (trD b).2.2.2.2 ≠ 0) : (trD b).1 = [] ∧ (trD b).2.1 = [] ∧ (trD b).2.2.2.1 ≤ b.length := by
  unfold trD at h ⊢
  by_cases h0 : b.length < 4 ∨ b.take 4 ≠ magicL
  · rw [if_pos h0]; exact ⟨rfl, rfl, Nat.zero_le _⟩
  · rw [if_neg h0] at h ⊢
    have h4 : 4 ≤ b.length := by omega
    by_cases h1 : (nxF (b.drop 4)).2.2.2 = 0
    · rw [if_neg (fun h => h h1)] at h ⊢
      have hx := (nxF_some (b := b.drop 4) h1).2.1
      rw [List.length_drop] at hx
      by_cases h2 : (nxF (b.drop 4)).1 = 0
      · rw [if_neg (fun h => h h2)] at h ⊢
        by_cases h3 : readE (nxF (b.drop 4)).2.1 = 0
        · rw [if_neg (fun h => h h3)] at h ⊢
          split
          · exact ⟨rfl, rfl, trR_place _ _ _ _ _ (by omega)⟩
          · rename_i h9
            rw [if_neg h9] at h
            exact absurd h h9
        · rw [if_pos h3]; exact ⟨rfl, rfl, h4⟩
      · rw [if_pos h2]; exact ⟨rfl, rfl, h4⟩
    · rw [if_pos h1]; exact ⟨rfl, rfl, h4⟩
theorem trD_enc {b : List UInt8} (h : (trD b).2.2.2.2 = 0) : (∀ x ∈ (trD b).2.1, EnO x) ∧ (trE (trD b).1 (trD b).2.1).1 = b ∧ (trE (trD b).1 (trD b).2.1).2.2.2.1 = (trD b).2.1.length ∧ (trE (trD b).1 (trD b).2.1).2.2.2.2 = 0 ∧ (trD b).2.2.2.1 = b.length := by
  obtain ⟨a1, a2, a3, a4, a5, a6⟩ := trD_one h
  rw [trE_of a1 a3]
  exact ⟨a2, a4.symm, a6, a3, a5⟩
theorem trE_take {cs : List ColB} {es : List EntB} (hO : ∀ x ∈ es, EnO x) (h : (trE cs es).2.2.2.2 = 0) {k : Nat} (hk : k ≤ es.length) :
    (trE cs (es.take k)).2.2.2.2 = 0 ∧ (trE cs (es.take k)).2.2.2.1 = k ∧ (trE cs (es.take k)).1 = (trE cs es).1.take (trE cs (es.take k)).1.length := by
  obtain ⟨h0, h1, e⟩ := trE_parts h
  obtain ⟨t1, t2, t3⟩ := trW_take es k 0 0 [] h1 hk
  rw [trE_of h0 t1, e]
  refine ⟨t1, by dsimp only; rw [t2]; omega, ?_⟩
  dsimp only
  have e3 : ∀ (a b c : List UInt8), (a ++ b).take (a ++ c).length = a ++ b.take c.length := fun a b c => by
    rw [List.length_append, List.take_append, Nat.add_sub_cancel_left, List.take_of_length_le (by omega)]
  rw [e3, ← t3]
theorem trE_head {cs : List ColB} {es : List EntB} (h : (trE cs es).2.2.2.2 = 0) : hdW (colsL cs) = (hdB (colsL cs), 0) ∧ hdB (colsL cs) = (trE cs es).1.take (hdB (colsL cs)).length := by
  obtain ⟨h0, h1, e⟩ := trE_parts h
  refine ⟨by unfold hdW; rw [if_neg (fun h => h h0)], ?_⟩
  rw [e]
  exact (List.take_left' rfl).symm

end Go.Proofs.YtmbpdpcinhhclaaGreatDoor


/- -/
namespace Go.Proofs.YtmbpdpcinhhclaaGreatDoor
open Go.RowKit Go.Shelf

theorem ap_known {cs : List ColB} {s : Int} {v : List PairB} {x : EntB} (h : apE cs s v x = 0) (hv : PSO v) (hX : EnO x) : PSO (apV cs s v x) ∧ inW (apN cs s v x) ∧ apN cs s v x = x.2.1 := by
  have hN : apN cs s v x = x.2.1 := by unfold apN; rw [if_pos h]
  obtain ⟨h1, h2, h3, h4⟩ := ap_inv h
  obtain ⟨_, _, _, hck⟩ := entE_zero.1 h3
  refine ⟨?_, by rw [hN]; exact hX.2.1, hN⟩
  rcases h4 with ⟨_, _, a3, _, a5⟩ | ⟨_, _, _, _, a5⟩
  · rw [a5]; exact (sum_ok ⟨hv, h1⟩ ⟨hX.2.2, hck⟩ a3).1.1
  · rw [a5]; exact hv

def trJ (es : List EntB) (ms : List (Int × Nat)) (T : List EntB × List (Int × Nat) × Nat × Nat) : List EntB × List (Int × Nat) × Nat × Nat :=
  if T.2.2.2 ≠ 0 then ([], [], T.2.2) else (es ++ T.1, ms ++ T.2.1, T.2.2)
def trT (cs : List ColB) (a0 : Nat) (J : List EntB × List (Int × Nat) × Nat × Nat) : List ColB × List EntB × List (Int × Nat) × Nat × Nat :=
  if J.2.2.2 ≠ 0 then ([], [], [], J.2.2) else (cs, J.1, (0, a0) :: J.2.1, J.2.2)

section
variable {cs : List ColB} {b p : List UInt8} {es : List EntB} {ms : List (Int × Nat)} {f a k K m y : Nat} {s : Int} {v : List PairB}
theorem trJ_end (h : b.length ≤ a) : trJ es ms (trR cs b f a k s v) = (es, ms, a, 0) := by
  rw [trR_end f h]; unfold trJ; rw [if_neg (by simp)]; simp
theorem trJ_limit (ha : a < b.length) (hf : b.length ≤ a + f) (hk : 4096 ≤ k) : trJ es ms (trR cs b f a k s v) = ([], [], a, 13) := by
  match f, hf with
  | 0, hf => omega
  | f + 1, hf => rw [trR, if_neg (by omega), if_pos hk]; rfl
theorem trJ_frame (ha : a < b.length) (hf : b.length ≤ a + f) (hk : k < 4096) (hn : nxF (b.drop a) = (K, p, m, y)) (hy : y ≠ 0) : trJ es ms (trR cs b f a k s v) = ([], [], a, y) := by
  match f, hf with
  | 0, hf => omega
  | f + 1, hf =>
    rw [trR, if_neg (by omega), if_neg (by omega), hn]
    dsimp only
    rw [if_pos hy]; unfold trJ; exact if_pos hy
theorem trJ_entry (ha : a < b.length) (hf : b.length ≤ a + f) (hk : k < 4096) (hn : nxF (b.drop a) = (K, p, m, 0)) {E : Nat} (hE : E = entRE cs (K : Int) p) (h0 : E ≠ 0) : trJ es ms (trR cs b f a k s v) = ([], [], a, E) := by
  match f, hf with
  | 0, hf => omega
  | f + 1, hf =>
    rw [trR, if_neg (by omega), if_neg (by omega), hn]
    dsimp only
    rw [if_neg (by simp), ← hE, if_pos h0]; unfold trJ; exact if_pos h0
theorem trJ_apply (ha : a < b.length) (hf : b.length ≤ a + f) (hk : k < 4096) (hn : nxF (b.drop a) = (K, p, m, 0)) (hE : entRE cs (K : Int) p = 0) {E : Nat} (hA : E = apE cs s v (entX cs K p)) (h0 : E ≠ 0) : trJ es ms (trR cs b f a k s v) = ([], [], a, E) := by
  match f, hf with
  | 0, hf => omega
  | f + 1, hf =>
    rw [trR, if_neg (by omega), if_neg (by omega), hn]
    dsimp only
    rw [if_neg (by simp), if_neg (fun h => h hE), ← hA, if_pos h0]; unfold trJ; exact if_pos h0
theorem trJ_step (ha : a < b.length) (hf : b.length ≤ a + f) (hk : k < 4096) (hn : nxF (b.drop a) = (K, p, m, 0)) (hE : entRE cs (K : Int) p = 0) (hA : apE cs s v (entX cs K p) = 0) :
    ∃ f', b.length ≤ a + m + f' ∧ trJ es ms (trR cs b f a k s v) = trJ (es ++ [entX cs K p]) (ms ++ [(apN cs s v (entX cs K p), a + m)]) (trR cs b f' (a + m) (k + 1) (apN cs s v (entX cs K p)) (apV cs s v (entX cs K p))) := by
  have h1 := nxF_one (b := b.drop a) (by rw [hn])
  rw [hn] at h1
  obtain ⟨_, x2, x3, _, _⟩ := h1
  dsimp only at x2 x3
  have hp := frB_pos K p
  match f, hf with
  | 0, hf => omega
  | f + 1, hf =>
    refine ⟨f, by omega, ?_⟩
    rw [trR, if_neg (by omega), if_neg (by omega), hn]
    dsimp only
    rw [if_neg (by simp), if_neg (fun h => h hE), if_neg (fun h => h hA)]
    obtain ⟨T, hT⟩ : ∃ T, T = trR cs b f (a + m) (k + 1) (apN cs s v (entX cs K p)) (apV cs s v (entX cs K p)) := ⟨_, rfl⟩
    rw [← hT]
    by_cases h0 : T.2.2.2 = 0
    · rw [if_neg (fun h => h h0)]
      unfold trJ
      dsimp only
      rw [if_neg (fun h => h h0), if_neg (fun h => h h0)]
      simp
    · rw [if_pos h0]
      unfold trJ
      dsimp only
      rw [if_pos h0, if_pos h0]
theorem trJ_fits (hn : nxF (b.drop a) = (K, p, m, 0)) (ha : a < b.length) : a + m ≤ b.length ∧ 1 ≤ m ∧ K ≤ 2 ∧ p.length ≤ 1048576 := by
  have h1 := nxF_one (b := b.drop a) (by rw [hn])
  rw [hn] at h1
  obtain ⟨_, x2, x3, x4, x5⟩ := h1
  dsimp only at x2 x3 x4 x5
  have hp := frB_pos K p
  rw [List.length_drop] at x3
  exact ⟨by omega, by omega, x4, x5⟩
theorem trD_form (h : b.length < 4 ∨ b.take 4 ≠ magicL) : trD b = ([], [], [], 0, 6) := by unfold trD; rw [if_pos h]
theorem trD_frame (h : ¬ (b.length < 4 ∨ b.take 4 ≠ magicL)) (hn : nxF (b.drop 4) = (K, p, m, y)) (hy : y ≠ 0) : trD b = ([], [], [], 4, y) := by
  unfold trD; rw [if_neg h, hn]; dsimp only; rw [if_pos hy]
theorem trD_kind (h : ¬ (b.length < 4 ∨ b.take 4 ≠ magicL)) (hn : nxF (b.drop 4) = (K, p, m, 0)) (hK : K ≠ 0) : trD b = ([], [], [], 4, 10) := by
  unfold trD; rw [if_neg h, hn]; dsimp only; rw [if_neg (by simp), if_pos hK]
theorem trD_schema (h : ¬ (b.length < 4 ∨ b.take 4 ≠ magicL)) (hn : nxF (b.drop 4) = (0, p, m, 0)) (hp : readE p ≠ 0) : trD b = ([], [], [], 4, readE p) := by
  unfold trD; rw [if_neg h, hn]; dsimp only; rw [if_neg (by simp), if_neg (by simp), if_pos hp]
theorem trD_rest (h : ¬ (b.length < 4 ∨ b.take 4 ≠ magicL)) (hn : nxF (b.drop 4) = (0, p, m, 0)) (hp : readE p = 0) :
    trD b = trT (colsB (readC p)) (4 + m) (trJ [] [] (trR (colsB (readC p)) b b.length (4 + m) 0 0 [])) := by
  unfold trD; rw [if_neg h, hn]; dsimp only; rw [if_neg (by simp), if_neg (by simp), if_neg (fun h => h hp)]
  obtain ⟨T, hT⟩ : ∃ T, T = trR (colsB (readC p)) b b.length (4 + m) 0 0 [] := ⟨_, rfl⟩
  rw [← hT]
  unfold trT trJ
  by_cases h0 : T.2.2.2 = 0
  · simp [h0]
  · simp [h0]
end
theorem entX_of {cs : List ColB} {K : Nat} {p : List UInt8} {ps : List PairB} (hO : PSO ps) (h : psL ps = (entRV cs (K : Int) p).2.2) : entX cs K p = ((entRV cs (K : Int) p).1, (entRV cs (K : Int) p).2.1, ps) := by
  unfold entX
  rw [← h, psB_psL ps]

end Go.Proofs.YtmbpdpcinhhclaaGreatDoor

