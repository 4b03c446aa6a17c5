/-
  Layer 15: the calls that came in: a kind, a number, bytes.
-/
import Derived.Test.YtegaamebcoockaaStructs
import Derived.Test.YtegaamebcoockaaDeep
import Derived.Deep.MidRow
import Derived.Deep.Strs
set_option linter.unusedVariables false
set_option linter.unusedSimpArgs false
set_option maxRecDepth 1000000
namespace Go.Proofs.Ytegaamebcoockaa
open Go.ChangeShapes Go.WideShapes Go.ChangeAt Go.RowKit Go.Deep

/-- A call: the value that its bytes are read of, its kind, how many to keep, its bytes. -/
abbrev ActD := Value × Int × Int × List UInt8
def actD (t : ActD) : List Value := [.int .i64 t.2.1, .int .i64 t.2.2.1, t.1]
def actDE : Elt := ⟨23, 32, 3, 40, .agg #[.int .i64 0, .int .i64 0, .slice none 0 0]⟩
theorem actDOk : actDE.Ok := ⟨Try.underlying23, by kernel_rfl, by kernel_rfl, rfl, by decide⟩
/-- Calls that came in. -/
structure RdD (w : World) (v : Value) (ts : List ActD) : Prop where
  rd : RdG actDE w v (ts.map actD)
  each : ∀ t ∈ ts, Rd w t.1 t.2.2.2 ∧ (-9223372036854775808 ≤ t.2.1 ∧ t.2.1 ≤ 9223372036854775807) ∧ (-9223372036854775808 ≤ t.2.2.1 ∧ t.2.2.1 ≤ 9223372036854775807)

section
variable {w w' : World} {v : Value} {ts : List ActD}
theorem RdD.later (h : RdD w v ts) (hb : Below w.heap.size w w') : RdD w' v ts := ⟨h.rd.later actDOk hb (Nat.le_refl _), fun t ht => ⟨((h.each t ht).1).later hb (Nat.le_refl _), (h.each t ht).2⟩⟩
theorem RdD.len (h : RdD w v ts) : ∀ u, (Builtin.len_ #[23] 3 #[v]).run Try.prog u = .ok (.int .i64 (ts.length : Int)) u := by
  have := h.rd.len actDOk
  rw [List.length_map] at this
  exact this
theorem RdD.small (h : RdD w v ts) : ts.length ≤ 140737488351232 := by have := RdG.small h.rd; rwa [List.length_map] at this
theorem RdD.lit (h : RdD w v ts) : ∃ ao cap, v = .slice ao ts.length cap := by
  obtain ⟨ao, cap, hv, _⟩ := RdG.shape h.rd
  rw [List.length_map] at hv
  exact ⟨ao, cap, hv⟩
/-- A call: where it lies. -/
theorem RdD.get (h : RdD w v ts) {i : Nat} (hi : i < ts.length) : ∃ b o, (∀ u, (Instr.indexAt 23 v (.int .i64 (i : Int))).run Try.prog u = .ok (.pointer (some ⟨b, o, none⟩)) u) ∧
    w.cell? ⟨b, o, none⟩ = some (.int .i64 ts[i].2.1) ∧ w.cell? ⟨b, o + 1, none⟩ = some (.int .i64 ts[i].2.2.1) ∧ w.cell? ⟨b, o + 2, none⟩ = some ts[i].1 ∧ b < w.heap.size := by
  have hi' : i < (ts.map actD).length := by simpa using hi
  have hx := RdG.idx h.rd actDOk i hi'
  have hbk := RdG.block h.rd actDOk hi'
  obtain ⟨b, o, ha, hc⟩ := RdG.at h.rd hi'
  rw [ha] at hx hbk
  have eg : (ts.map actD).getD i [] = actD ts[i] := by simp [List.getD, hi]
  rw [eg] at hc
  exact ⟨b, o, hx, hc 0 _ rfl, hc 1 _ rfl, hc 2 _ rfl, hbk⟩
end

section
variable {H : Type} {enc : TypeId × Value → H} {W : World}

theorem actD_cells {fuel : Nat} {cs : List Value} {d : DataW H} {ps : List MemPlace} (h : DataW.trod enc Try.prog W 0 (fun _ => true) true fuel 32 cs = some (d, ps)) (hl : cs.length = 3) (hz : ∀ n ∈ d.weights Try.prog 32, n ≤ reachBytes) :
    ∃ t : ActD, cs = actD t ∧ Rd W t.1 t.2.2.2 ∧ (-9223372036854775808 ≤ t.2.1 ∧ t.2.1 ≤ 9223372036854775807) ∧ (-9223372036854775808 ≤ t.2.2.1 ∧ t.2.2.1 ≤ 9223372036854775807) := by
  obtain ⟨y0, y1, y2, n, hx, _, h0, h1, h2⟩ := Go.Deep.trod_struct3 Try.underlying32 h
  obtain ⟨c0, c1, c2, rfl⟩ : ∃ c0 c1 c2, cs = [c0, c1, c2] := by
    match cs, hl with
    | [c0, c1, c2], _ => exact ⟨c0, c1, c2, rfl⟩
  have k9 : Try.prog.cellsOf 3 = 1 := by kernel_rfl
  have k8 : Try.prog.cellsOf 22 = 1 := by kernel_rfl
  simp [k9, k8] at h0 h1 h2
  obtain ⟨a, ea, _, wa⟩ := DataW.trod_int Try.underlying3 h0
  obtain ⟨b, eb, _, wb⟩ := DataW.trod_int Try.underlying3 h1
  simp at ea eb
  subst ea eb
  injection hx with hx1 hx2
  obtain ⟨l, hr⟩ := rd_cell (d := y2.1) (ps := y2.2) h2 (fun n hn => hz n (by
    rw [hx1]
    simp only [DataW.weights, Try.underlying32]
    simp [DataW.weightsEach, hn]))
  exact ⟨(c2, a, b, l), rfl, hr, bd_i64 wa, bd_i64 wb⟩

theorem actsD_open {base : Nat} {v : Value} {d : DataW H} {ps : List MemPlace} {ts : List TypeId} {ds : List (DataW H)} {j : Nat} (hval : Value.okWide Try.prog W .any base 23 v)
    (h : DataW.Trod enc Try.prog W 0 (fun _ => true) true 23 v d ps) (hz : (DataW.weightsEach Try.prog ts ds).all (· ≤ reachBytes) = true) (ht : ts[j]? = some 23) (hd : ds[j]? = some d) : ∃ l, RdD W v l := by
  have hzd : ∀ n ∈ d.weights Try.prog 23, n ≤ reachBytes := fun n hn => by
    have := List.all_eq_true.1 hz _ (DataW.weights_mem_each ht hd n hn)
    simpa using this
  obtain ⟨a0, len, cap, rfl⟩ := okWide_slice Try.underlying23 hval
  obtain ⟨fuel, hf⟩ := h
  have hc3 : Try.prog.cellsOf 32 = 3 := by kernel_rfl
  have hb1 : 1 ≤ Try.prog.bytesOf 32 := Nat.le_of_ble_eq_true (by kernel_rfl)
  rcases open_slice Try.underlying23 hf with ⟨hcs, _⟩ | ⟨x, l, c, m, n, D, Pl, hcs, _, hl, hm, hmm, hx, hcell⟩
  · simp [Value.cells] at hcs
    obtain ⟨rfl, rfl, rfl⟩ := hcs
    exact ⟨[], RdG.nil actDE W, by simp⟩
  · simp [Value.cells] at hcs
    obtain ⟨rfl, rfl, rfl⟩ := hcs
    simp only [Prod.mk.injEq] at hx
    obtain ⟨rfl, _⟩ := hx
    simp only [if_true] at hmm
    subst hmm
    have hw : ∀ i, i < len → ∀ k ∈ (D i).weights Try.prog 32, k ≤ reachBytes := fun i hi k hk => by
      refine hzd k ?_
      rw [DataW.weights]
      simp only [Try.underlying23]
      refine List.mem_cons_of_mem _ (List.mem_append.2 (.inl (weights_mem_all hk ?_)))
      exact List.mem_map.2 ⟨i, List.mem_range.2 hi, rfl⟩
    have hs := hzd _ (by rw [DataW.weights]; simp only [Try.underlying23]; exact List.mem_cons_self ..)
    simp only [List.length_map, List.length_range, reachBytes] at hs
    have hs2 : len ≤ 140737488351232 := by
      have : (len + (m - len)) * 1 ≤ (len + (m - len)) * Try.prog.bytesOf 32 := Nat.mul_le_mul_left _ hb1
      omega
    rw [hc3] at hcell
    obtain ⟨L, hL⟩ := choose_lt (α := ActD) (p := fun i t => (Rd W t.1 t.2.2.2 ∧ (-9223372036854775808 ≤ t.2.1 ∧ t.2.1 ≤ 9223372036854775807) ∧ (-9223372036854775808 ≤ t.2.2.1 ∧ t.2.2.1 ≤ 9223372036854775807)) ∧ ∀ j u, (actD t)[j]? = some u → W.cell? ((x.add (i * 3)).add j) = some u) (n := len) (fun i hi => by
      obtain ⟨cs', h1, h2⟩ := hcell i (by omega)
      obtain ⟨_, h3, h4⟩ := World.cells?_some h1
      obtain ⟨t, rfl, hr⟩ := actD_cells h2 h3 (hw i hi)
      refine ⟨t, hr, fun j u hu => ?_⟩
      have hj : j < 3 := by have := (List.getElem?_eq_some_iff.1 hu).1; simpa [actD] using this
      rw [h4 j hj, hu])
    have hlen : (((List.range len).map L).map actD).length = len := by simp
    have e : ∀ i, i < len → (((List.range len).map L).map actD).getD i [] = actD (L i) := fun i hi => by simp [List.getD, hi]
    have hsp : 0 < len → ∃ b o, x = ⟨b, o, none⟩ := by
      intro hp
      have h0 := (hL 0 hp).2 0 _ rfl
      obtain ⟨b, o, sp⟩ := x
      cases sp with
      | none => exact ⟨b, o, rfl⟩
      | some s =>
        exfalso
        simp only [Addr.add, if_true, World.cell?] at h0
        split at h0 <;> simp at h0
    refine ⟨(List.range len).map L, ⟨⟨some x, _, by rw [hlen], by omega, (by intro h; cases h), fun hp => ?_⟩, ?_, ?_, by omega⟩, ?_⟩
    · rw [hlen] at hp
      obtain ⟨b, o, rfl⟩ := hsp hp
      exact ⟨b, o, rfl⟩
    · intro i hi
      rw [hlen] at hi
      rw [e i hi]
      intro j u hu
      have := (hL i hi).2 j u hu
      obtain ⟨b, o, rfl⟩ := hsp (by omega)
      rw [adr_lit]
      rw [Addr.add_mid, Addr.add_mid, Nat.add_assoc] at this
      exact this
    · intro y hy
      obtain ⟨t, _, rfl⟩ := List.mem_map.1 hy
      rfl
    · intro t ht
      obtain ⟨i, hi, rfl⟩ := List.mem_map.1 ht
      exact (hL i (List.mem_range.1 hi)).1
end

end Go.Proofs.Ytegaamebcoockaa
