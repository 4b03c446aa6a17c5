/-
  Lists of pairs that came in: what they are, and how many pairs all of them have at most.
-/
import Derived.Test.YtokpphhmmcoeaaaGreatDoorGDoor
import Derived.Test.YtokpphhmmcoeaaaGreatDoorChg
import Derived.Test.YtokpphhmmcoeaaaGreatDoorRows
import Derived.Lib.LaidTab
import Derived.LaidLaws
import Derived.Deep.Strs
set_option linter.unusedVariables false
set_option linter.unusedSimpArgs false
set_option maxRecDepth 1000000
namespace Go.Proofs.YtokpphhmmcoeaaaGreatDoor
open Go.ChangeShapes Go.WideShapes Go.ChangeAt Go.RowKit Go.Shelf Go.Deep

section
variable {H : Type} {enc : TypeId × Value → H} {W : World}

theorem pairss_open {base : Nat} {v : Value} {d : DataW H} {pl : List MemPlace} {ts : List TypeId} {ds : List (DataW H)} {j : Nat} (hval : Value.okWide Tryz.prog W .any base 53 v)
    (h : DataW.Trod enc Tryz.prog W 0 (fun _ => true) true 53 v d pl) (hz : (DataW.weightsEach Tryz.prog ts ds).all (· ≤ reachBytes) = true) (ht : ts[j]? = some 53) (hd : ds[j]? = some d) :
    ∃ (vals : List Value) (pss : List (List PairB)), RdPs W v vals ∧ pss.length = vals.length ∧ ∀ i, i < vals.length → RdP W (vals.getD i undef) (pss.getD i []) ∧ PSO (pss.getD i []) ∧ (pss.getD i []).length * 32 ≤ 140737488351232 := by
  have hzd : ∀ n ∈ d.weights Tryz.prog 53, n ≤ reachBytes := fun n hn => by
    have := List.all_eq_true.1 hz _ (DataW.weights_mem_each ht hd n hn)
    simpa using this
  obtain ⟨a0, len, cap, rfl⟩ := okWide_slice Tryz.underlying53 hval
  obtain ⟨fuel, hf⟩ := h
  have hb1 : 1 ≤ Tryz.prog.bytesOf 27 := Nat.le_of_ble_eq_true (by kernel_rfl)
  have hc1 : Tryz.prog.cellsOf 27 = 1 := by kernel_rfl
  rcases open_slice Tryz.underlying53 hf with ⟨hcs, _⟩ | ⟨x, l, c, m, n, D, Pl, hcs, _, hl, hm, hmm, hx, hcell⟩
  · simp [Value.cells] at hcs
    obtain ⟨rfl, rfl, rfl⟩ := hcs
    exact ⟨[], [], RdG.nil pairsE W, rfl, fun i hi => absurd hi (by simp)⟩
  · simp [Value.cells] at hcs
    obtain ⟨rfl, rfl, rfl⟩ := hcs
    simp only [Prod.mk.injEq] at hx
    obtain ⟨rfl, _⟩ := hx
    simp only [if_true] at hmm
    subst hmm
    have hw : ∀ i, i < len → ∀ k ∈ (D i).weights Tryz.prog 27, k ≤ reachBytes := fun i hi k hk => by
      refine hzd k ?_
      rw [DataW.weights]
      simp only [Tryz.underlying53]
      refine List.mem_cons_of_mem _ (List.mem_append.2 (.inl (weights_mem_all5 hk ?_)))
      exact List.mem_map.2 ⟨i, List.mem_range.2 hi, rfl⟩
    have hs := hzd _ (by rw [DataW.weights]; simp only [Tryz.underlying53]; exact List.mem_cons_self ..)
    simp only [List.length_map, List.length_range, reachBytes] at hs
    have hs2 : len ≤ 140737488351232 := by
      have : (len + (m - len)) * 1 ≤ (len + (m - len)) * Tryz.prog.bytesOf 27 := Nat.mul_le_mul_left _ hb1
      omega
    rw [hc1] at hcell
    obtain ⟨L, hL⟩ := choose_lt (α := Value × List PairB) (p := fun i a => (RdP W a.1 a.2 ∧ PSO a.2 ∧ a.2.length * 32 ≤ 140737488351232) ∧ W.cell? ((x.add i).add 0) = some a.1) (n := len) (fun i hi => by
      obtain ⟨cs', h1, h2⟩ := hcell i (by omega)
      obtain ⟨_, h3, h4⟩ := World.cells?_some h1
      match cs', h3 with
      | [c0], _ =>
        obtain ⟨qs, r1, r2, r3⟩ := pairs_core (d := D i) (pl := Pl i) h2 (hw i hi)
        refine ⟨(c0, qs), ⟨r1, r2, r3⟩, ?_⟩
        have := h4 0 (by omega)
        rw [Nat.mul_one] at this
        simpa using this)
    have hlen : ((List.range len).map fun i => (L i).1).length = len := by simp
    have e1 : ∀ i, i < len → ((List.range len).map fun i => (L i).1).getD i undef = (L i).1 := fun i hi => by simp [List.getD, hi]
    have e2 : ∀ i, i < len → ((List.range len).map fun i => (L i).2).getD i [] = (L i).2 := fun i hi => by simp [List.getD, hi]
    have hsp : 0 < len → ∃ b o, x = ⟨b, o, none⟩ := by
      intro hp
      have h0 := (hL 0 hp).2
      obtain ⟨b, o, sp⟩ := x
      cases sp with
      | none => exact ⟨b, o, rfl⟩
      | some s =>
        exfalso
        simp only [Addr.add, if_true, World.cell?] at h0
        split at h0 <;> simp at h0
    refine ⟨(List.range len).map fun i => (L i).1, (List.range len).map fun i => (L i).2, ⟨⟨some x, _, by rw [List.length_map, hlen], by rw [List.length_map, hlen]; omega, (by intro h; cases h), fun hp => ?_⟩, ?_, ?_, by rw [List.length_map, hlen]; exact hs2⟩, by simp, fun i hi => ?_⟩
    · rw [List.length_map, hlen] at hp
      obtain ⟨b, o, rfl⟩ := hsp hp
      exact ⟨b, o, rfl⟩
    · intro i hi j u hu
      rw [List.length_map, hlen] at hi
      rw [getD_map (fun x => [x]) _ i (by rw [hlen]; exact hi) undef, e1 i hi] at hu
      have hj : j = 0 := by
        match j, hu with
        | 0, _ => rfl
      subst hj
      obtain rfl : (L i).1 = u := by simpa using hu
      have := (hL i hi).2
      obtain ⟨b, o, rfl⟩ := hsp (by omega)
      rw [Addr.add_mid, Addr.add_mid, Nat.add_assoc] at this
      rw [adr_lit]
      have e : i * pairsE.n + 0 = i + 0 := by rw [show pairsE.n = 1 from rfl]; omega
      rw [e]
      exact this
    · intro z hz
      obtain ⟨t, _, rfl⟩ := List.mem_map.1 hz
      rfl
    · rw [hlen] at hi
      rw [e1 i hi, e2 i hi]
      exact (hL i hi).1

theorem bulk_pos (d : DataW H) : 1 ≤ Rows.uptoBulk d := by
  cases d with
  | lit x => cases x <;> simp [Rows.uptoBulk]
  | _ => simp [Rows.uptoBulk]
theorem bulk_many : ∀ l : List (DataW H), l.length ≤ Rows.uptoBulkAll l
  | [] => by simp
  | d :: r => by
    have h1 := bulk_many r
    have h2 := bulk_pos d
    simp only [Rows.uptoBulkAll, List.length_cons]; omega
theorem bulk_sum {n : Nat} {f : Nat → Nat} {D : Nat → DataW H} (h : ∀ i, i < n → f i ≤ Rows.uptoBulk (D i)) : ((List.range n).map f).sum ≤ Rows.uptoBulkAll ((List.range n).map D) := by
  have key : ∀ l : List Nat, (∀ i ∈ l, i < n) → (l.map f).sum ≤ Rows.uptoBulkAll (l.map D) := by
    intro l
    induction l with
    | nil => intro _; simp
    | cons i r ih =>
      intro hi
      have h1 := ih fun j hj => hi j (by simp [hj])
      have h2 := h i (hi i (by simp))
      simp only [List.map_cons, List.sum_cons, Rows.uptoBulkAll]; omega
  exact key _ fun i hi => List.mem_range.1 hi
theorem pairs_bulk {fuel : Nat} {v : Value} {d : DataW H} {pl : List MemPlace} {ps : List PairB} (hf : DataW.trod enc Tryz.prog W 0 (fun _ => true) true fuel 27 [v] = some (d, pl)) (hr : RdP W v ps) : ps.length ≤ Rows.uptoBulk d := by
  obtain ⟨ts, rfl, hG, _⟩ := hr
  obtain ⟨ao, cap, hv, _⟩ := RdG.shape hG
  rw [List.length_map] at hv ⊢
  rcases open_slice Tryz.underlying27 hf with ⟨hcs, _⟩ | ⟨x, len, c, m, n, D, Pl, hcs, _, hl, hm, hmm, hx, hcell⟩
  · rw [hv] at hcs
    simp at hcs
    have : ts.length = 0 := by simp [hcs]
    omega
  · rw [hv] at hcs
    simp at hcs
    simp only [Prod.mk.injEq] at hx
    obtain ⟨rfl, _⟩ := hx
    have h1 := bulk_many ((List.range len).map D)
    rw [List.length_map, List.length_range] at h1
    simp only [Rows.uptoBulk]
    omega

theorem sum_flat14 : ∀ pss : List (List PairB), pss.flatten.length = ((List.range pss.length).map fun i => (pss.getD i []).length).sum := fun pss => by
  have key : ∀ (l : List (List PairB)), l.flatten.length = (l.map List.length).sum := fun l => by rw [List.length_flatten]
  rw [key]
  congr 1
  apply List.ext_getElem
  · simp
  · intro i h1 h2
    simp at h1
    simp [List.getD, h1]
theorem pairss_bulk {fuel : Nat} {v : Value} {d : DataW H} {pl : List MemPlace} {vals : List Value} {pss : List (List PairB)} (hf : DataW.trod enc Tryz.prog W 0 (fun _ => true) true fuel 53 [v] = some (d, pl)) (hC : Chg W v vals pss) : pss.flatten.length ≤ Rows.uptoBulk d := by
  obtain ⟨ao, cap, hv, _⟩ := RdG.shape hC.rd
  rw [List.length_map] at hv
  have hc1 : Tryz.prog.cellsOf 27 = 1 := by kernel_rfl
  rcases open_slice Tryz.underlying53 hf with ⟨hcs, _⟩ | ⟨x, len, c, m, n, D, Pl, hcs, _, hl, hm, hmm, hx, hcell⟩
  · rw [hv] at hcs
    simp at hcs
    have : vals.length = 0 := by simp [hcs]
    have h2 : pss = [] := List.eq_nil_of_length_eq_zero (by rw [hC.len]; exact this)
    rw [h2]; simp
  · rw [hv] at hcs
    simp at hcs
    obtain ⟨rfl, hlen, rfl⟩ := hcs
    simp only [Prod.mk.injEq] at hx
    obtain ⟨rfl, _⟩ := hx
    simp only [if_true] at hmm
    subst hmm
    rw [hc1] at hcell
    have key : ∀ i, i < len → (pss.getD i []).length ≤ Rows.uptoBulk (D i) := fun i hi => by
      have hi2 : i < vals.length := by omega
      obtain ⟨cs', h1, h2⟩ := hcell i (by omega)
      obtain ⟨_, h3, h4⟩ := World.cells?_some h1
      have h5 := RdG.cells hC.rd i (by rw [List.length_map]; exact hi2) 0 (vals.getD i undef) (by rw [getD_map (fun x => [x]) vals i hi2 undef]; rfl)
      have e : adr v (i * pairsE.n + 0) = (x.add (i * 1)).add 0 := by
        rw [hv]
        obtain ⟨b, o, sp⟩ := x
        simp only [adr, Addr.add]
        cases sp <;> simp [pairsE]
      rw [e] at h5
      have h6 := h4 0 (by omega)
      rw [h5] at h6
      match cs', h3 with
      | [c0], _ =>
        have h7 : vals.getD i undef = c0 := by simpa using h6
        have h8 := (hC.each i hi2).1
        rw [h7] at h8
        exact pairs_bulk (d := D i) (pl := Pl i) h2 h8
    have h9 := bulk_sum (D := D) (f := fun i => (pss.getD i []).length) key
    rw [sum_flat14, hC.len, hlen]
    simp only [Rows.uptoBulk]
    omega
theorem pairss_openU {base : Nat} {v : Value} {d : DataW H} {pl : List MemPlace} {ts : List TypeId} {ds : List (DataW H)} {j : Nat} (hval : Value.okWide Tryz.prog W .any base 53 v)
    (h : DataW.Trod enc Tryz.prog W 0 (fun _ => true) true 53 v d pl) (hz : (DataW.weightsEach Tryz.prog ts ds).all (· ≤ reachBytes) = true) (ht : ts[j]? = some 53) (hd : ds[j]? = some d) :
    ∃ (vals : List Value) (pss : List (List PairB)), Chg W v vals pss ∧ pss.flatten.length ≤ Rows.uptoBulk d := by
  obtain ⟨vals, pss, h1, h2, h3⟩ := pairss_open hval h hz ht hd
  have hC : Chg W v vals pss := ⟨h1, h2, fun i hi => ⟨(h3 i hi).1, (h3 i hi).2.1⟩⟩
  obtain ⟨fuel, hf⟩ := h
  obtain ⟨a0, len, cap, rfl⟩ := okWide_slice Tryz.underlying53 hval
  exact ⟨vals, pss, hC, pairss_bulk (v := .slice a0 len cap) hf hC⟩
end

end Go.Proofs.YtokpphhmmcoeaaaGreatDoor
