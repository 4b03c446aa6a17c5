/-
  What the frames of layer 12's laws want beside layer 10's: an entry that came in; the kinds of frames, as the row lists them; lists of pairs.
-/
import Derived.Test.YteiphdcgffapbaaDoorGDoor
import Derived.Test.YteiphdcgffapbaaDoorEntry
import Derived.Test.YteiphdcgffapbaaDoorGZDefs
import Derived.Lib.LaidTab
import Derived.LaidLaws
import Derived.Deep.Strs
set_option linter.unusedVariables false
set_option linter.unusedSimpArgs false
set_option maxRecDepth 1000000
namespace Go.Proofs.YteiphdcgffapbaaDoor
open Go.ChangeShapes Go.WideShapes Go.ChangeAt Go.RowKit Go.Shelf Go.Deep

section
variable {H : Type} {enc : TypeId × Value → H} {W : World}

theorem pairss_open {base : Nat} {v : Value} {d : DataW H} {pl : List MemPlace} {ts : List TypeId} {ds : List (DataW H)} {j : Nat} (hval : Value.okWide Tryd.prog W .any base 23 v)
    (h : DataW.Trod enc Tryd.prog W 0 (fun _ => true) true 23 v d pl) (hz : (DataW.weightsEach Tryd.prog ts ds).all (· ≤ reachBytes) = true) (ht : ts[j]? = some 23) (hd : ds[j]? = some d) :
    ∃ (vals : List Value) (pss : List (List PairB)), RdPs W v vals ∧ pss.length = vals.length ∧ ∀ i, i < vals.length → RdP W (vals.getD i undef) (pss.getD i []) ∧ PSO (pss.getD i []) ∧ (pss.getD i []).length * 32 ≤ 140737488351232 := by
  have hzd : ∀ n ∈ d.weights Tryd.prog 23, n ≤ reachBytes := fun n hn => by
    have := List.all_eq_true.1 hz _ (DataW.weights_mem_each ht hd n hn)
    simpa using this
  obtain ⟨a0, len, cap, rfl⟩ := okWide_slice Tryd.underlying23 hval
  obtain ⟨fuel, hf⟩ := h
  have hb1 : 1 ≤ Tryd.prog.bytesOf 26 := Nat.le_of_ble_eq_true (by kernel_rfl)
  have hc1 : Tryd.prog.cellsOf 26 = 1 := by kernel_rfl
  rcases open_slice Tryd.underlying23 hf with ⟨hcs, _⟩ | ⟨x, l, c, m, n, D, Pl, hcs, _, hl, hm, hmm, hx, hcell⟩
  · simp [Value.cells] at hcs
    obtain ⟨rfl, rfl, rfl⟩ := hcs
    exact ⟨[], [], RdG.nil pairsE W, rfl, fun i hi => absurd hi (by simp)⟩
  · simp [Value.cells] at hcs
    obtain ⟨rfl, rfl, rfl⟩ := hcs
    simp only [Prod.mk.injEq] at hx
    obtain ⟨rfl, _⟩ := hx
    simp only [if_true] at hmm
    subst hmm
    have hw : ∀ i, i < len → ∀ k ∈ (D i).weights Tryd.prog 26, k ≤ reachBytes := fun i hi k hk => by
      refine hzd k ?_
      rw [DataW.weights]
      simp only [Tryd.underlying23]
      refine List.mem_cons_of_mem _ (List.mem_append.2 (.inl (weights_mem_all5 hk ?_)))
      exact List.mem_map.2 ⟨i, List.mem_range.2 hi, rfl⟩
    have hs := hzd _ (by rw [DataW.weights]; simp only [Tryd.underlying23]; exact List.mem_cons_self ..)
    simp only [List.length_map, List.length_range, reachBytes] at hs
    have hs2 : len ≤ 140737488351232 := by
      have : (len + (m - len)) * 1 ≤ (len + (m - len)) * Tryd.prog.bytesOf 26 := Nat.mul_le_mul_left _ hb1
      omega
    rw [hc1] at hcell
    obtain ⟨L, hL⟩ := choose_lt (α := Value × List PairB) (p := fun i a => (RdP W a.1 a.2 ∧ PSO a.2 ∧ a.2.length * 32 ≤ 140737488351232) ∧ W.cell? ((x.add i).add 0) = some a.1) (n := len) (fun i hi => by
      obtain ⟨cs', h1, h2⟩ := hcell i (by omega)
      obtain ⟨_, h3, h4⟩ := World.cells?_some h1
      match cs', h3 with
      | [c0], _ =>
        obtain ⟨qs, r1, r2, r3⟩ := pairs_core (d := D i) (pl := Pl i) h2 (hw i hi)
        refine ⟨(c0, qs), ⟨r1, r2, r3⟩, ?_⟩
        have := h4 0 (by omega)
        rw [Nat.mul_one] at this
        simpa using this)
    have hlen : ((List.range len).map fun i => (L i).1).length = len := by simp
    have e1 : ∀ i, i < len → ((List.range len).map fun i => (L i).1).getD i undef = (L i).1 := fun i hi => by simp [List.getD, hi]
    have e2 : ∀ i, i < len → ((List.range len).map fun i => (L i).2).getD i [] = (L i).2 := fun i hi => by simp [List.getD, hi]
    have hsp : 0 < len → ∃ b o, x = ⟨b, o, none⟩ := by
      intro hp
      have h0 := (hL 0 hp).2
      obtain ⟨b, o, sp⟩ := x
      cases sp with
      | none => exact ⟨b, o, rfl⟩
      | some s =>
        exfalso
        simp only [Addr.add, if_true, World.cell?] at h0
        split at h0 <;> simp at h0
    refine ⟨(List.range len).map fun i => (L i).1, (List.range len).map fun i => (L i).2, ⟨⟨some x, _, by rw [List.length_map, hlen], by rw [List.length_map, hlen]; omega, (by intro h; cases h), fun hp => ?_⟩, ?_, ?_, by rw [List.length_map, hlen]; exact hs2⟩, by simp, fun i hi => ?_⟩
    · rw [List.length_map, hlen] at hp
      obtain ⟨b, o, rfl⟩ := hsp hp
      exact ⟨b, o, rfl⟩
    · intro i hi j u hu
      rw [List.length_map, hlen] at hi
      rw [getD_map (fun x => [x]) _ i (by rw [hlen]; exact hi) undef, e1 i hi] at hu
      have hj : j = 0 := by
        match j, hu with
        | 0, _ => rfl
      subst hj
      obtain rfl : (L i).1 = u := by simpa using hu
      have := (hL i hi).2
      obtain ⟨b, o, rfl⟩ := hsp (by omega)
      rw [Addr.add_mid, Addr.add_mid, Nat.add_assoc] at this
      rw [adr_lit]
      have e : i * pairsE.n + 0 = i + 0 := by rw [show pairsE.n = 1 from rfl]; omega
      rw [e]
      exact this
    · intro z hz
      obtain ⟨t, _, rfl⟩ := List.mem_map.1 hz
      rfl
    · rw [hlen] at hi
      rw [e1 i hi, e2 i hi]
      exact (hL i hi).1
end

end Go.Proofs.YteiphdcgffapbaaDoor
