/-
  BatchRow: its closure, which takes two sets off one reader.
-/
import Derived.Test.YtedfcnlhdicipaaGreatDoorBatBackB
set_option linter.unusedVariables false
set_option linter.unusedSimpArgs false
set_option maxRecDepth 1000000
namespace Go.Proofs.YtedfcnlhdicipaaGreatDoor
open Go.RowKit Go.Shelf

/-- What Run's closure leaves, in the variables in blocks c and d. -/
def TwoP10 (wR : World) (c d K : Nat) (A B : List PairB) (g k x : Nat) (a : World) : Prop :=
  Only (fun j => j = c ∨ j = d ∨ wR.heap.size ≤ j) wR a ∧ k = K ∧ x = 0 ∧ (∃ tv, a.heap[c]? = some (.cells #[tv] 23 (0, 0)) ∧ NewP a (wR.heap.size + 4) tv A) ∧ (∃ uv, a.heap[d]? = some (.cells #[uv] 23 (0, 0)) ∧ NewP a (wR.heap.size + 4) uv B)

theorem enters_row10 (args : Array Value) (u : World) : (callFunc 21 args).run Tryz.prog u = .ok (.enter 21 args) u := enters_fn Tryz.func21 (by kernel_rfl) rfl args u

theorem Took10.ok {w0 w' : World} {g : Nat} {v : Value} {l : List UInt8} {r : List Bp} {k : Nat} {e : Ending} (h : Took10 w0 g v l (r, k, 0) e w') : Only (fun j => j = g) w0 w' ∧ ∃ tv ps, e = .returned tv ∧ NewP w' w0.heap.size tv ps ∧ psL ps = r ∧ Rdr w' g v l k := by
  obtain ⟨hO, ⟨_, tv, ps, h1, h2, _, h4, h5⟩ | ⟨hx, _⟩⟩ := h
  · exact ⟨hO, tv, ps, h1, h2, h4, h5⟩
  · exact absurd rfl hx

set_option maxHeartbeats 8000000 in
theorem batchRow1 (sv : Value) (cs : List ColB) (A B : List PairB) (w00 wR : World) (g c d sb : Nat) (v : Value) (l : List UInt8) (w : World) (hR : Rdr w g v l 0)
    (hc : w.heap[c]? = some (.cells #[.slice none 0 0] 23 (0, 0))) (hd : w.heap[d]? = some (.cells #[.slice none 0 0] 23 (0, 0)))
    (hp : w.heap[sb]? = some (.cells #[sv] 22 (0, 0))) (hs0 : RdC w00 sv cs) (hsw : RdC w sv cs) (hC : CS cs) (hs00 : w00.heap.size ≤ c) (hne : sb < c ∧ c < d) (hT : Tabs w) (hg : tabTop ≤ g) (htc : tabTop ≤ c)
    (hcR : d < wR.heap.size) (hgR : wR.heap.size ≤ g) (hsz : wR.heap.size + 4 ≤ w.heap.size) (hb : Below wR.heap.size wR w) (hv : ∀ i, i < l.length → (adr v i).block < c ∨ (d < (adr v i).block ∧ (adr v i).block ≠ g))
    (K1 : Nat) (h1 : batS cs l 0 = (psL A, K1, 0)) (h2 : batS cs l K1 = (psL B, l.length, 0)) :
    Calls Tryz.prog 21 #[.pointer (some ⟨g, 0, none⟩), .pointer (some ⟨sb, 0, none⟩), .pointer (some ⟨c, 0, none⟩), .pointer (some ⟨d, 0, none⟩)] w
      fun e w2 => ∃ k x, Kept wR.heap.size g w w2 ∧ TwoP10 wR c d l.length A B g k x w2 ∧ Went g v l k x e w2 := by
  obtain ⟨i1, i5⟩ := hne
  have hgl := hR.lt
  have p0 := cell_of_one hp
  have CT1 := Lib.hid (show Calls Tryz.prog 22 #[.pointer (some ⟨g, 0, none⟩), sv] w (Took10 w g v l (psL A, K1, 0)) from by
    rw [← h1]; exact batch_Take sv cs g v l 0 w hR hC hT hg (fun wz hO => hsw.only9 hs0 (Nat.le_refl _) hO (fun q h => by omega)))
  have HC := Lib.hid hc
  have HD := Lib.hid hd
  have HQ := Lib.hid hp
  have HT := Lib.hid hT
  have H2 := Lib.hid h2
  have HV := Lib.hid hv
  have HBw := Lib.hid hb
  have HS0 := Lib.hid hs0
  have HSw := Lib.hid hsw
  have hcw : d < w.heap.size := by omega
  have htw := Lib.hid (tabs_lt hT)
  obtain ⟨ao1, tl1, cap1, rfl⟩ := hs0.lit
  clear hp hc hd hT h1 h2 hv hb hR hs0 hsw
  go_enter Tryz.func21, Tryz.ntmps21
  go_wp2_with fail
  refine CT1.out.mono ?_
  intro e w2 hu
  obtain ⟨hO, tv, cs9, rfl, hown, hrt, hR2⟩ := hu.ok
  have heq : cs9 = A := psL_inj hrt
  subst heq
  try dsimp only at hR2
  obtain ⟨ao, tl, cap, htv⟩ := hown.rd.litN
  subst htv
  have q2 := hO.keep HC.out (by omega)
  have c0 := cell_of_one q2
  have c1 := free_of_one q2
  obtain ⟨w3, hw3⟩ : ∃ w3, w3 = w2.setCell ⟨c, 0, none⟩ (.slice ao tl cap) := ⟨_, rfl⟩
  have hq3 : ∀ j o, j ≠ g → j ≠ c → w.heap[j]? = some o → w3.heap[j]? = some o := fun j o h1 h2 h3 => by
    rw [hw3, Below.heap_setCell _ _ _ _ h2]; exact hO.keep h3 h1
  have hc3 : w3.heap[c]? = some (.cells #[.slice ao tl cap] 23 (0, 0)) := by rw [hw3]; exact one_setCell q2
  have hd3 := hq3 d _ (by omega) (by omega) HD.out
  have p3 := cell_of_one (hq3 sb _ (by omega) (by omega) HQ.out)
  rw [hw3] at p3
  have hO3 : Only (fun j => j = g ∨ j = c) w w3 := by rw [hw3]; exact (hO.mono (fun j h => .inl h)).setCell (p := ⟨c, 0, none⟩) (.inr rfl) _
  have hR3 : Rdr w3 g v l K1 := by rw [hw3]; exact hR2.setVar (p := ⟨c, 0, none⟩) (by dsimp only; omega) (fun i hi => by have := HV.out i hi; dsimp only; omega) _
  have hT3 : Tabs w3 := by
    rw [hw3]
    exact tabs_set (tabs_only HT.out (fun j hj => hO.block j (by have := htw.out; omega) (by omega))) (by dsimp only; exact htc) _
  have hos : Only (fun j => j = c) w2 w3 := by rw [hw3]; exact (Only.refl (fun j => j = c) w2).setCell (p := ⟨c, 0, none⟩) rfl _
  have hown3 : NewP w3 w.heap.size (.slice ao tl cap) cs9 := hown.only hos (fun q hq => by omega)
  have hsv3 : RdC w3 (.slice ao1 tl1 cap1) cs := HSw.out.only9 HS0.out (Nat.le_refl _) hO3 (fun q h => by omega)
  have HO3 := Lib.hid hO3
  have HC3 := Lib.hid hc3
  have HD3 := Lib.hid hd3
  have HOw3 := Lib.hid hown3
  have CT2 := Lib.hid (show Calls Tryz.prog 22 #[.pointer (some ⟨g, 0, none⟩), .slice ao1 tl1 cap1] w3 (Took10 w3 g v l (psL B, l.length, 0)) from by
    rw [← H2.out]; exact batch_Take _ cs g v l K1 w3 hR3 hC hT3 hg (fun wz hO => hsv3.only9 HS0.out (Nat.le_refl _) hO (fun q h => by omega)))
  have HW3 := Lib.hid hw3
  clear hq3 hc3 hd3 hO3 hR3 hT3 hos hown3 hrt hR2 hown q2 hO p0 CT1 hw3 hu hsv3
  go_wp2_with fail
  rw [← HW3.out]
  refine CT2.out.mono ?_
  intro e w4 hu
  obtain ⟨hO4, uv, ds, rfl, hown, hrt, hR4⟩ := hu.ok
  have heq : ds = B := psL_inj hrt
  subst heq
  try dsimp only at hR4
  obtain ⟨ao2, tl2, cap2, htv⟩ := hown.rd.litN
  subst htv
  have q4 := hO4.keep HD3.out (by omega)
  have qc := hO4.keep HC3.out (by omega)
  have d0 := cell_of_one q4
  have d1 := free_of_one q4
  have HQ4 := Lib.hid q4
  have HQc := Lib.hid qc
  have HO4 := Lib.hid hO4
  have HOw := Lib.hid hown
  have HR4 := Lib.hid hR4
  clear q4 qc hO4 hown hrt hR4 CT2 c0 c1 p3 hu
  go_wp2
  go_end0
  have hos : Only (fun j => j = d) w4 (w4.setCell ⟨d, 0, none⟩ (.slice ao2 tl2 cap2)) := (Only.refl (fun j => j = d) w4).setCell (p := ⟨d, 0, none⟩) rfl _
  have hs3 := HO3.out.size
  refine ⟨l.length, 0, ?_, ⟨?_, rfl, rfl, ⟨.slice ao tl cap, ?_, ?_⟩, ⟨_, one_setCell (u := .slice ao2 tl2 cap2) HQ4.out, ?_⟩⟩, .inl ⟨rfl, rfl, ?_⟩⟩
  · exact (((HO3.out.kept (lo := wR.heap.size) (g := g) (fun j hj => by omega)).trans (HO4.out.kept (fun j hj => .inr hj)))).setCell (by dsimp only; omega) _
  · refine ((((Only.refl _ wR).below HBw.out (Nat.le_refl _)).trans9 HO3.out (fun j _ hj => ?_)).trans9 HO4.out (fun j _ hj => ?_)).setCell (p := ⟨d, 0, none⟩) (.inr (.inl rfl)) _
    · rcases hj with h | h
      · exact .inr (.inr (by omega))
      · exact .inl h
    · exact .inr (.inr (by have h9 : j = g := hj; omega))
  · rw [Below.heap_setCell _ _ _ _ (show c ≠ d from by omega)]; exact HQc.out
  · exact ((HOw3.out.only HO4.out (fun q hq h9 => by have h8 : q = g := h9; omega)).only hos (fun q hq => by omega)).lower hsz
  · exact (HOw.out.only hos (fun q hq => by omega)).lower (by omega)
  · exact HR4.out.setVar (p := ⟨d, 0, none⟩) (by dsimp only; omega) (fun i hi => by have := HV.out i hi; dsimp only; omega) _

end Go.Proofs.YtedfcnlhdicipaaGreatDoor
