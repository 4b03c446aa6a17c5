/-
  batch.Read: the landed code.
-/
import Derived.Test.YtedfcnlhdicipaaDoorBatTake
set_option linter.unusedVariables false
set_option linter.unusedSimpArgs false
set_option maxRecDepth 1000000
namespace Go.Proofs.YtedfcnlhdicipaaDoor
open Go.RowKit Go.Shelf

theorem RdC.lit {w : World} {v : Value} {cs : List ColB} (h : RdC w v cs) : ∃ ao n cap, v = .slice ao n cap := by
  obtain ⟨ao, cap, e, _⟩ := RdG.shape h
  exact ⟨ao, _, cap, e⟩
theorem RdP.litN {w : World} {v : Value} {ps : List PairB} (h : RdP w v ps) : ∃ ao n cap, v = .slice ao n cap := by
  obtain ⟨ts, _, h, _⟩ := h
  obtain ⟨ao, cap, e, _⟩ := RdG.shape h
  exact ⟨ao, _, cap, e⟩
theorem RdC.only9 {w w' : World} {v : Value} {cs : List ColB} {S : Nat → Prop} {B : Nat} (h0 : RdC w v cs) {w0 : World} (hw : RdC w0 v cs) (hB : w0.heap.size ≤ B) (hO : Only S w w') (hq : ∀ q, S q → B ≤ q) : RdC w' v cs :=
  RdG.same h0 fun i hi => hO.block _ (RdG.block h0 colOk hi) (fun h => by have h1 := RdG.block hw colOk hi; have h2 := hq _ h; omega)

/-- What Run's closure leaves, in the variable in block c. -/
def ReadP10 (wR : World) (c : Nat) (R : List Bp × Nat × Nat) (g k x : Nat) (a : World) : Prop :=
  Only (fun j => j = c ∨ wR.heap.size ≤ j) wR a ∧ k = R.2.1 ∧ x = R.2.2 ∧ (x = 0 → ∃ tv ps, a.heap[c]? = some (.cells #[tv] 25 (0, 0)) ∧ NewP a (wR.heap.size + 4) tv ps ∧ PSO ps ∧ psL ps = R.1)

theorem enters_read10 (args : Array Value) (u : World) : (callFunc 10 args).run Tryd.prog u = .ok (.enter 10 args) u := enters_fn Tryd.func10 (by kernel_rfl) rfl args u

set_option maxHeartbeats 4000000 in
theorem batch_Read1 (sv : Value) (cs : List ColB) (R : List Bp × Nat × Nat) (wR : World) (g c kb : Nat) (v : Value) (l : List UInt8) (w : World) (hRR : R = bat (ltE cs) (errS (colsL cs)) l (kindsL cs) 0) (hR : Rdr w g v l 0) (hc : w.heap[c]? = some (.cells #[.slice none 0 0] 25 (0, 0))) (hkb : w.heap[kb]? = some (.cells #[sv] 23 (0, 0))) (hsv : RdC wR sv cs) (hC : CS cs) (hT : Tabs w) (hg : tabTop ≤ g)
    (hcR : c < wR.heap.size) (hgR : wR.heap.size ≤ g) (hsz : wR.heap.size + 4 ≤ w.heap.size) (hb : Below wR.heap.size wR w) (hv : ∀ i, i < l.length → (adr v i).block ≠ c) :
    Calls Tryd.prog 10 #[.pointer (some ⟨g, 0, none⟩), .pointer (some ⟨kb, 0, none⟩), .pointer (some ⟨c, 0, none⟩)] w fun e w2 => ∃ k x, Kept wR.heap.size g w w2 ∧ ReadP10 wR c R g k x w2 ∧ Went g v l k x e w2 := by
  have hcw : c < w.heap.size := by omega
  have HC := Lib.hid hc
  have p0 := cell_of_one hkb
  have CT := Lib.hid (batch_Take sv cs g v l 0 w hR hC hT hg (fun wz hO => (hsv.later hb (Nat.le_refl _)).only9 hsv (Nat.le_refl _) hO (fun q h => by omega)))
  rw [← hRR] at CT
  obtain ⟨ao1, tl1, cap1, rfl⟩ := hsv.lit
  clear hRR hR hT hg hkb hsv
  go_enter Tryd.func10, Tryd.ntmps10
  go_wp2_with fail
  refine CT.out.mono ?_
  rintro e w2 ⟨hO, ⟨hx, tv, ps, rfl, hown, hps, hrt, hR2⟩ | ⟨hx, rfl, hE⟩⟩
  · obtain ⟨ao, tl, cap, htv⟩ := hown.rd.litN
    subst htv
    have q2 := hO.keep HC.out (by omega)
    have c0 := cell_of_one q2
    have c1 := free_of_one q2
    have HQ := Lib.hid q2
    have HO := Lib.hid hO
    have HN := Lib.hid hown
    have HRT := Lib.hid hrt
    have HR2 := Lib.hid hR2
    have HX := Lib.hid hx
    have hs2 := hO.size
    clear q2 hO hown hrt hR2 hx CT p0
    go_wp2
    go_end0
    have hset := one_setCell (u := .slice ao tl cap) HQ.out
    have hgs : w2.grownBy (w2.setCell ⟨c, 0, none⟩ (.slice ao tl cap)) (some c) := grown_setCell (World.grownBy.refl _ _) _
    have hos : Only (fun j => j = c) w2 (w2.setCell ⟨c, 0, none⟩ (.slice ao tl cap)) := (Only.refl (fun j => j = c) w2).setCell (p := ⟨c, 0, none⟩) rfl _
    refine ⟨R.2.1, 0, ?_, ⟨?_, rfl, HX.out.symm, fun _ => ⟨_, ps, hset, ?_, hps, HRT.out⟩⟩, .inl ⟨rfl, rfl, ?_⟩⟩
    · exact (HO.out.kept (fun j hj => .inr hj)).setCell hcR _
    · refine (((Only.refl _ wR).below hb (Nat.le_refl _)).trans9 HO.out (fun j _ hj => ?_)).setCell (p := ⟨c, 0, none⟩) (.inl rfl) _
      exact .inr (by omega)
    · exact (HN.out.only hos (fun q hq => by omega)).lower hsz
    · exact HR2.out.setVar (p := ⟨c, 0, none⟩) (by dsimp only; omega) hv _
  · have HO := Lib.hid hO
    have HE := Lib.hid hE
    have HX := Lib.hid hx
    clear hO hE hx CT p0
    go_wp2
    refine ⟨rfl, R.2.1, R.2.2, HO.out.kept (fun j hj => .inr hj), ⟨?_, rfl, rfl, fun h => absurd h HX.out⟩, .inr ⟨HX.out, rfl, HE.out⟩⟩
    exact ((Only.refl _ wR).below hb (Nat.le_refl _)).trans9 HO.out (fun j _ hj => .inr (by omega))

set_option maxHeartbeats 4000000 in
theorem batch_Read (v sv : Value) (l : List UInt8) (cs : List ColB) (w : World) (h : Rd w v l) (hsv : RdC w sv cs) (hC : CS cs) (hT : Tabs w) :
    Calls Tryd.prog 5 #[v, sv] w (RdO10 w l (bat (ltE cs) (errS (colsL cs)) l (kindsL cs) 0)) := by
  have hmf : ∀ (fn : Fn) (first cap : Array Value) (w : World), (Instr.makeFunc fn first cap).run Tryd.prog w = .ok (.func fn first cap) w := fun _ _ _ _ => rfl
  obtain ⟨N0, N1, N2, N4⟩ := new2 w (.cells #[sv] 23) (.cells #[.slice none 0 0] 25)
  obtain ⟨w0, hw0⟩ : ∃ w0, w0 = (w.alloc (.cells #[sv] 23)).alloc (.cells #[.slice none 0 0] 25) := ⟨_, rfl⟩
  rw [← hw0] at N0 N1 N2 N4
  have htl := tabs_lt hT
  have HB0 := Lib.hid N4
  have HC0 := Lib.hid N2
  have HKb := Lib.hid N1
  have hR0 := h.later N4 (Nat.le_refl _)
  have hvb := fun i (hi : i < l.length) => h.block hi
  have HT0 := Lib.hid (hT.later N4)
  have HS0 := Lib.hid (hsv.later N4 (Nat.le_refl _))
  obtain ⟨cb, hcb⟩ : ∃ cb, cb = w.heap.size := ⟨_, rfl⟩
  rw [← hcb] at N0 HC0 HKb hvb htl
  have HCB := Lib.hid hcb
  obtain ⟨R, hRR⟩ : ∃ R, R = bat (ltE cs) (errS (colsL cs)) l (kindsL cs) 0 := ⟨_, rfl⟩
  rw [← hRR]
  obtain ⟨ao1, tl1, cap1, rfl⟩ := hsv.lit
  have HW0 := Lib.hid hw0
  clear hw0 N1 N2 N4 h hT hcb
  have hrun := reader_RunK 10 enters_read10 #[.pointer (some ⟨cb, 0, none⟩), .pointer (some ⟨cb + 1, 0, none⟩)] v l w0 hR0 (ReadP10 w0 (cb + 1) R) (fun g k x a b hp hs hO => by
    obtain ⟨h1, h2, h3, h4⟩ := hp
    refine ⟨h1.trans9 hO (fun j _ hj => .inr (by omega)), h2, h3, fun hx => ?_⟩
    obtain ⟨tv, ps, q1, q2, q3, q4⟩ := h4 hx
    exact ⟨tv, ps, hO.keep q1 (by omega), q2.only hO (fun q hq => by omega), q3, q4⟩) (fun g w1 h1 h2 h3 hb hR => by
    have := batch_Read1 _ cs R w0 g (cb + 1) cb v l w1 hRR hR ((hb.block (cb + 1) (by omega)).trans HC0.out) ((hb.block cb (by omega)).trans HKb.out) HS0.out hC (HT0.out.later hb) (by omega) (by omega) h1 h2 hb (fun i hi => by have := hvb i hi; omega)
    exact this)
  have HRUN := Lib.hid hrun
  have hw0s : w0.heap.size = cb + 2 := N0
  clear hrun hR0 hvb N0 hRR hsv
  go_enter Tryd.func5, Tryd.ntmps5
  go_wp2_with fail
  rw [← HW0.out, ← HCB.out]
  refine HRUN.out.mono ?_
  rintro e w2 ⟨g, k, x, hk, hg, ⟨hO, h2, h3, hp⟩, hsh, rfl⟩
  have HB2 := Lib.hid (show Below w.heap.size w w2 from HB0.out.trans (hO.toBelow (fun j hj => by have := HCB.out; omega) (by have := HCB.out; omega)))
  have hs2 := hO.size
  have HK2 := Lib.hid h2
  have HK3 := Lib.hid h3
  have HRE0 := Lib.hid (show batE R l = told l k x by unfold batE; rw [← h2, ← h3])
  clear h2 h3
  by_cases hx : x = 0
  · subst hx
    obtain ⟨tv, ps, hq, hown, hps, hrt⟩ := hp rfl
    obtain ⟨ao, tl, cap, htv⟩ := hown.rd.litN
    subst htv
    by_cases hkl : k < l.length
    · have ht : told l k 0 = 7 := by unfold told; rw [if_pos rfl, if_pos hkl]
      have HRE := Lib.hid (HRE0.out.trans ht)
      rw [ht]
      clear hO hrt hq hown hsh ht hp
      go_wp2
      go_ret3
      refine ⟨HB2.out, _, [], by rw [← HK2.out, HRE.out]; rfl, NewP.nil _ _, fun p hp => absurd hp (by simp), ?_⟩
      unfold batC; rw [HRE.out]; rfl
    · have ht : told l k 0 = 0 := by unfold told; rw [if_pos rfl, if_neg hkl]
      have HRE := Lib.hid (HRE0.out.trans ht)
      have HRT := Lib.hid hrt
      have HOWN := Lib.hid (hown.lower (b' := w.heap.size) (by have := HCB.out; omega))
      rw [ht]
      have c0 := cell_of_one hq
      clear hO hrt hq hown hsh ht hp
      go_wp2
      go_ret3
      refine ⟨HB2.out, _, ps, by rw [← HK2.out, HRE.out]; rfl, HOWN.out, hps, ?_⟩
      unfold batC; rw [HRE.out, if_pos rfl, HRT.out]
  · have ht : told l k x = x := by unfold told; rw [if_neg hx]
    have HRE := Lib.hid (HRE0.out.trans ht)
    have HX := Lib.hid hx
    have hne : ((x : Int) != 0) = true := by rw [bne_iff_ne]; omega
    rw [ht]
    clear hO hsh ht hp hx
    go_wp2
    go_ret3
    refine ⟨HB2.out, _, [], by rw [← HK2.out, HRE.out]; rfl, NewP.nil _ _, fun p hp => absurd hp (by simp), ?_⟩
    unfold batC; rw [HRE.out, if_neg HX.out]; rfl

end Go.Proofs.YtedfcnlhdicipaaDoor
