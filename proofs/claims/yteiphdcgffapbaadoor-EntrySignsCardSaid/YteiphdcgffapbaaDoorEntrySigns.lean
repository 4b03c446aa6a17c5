/-
  EntrySigns: the law's own walk.
-/
import Derived.Test.YteiphdcgffapbaaDoorGEntL
import Derived.Test.YteiphdcgffapbaaDoorEntMath
import Derived.Test.YteiphdcgffapbaaDoorZNegW
set_option linter.unusedVariables false
set_option linter.unusedSimpArgs false
set_option maxRecDepth 1000000
namespace Go.Proofs.YteiphdcgffapbaaDoor
open Go.RowKit Go.Shelf

set_option maxHeartbeats 16000000 in
theorem entrySigns_walk (v1 : Value) (cs : List ColB) (x0 x1 : Value) (a b : List PairB) (at_ : Int) (w : World) (hR : RdC w v1 cs) (hC : CS cs) (hA : RdP w x0 a ∧ PSO a ∧ a.length * 32 ≤ 140737488351232) (hB : RdP w x1 b ∧ PSO b ∧ b.length * 32 ≤ 140737488351232) (hs : 0 ≤ at_ ∧ at_ ≤ 65535) (hT : Tabs w) :
    Calls Tryd.prog 4 #[v1, .agg #[x0, x1], .int .u16 at_] w fun e w' => e = .returned (.bool true) ∧ Below w.heap.size w w' := by
  have AL := Lib.hid (fun wz (hz : Below w.heap.size w wz) => law12_alive wz (hT.later hz))
  have CA := Lib.hid (fun wz (hz : Below w.heap.size w wz) => zset_Collect v1 x0 cs a wz (hR.later hz (Nat.le_refl _)) (hA.1.later hz (Nat.le_refl _)) hC hA.2.1 (hT.later hz) (by have := hA.2.2; omega))
  have CB := Lib.hid (fun wz (hz : Below w.heap.size w wz) => zset_Collect v1 x1 cs b wz (hR.later hz (Nat.le_refl _)) (hB.1.later hz (Nat.le_refl _)) hC hB.2.1 (hT.later hz) (by have := hB.2.2; omega))
  have NB := Lib.hid (fun wz v ps (hz : Below w.heap.size w wz) (hr : RdP wz v ps) (hp : PSO ps) => zset_Neg v1 v cs ps wz (hR.later hz (Nat.le_refl _)) hr hC hp (hT.later hz))
  have AP := Lib.hid (fun wz vv ev seq view x (hz : Below w.heap.size w wz) (hV : RdP wz vv view) (hE : RdN wz ev x) (hVO : PSO view) (hX : EnO x) (hq : inW seq) => entry_Apply v1 vv ev cs seq view x wz (hR.later hz (Nat.le_refl _)) hV hE hC hVO hX hq (hT.later hz))
  obtain ⟨ao0, no0, co0, rfl⟩ := hA.1.lit12
  obtain ⟨ao1, no1, co1, rfl⟩ := hB.1.lit12
  have GR := Lib.hid (fun wz (hz : Below w.heap.size w wz) => great_two12 v1 (.slice ao0 no0 co0) (.slice ao1 no1 co1) cs a b wz (hR.later hz (Nat.le_refl _)) (hA.1.later hz (Nat.le_refl _)) (hB.1.later hz (Nat.le_refl _)))
  have ok1 := fun h => (clc_ok (cs := cs) hA.2.1 h).1
  have ok2 := fun h => (clc_ok (cs := cs) hB.2.1 h).1
  have hO1 := clcO_pso (cs := cs) hA.2.1
  have hO2 := clcO_pso (cs := cs) hB.2.1
  obtain ⟨E1, hE1⟩ : ∃ E1, E1 = clcE cs a := ⟨_, rfl⟩
  obtain ⟨E2, hE2⟩ : ∃ E2, E2 = clcE cs b := ⟨_, rfl⟩
  rw [← hE1] at CA ok1
  rw [← hE2] at CB ok2
  generalize clcO cs a = P at *
  generalize clcO cs b = Q at *
  have HO1 := Lib.hid hO1
  have HO2 := Lib.hid hO2
  have OK1 := Lib.hid ok1
  have OK2 := Lib.hid ok2
  obtain ⟨E3, hE3⟩ : ∃ E3, E3 = negE cs Q := ⟨_, rfl⟩
  have NB := Lib.hid (fun wz v (hz : Below w.heap.size w wz) (hr : RdP wz v Q) => NB.out wz v Q hz hr hO2)
  rw [← hE3] at NB
  have HE3 := Lib.hid hE3
  obtain ⟨N1, N2⟩ := new_one12 w (.cells #[.slice ao0 no0 co0, .slice ao1 no1 co1] 37)
  obtain ⟨w0, hw0⟩ : ∃ w0, w0 = w.alloc (.cells #[.slice ao0 no0 co0, .slice ao1 no1 co1] 37) := ⟨_, rfl⟩
  rw [← hw0] at N1 N2
  obtain ⟨g, hg⟩ : ∃ g, g = w.heap.size := ⟨_, rfl⟩
  rw [← hg] at N1
  have HX := Lib.hid (fun wz (hz : Below w0.heap.size w0 wz) => (hz.block g (Array.getElem?_eq_some_iff.1 N1).1).trans N1)
  have HZ := Lib.hid (fun wz (hz : Below w0.heap.size w0 wz) => show Below w.heap.size w wz from N2.trans (hz.mono N2.size))
  have HW0 := Lib.hid hw0
  have HG := Lib.hid hg
  have HB := Lib.hid (Below.refl w0.heap.size w0)
  clear hR hC hA hB hT ok1 ok2 hO1 hO2 hE1 hE2 hE3 N1 N2 hw0 hg
  go_enter Tryd.func4, Tryd.ntmps4
  go_wp2_with fail
  rw [← HW0.out, ← HG.out]
  refine (AL.out w0 (HZ.out _ HB.out)).mono ?_
  rintro e w1 ⟨rfl, hb⟩
  replace HB := Lib.hid (HB.out.trans (hb.mono HB.out.size))
  have c0 := cell_of_row _ _ 0 _ _ _ (HX.out w1 HB.out)
  have c1 := cell_of_row _ _ 1 _ _ _ (HX.out w1 HB.out)
  simp at c0 c1
  clear hb
  go_wp2_with fail
  refine (GR.out w1 (HZ.out _ HB.out)).mono ?_
  rintro e w2 ⟨bb, rfl, _, hb⟩
  replace HB := Lib.hid (HB.out.trans (hb.mono HB.out.size))
  clear hb c0 c1 GR
  cases bb with
  | true =>
    go_wp2_with fail
    refine (AL.out w2 (HZ.out _ HB.out)).mono ?_
    rintro e w3 ⟨rfl, hb⟩
    replace HB := Lib.hid (HB.out.trans (hb.mono HB.out.size))
    clear hb
    go_wp2
    go_ret
    exact ⟨rfl, HZ.out _ HB.out⟩
  | false =>
    clear AL
    have c0 := cell_of_row _ _ 0 _ _ _ (HX.out w2 HB.out)
    have c1 := cell_of_row _ _ 1 _ _ _ (HX.out w2 HB.out)
    simp at c0 c1
    go_wp2_with fail
    refine (CA.out w2 (HZ.out _ HB.out)).mono ?_
    rintro e w3 ⟨pv, rfl, hr, hb⟩
    replace HB := Lib.hid (HB.out.trans (hb.mono HB.out.size))
    have HP := Lib.hid hr
    clear hb hr c0 c1 CA
    have c0 := cell_of_row _ _ 0 _ _ _ (HX.out w3 HB.out)
    have c1 := cell_of_row _ _ 1 _ _ _ (HX.out w3 HB.out)
    simp at c0 c1
    go_wp2_with fail
    refine (CB.out w3 (HZ.out _ HB.out)).mono ?_
    rintro e w4 ⟨qv, rfl, hr, hb⟩
    replace HB := Lib.hid (HB.out.trans (hb.mono HB.out.size))
    replace HP := Lib.hid (HP.out.later hb (Nat.le_refl _))
    have HQ := Lib.hid hr
    clear hb hr c0 c1 CB HX
    go_wp2_with fail
    refine (NB.out w4 qv (HZ.out _ HB.out) HQ.out).mono ?_
    rintro e w5 ⟨nv, rfl, hr, hb⟩
    replace HB := Lib.hid (HB.out.trans (hb.mono HB.out.size))
    replace HP := Lib.hid (HP.out.later hb (Nat.le_refl _))
    replace HQ := Lib.hid (HQ.out.later hb (Nat.le_refl _))
    have HNg := Lib.hid hr
    clear hb hr NB
    obtain ⟨pa, pn, pc, rfl⟩ := HP.out.lit12
    obtain ⟨qa, qn, qc, rfl⟩ := HQ.out.lit12
    obtain ⟨na, nn, nc, rfl⟩ := HNg.out.lit12
    by_cases h1 : E1 = 0
    · subst h1
      by_cases h2 : E2 = 0
      · subst h2
        by_cases h3 : E3 = 0
        · subst h3
          have hZP := OK1.out rfl
          have hZQ := OK2.out rfl
          obtain ⟨z1, z2⟩ := sum_none hZP
          obtain ⟨e1, e2, e3⟩ := ap_delta (s := at_) hZP (nil_set hZP.schema) (by omega)
          rw [z1] at e1 e2
          rw [z2] at e3
          obtain ⟨e4, e5, e6⟩ := ap_delta (s := at_) hZP hZQ (by omega)
          have hth := sum_three hZP hZQ
          have hsb := sign_back hZP hZQ HE3.out.symm
          have e7 := fun h => ap_delta (s := at_ + 1) (hsb h).1 (hsb h).2.1 (by omega)
          obtain ⟨E4, hE4⟩ : ∃ E4, E4 = sumE cs P Q := ⟨_, rfl⟩
          obtain ⟨R, hRr⟩ : ∃ R, R = sumO cs P Q := ⟨_, rfl⟩
          obtain ⟨B, hBb⟩ : ∃ B, B = negO cs Q := ⟨_, rfl⟩
          rw [← hE4] at e4 e5 hth hsb e7
          rw [← hRr] at e6 hsb e7
          rw [← hBb] at HNg hsb e7
          have A1 := Lib.hid (fun wz (hz : Below w.heap.size w wz) (hV : RdP wz (.slice pa pn pc) P) => show Calls Tryd.prog 8 #[v1, .int .i64 at_, .slice pa pn pc, .agg #[.int .i64 0, .int .i64 (at_ + 1), .slice none 0 0]] wz fun e w' => ∃ v, e = .returned (.tuple #[.int .i64 (at_ + 1), v, .int .i64 0]) ∧ RdP w' v P ∧ Below wz.heap.size wz w' from by
            refine (AP.out wz _ _ at_ P (0, at_ + 1, []) hz hV ⟨_, rfl, RdP.nil wz⟩ HO1.out ⟨by unfold inW; dsimp only; omega, by unfold inW; dsimp only; omega, fun p hp => absurd hp (by simp)⟩ (by unfold inW; omega)).mono ?_
            rintro e w' ⟨v, he, hr, hb⟩
            rw [e1, e2 rfl] at he
            rw [e3] at hr
            exact ⟨v, he, hr, hb⟩)
          have A2 := Lib.hid (fun wz (hz : Below w.heap.size w wz) (hV : RdP wz (.slice pa pn pc) P) (hQ : RdP wz (.slice qa qn qc) Q) => show Calls Tryd.prog 8 #[v1, .int .i64 at_, .slice pa pn pc, .agg #[.int .i64 0, .int .i64 (at_ + 1), .slice qa qn qc]] wz fun e w' => ∃ v n, e = .returned (.tuple #[.int .i64 n, v, .int .i64 (E4 : Int)]) ∧ (E4 = 0 → n = at_ + 1) ∧ RdP w' v R ∧ Below wz.heap.size wz w' from by
            refine (AP.out wz _ _ at_ P (0, at_ + 1, Q) hz hV ⟨_, rfl, hQ⟩ HO1.out ⟨by unfold inW; dsimp only; omega, by unfold inW; dsimp only; omega, HO2.out⟩ (by unfold inW; omega)).mono ?_
            rintro e w' ⟨v, he, hr, hb⟩
            rw [e4] at he
            rw [e6] at hr
            exact ⟨v, _, he, e5, hr, hb⟩)
          have A3 := Lib.hid (fun (h0 : E4 = 0) wz vv (hz : Below w.heap.size w wz) (hV : RdP wz vv R) (hQ : RdP wz (.slice na nn nc) B) => show Calls Tryd.prog 8 #[v1, .int .i64 (at_ + 1), vv, .agg #[.int .i64 0, .int .i64 (at_ + 2), .slice na nn nc]] wz fun e w' => ∃ v, e = .returned (.tuple #[.int .i64 (at_ + 2), v, .int .i64 0]) ∧ RdP w' v P ∧ Below wz.heap.size wz w' from by
            obtain ⟨y1, y2, y3, y4⟩ := hsb h0
            obtain ⟨y5, y6, y7⟩ := e7 h0
            rw [y3] at y5 y6
            rw [y4] at y7
            rw [show at_ + 1 + 1 = at_ + 2 from by omega] at y5 y6 y7
            refine (AP.out wz vv _ (at_ + 1) R (0, at_ + 2, B) hz hV ⟨_, rfl, hQ⟩ y1.1 ⟨by unfold inW; dsimp only; omega, by unfold inW; dsimp only; omega, y2.1⟩ (by unfold inW; omega)).mono ?_
            rintro e w' ⟨v, he, hr, hb⟩
            rw [y5, y6 rfl] at he
            rw [y7] at hr
            exact ⟨v, he, hr, hb⟩)
          have HTh := Lib.hid hth
          clear hZP hZQ z1 z2 e1 e2 e3 e4 e5 e6 e7 hsb hth hE4 hRr hBb AP OK1 OK2 HE3 HO1 HO2
          go_wp2_with fail
          refine (A1.out w5 (HZ.out _ HB.out) HP.out).mono ?_
          rintro e w6 ⟨v1', rfl, hr, hb⟩
          replace HB := Lib.hid (HB.out.trans (hb.mono HB.out.size))
          replace HP := Lib.hid (HP.out.later hb (Nat.le_refl _))
          replace HQ := Lib.hid (HQ.out.later hb (Nat.le_refl _))
          replace HNg := Lib.hid (HNg.out.later hb (Nat.le_refl _))
          have SM := Lib.hid (zset_Same v1' (.slice pa pn pc) P P w6 hr HP.out)
          rw [decide_eq_true rfl] at SM
          have d1 : ((at_ + 1 : Int) != at_ + 1) = false := by simp
          clear hb hr A1
          go_wp2_with fail
          refine SM.out.mono ?_
          rintro e w7 ⟨rfl, hb⟩
          replace HB := Lib.hid (HB.out.trans (hb.mono HB.out.size))
          replace HP := Lib.hid (HP.out.later hb (Nat.le_refl _))
          replace HQ := Lib.hid (HQ.out.later hb (Nat.le_refl _))
          replace HNg := Lib.hid (HNg.out.later hb (Nat.le_refl _))
          clear hb SM d1
          go_wp2_with fail
          refine (A2.out w7 (HZ.out _ HB.out) HP.out HQ.out).mono ?_
          rintro e w8 ⟨v2, n2, rfl, hn2, hr, hb⟩
          replace HB := Lib.hid (HB.out.trans (hb.mono HB.out.size))
          replace HP := Lib.hid (HP.out.later hb (Nat.le_refl _))
          replace HNg := Lib.hid (HNg.out.later hb (Nat.le_refl _))
          have HR := Lib.hid hr
          have HN2 := Lib.hid hn2
          clear hb hr hn2 A2 HQ
          by_cases h4 : E4 = 0
          · obtain rfl := HN2.out h4
            have A3b := Lib.hid (A3.out h4)
            subst h4
            have w16 : (at_ + 1 + 1 : Int) = at_ + 2 := by omega
            clear HTh HN2
            go_wp2_with fail
            refine (A3b.out w8 v2 (HZ.out _ HB.out) HR.out HNg.out).mono ?_
            rintro e w9 ⟨v3, rfl, hr, hb⟩
            replace HB := Lib.hid (HB.out.trans (hb.mono HB.out.size))
            replace HP := Lib.hid (HP.out.later hb (Nat.le_refl _))
            have SM := Lib.hid (zset_Same v3 (.slice pa pn pc) P P w9 hr HP.out)
            rw [decide_eq_true rfl] at SM
            have d1 : ((at_ + 2 : Int) == at_ + 2) = true := by simp
            clear hb hr A3 A3b HR HNg
            go_wp2_with fail
            refine SM.out.mono ?_
            rintro e wa ⟨rfl, hb⟩
            replace HB := Lib.hid (HB.out.trans (hb.mono HB.out.size))
            clear hb SM d1
            go_wp2
            go_ret
            exact ⟨by simp, HZ.out _ HB.out⟩
          · have h5 := HTh.out
            rcases h5 with h5 | h5 | h5
            · exact absurd h5 h4
            · subst h5
              clear HTh h4 A3
              go_wp2
              go_ret
              exact ⟨rfl, HZ.out _ HB.out⟩
            · subst h5
              clear HTh h4 A3
              go_wp2
              go_ret
              exact ⟨rfl, HZ.out _ HB.out⟩
        · have q : ((E3 : Int) != 0) = true := by rw [bne_iff_ne]; omega
          clear h3 AP OK1 OK2 HE3
          go_wp2
          go_ret
          exact ⟨rfl, HZ.out _ HB.out⟩
      · have q : ((E2 : Int) != 0) = true := by rw [bne_iff_ne]; omega
        clear h2 AP OK1 OK2 HE3
        go_wp2
        go_ret
        exact ⟨rfl, HZ.out _ HB.out⟩
    · have q : ((E1 : Int) != 0) = true := by rw [bne_iff_ne]; omega
      clear h1 AP OK1 OK2 HE3
      go_wp2
      go_ret
      exact ⟨rfl, HZ.out _ HB.out⟩

end Go.Proofs.YteiphdcgffapbaaDoor
