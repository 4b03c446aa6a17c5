/-
  ZsetNegs: the other sign twice is the set itself; the other sign of a sum is the sum of the other signs, where there are. For every input.
-/
import Derived.Test.YtfpidkcdgebnpaaGreatDoorGZDefs
import Derived.Test.YtfpidkcdgebnpaaGreatDoorGZEnd
set_option linter.unusedVariables false
set_option linter.unusedSimpArgs false
set_option maxRecDepth 1000000
namespace Go.Proofs.YtfpidkcdgebnpaaGreatDoor
open Go.RowKit Go.Shelf

set_option maxHeartbeats 16000000 in
theorem zsetNegs_walk (v1 : Value) (cs : List ColB) (x0 x1 : Value) (a b : List PairB) (w : World) (hR : RdC w v1 cs) (hC : CS cs) (hA : RdP w x0 a ∧ PSO a ∧ a.length * 32 ≤ 140737488351232) (hB : RdP w x1 b ∧ PSO b ∧ b.length * 32 ≤ 140737488351232) (hT : Tabs w) (hL : Lib4 w) (hX : Mx w) :
    Calls Tryz.prog 9 #[v1, .agg #[x0, x1]] w fun e w' => e = .returned (.bool true) ∧ Below w.heap.size w w' := by
  have K := Lib.hid (lawK v1 cs w hR hC hT hL hX)
  have hl1 := hR.len
  have hsm1 := hR.small
  have RA := Lib.hid (fun wz (hz : Below w.heap.size w wz) => hA.1.later hz (Nat.le_refl _))
  have RB := Lib.hid (fun wz (hz : Below w.heap.size w wz) => hB.1.later hz (Nat.le_refl _))
  have PA := Lib.hid hA.2
  have PB := Lib.hid hB.2
  obtain ⟨ao0, no0, co0, rfl⟩ := hA.1.lit
  obtain ⟨ao1, no1, co1, rfl⟩ := hB.1.lit
  obtain ⟨n, hn⟩ : ∃ n, n = cs.length := ⟨_, rfl⟩
  rw [← hn] at hl1 hsm1
  clear hR hA hB hT hL hX hn
  have hbx := (Below.refl w.heap.size w).alloc (Nat.le_refl _) (.cells #[.slice ao0 no0 co0, .slice ao1 no1 co1] 35)
  have hg0 := heap_alloc_new w (.cells #[.slice ao0 no0 co0, .slice ao1 no1 co1] 35)
  have g0 := cell_of_row _ _ 0 _ _ _ hg0
  have g1 := cell_of_row _ _ 1 _ _ _ hg0
  simp only [List.getElem?_toArray, List.getElem?_cons_zero, List.getElem?_cons_succ] at g0 g1
  have GR := Lib.hid (great_two8 (.slice ao0 no0 co0) (.slice ao1 no1 co1) a b (w.alloc (.cells #[.slice ao0 no0 co0, .slice ao1 no1 co1] 35)) (RA.out _ hbx) (RB.out _ hbx))
  rw [show (w.alloc (.cells #[.slice ao0 no0 co0, .slice ao1 no1 co1] 35)).heap.size = w.heap.size + 1 from by simp] at GR
  have HB := Lib.hid hbx
  clear hbx hg0
  obtain ⟨x, hx⟩ : ∃ x, x = clcE cs a := ⟨_, rfl⟩
  obtain ⟨y, hy⟩ : ∃ y, y = clcE cs b := ⟨_, rfl⟩
  have CA := Lib.hid (fun wz h => K.out.collect wz _ a h (RA.out wz h) PA.out.1 (by have := PA.out.2; omega))
  have CB := Lib.hid (fun wz h => K.out.collect wz _ b h (RB.out wz h) PB.out.1 (by have := PB.out.2; omega))
  rw [← hx] at CA
  rw [← hy] at CB
  have HX := Lib.hid hx
  have HY := Lib.hid hy
  clear hx hy
  go_enter Tryz.func9, Tryz.ntmps9
  go_wp2_with fail
  refine (GR.out).mono ?_
  rintro e w2 ⟨q, rfl, hq, hb⟩
  replace HB := Lib.hid (HB.out.trans (hb.mono HB.out.size))
  replace g0 := keep_cell hb g0
  replace g1 := keep_cell hb g1
  clear hb GR
  rcases hq with rfl | rfl
  · by_cases hn30 : 30 < n
    · go_wp2_with fail
      refine (K.out.alive _ HB.out).mono ?_
      rintro e w3 ⟨rfl, hb⟩
      replace HB := Lib.hid (HB.out.trans (hb.mono HB.out.size))
      replace g0 := keep_cell hb g0
      replace g1 := keep_cell hb g1
      clear hb
      go_wp2
      go_ret
      exact ⟨rfl, HB.out⟩
    · go_wp2_with fail
      refine (CA.out _ HB.out).mono ?_
      rintro e w3 ⟨va, rfl, hra, hb⟩
      replace HB := Lib.hid (HB.out.trans (hb.mono HB.out.size))
      replace g0 := keep_cell hb g0
      replace g1 := keep_cell hb g1
      have FA := Lib.hid hra
      clear hb hra
      go_wp2_with fail
      refine (CB.out _ HB.out).mono ?_
      rintro e w4 ⟨vb, rfl, hrb, hb⟩
      replace HB := Lib.hid (HB.out.trans (hb.mono HB.out.size))
      replace FA := Lib.hid (FA.out.later hb (Nat.le_refl _))
      replace g0 := keep_cell hb g0
      replace g1 := keep_cell hb g1
      have FB := Lib.hid hrb
      clear hb hrb g0 g1
      go_wp2_with fail
      refine (K.out.alive _ HB.out).mono ?_
      rintro e w5 ⟨rfl, hb⟩
      replace HB := Lib.hid (HB.out.trans (hb.mono HB.out.size))
      replace FA := Lib.hid (FA.out.later hb (Nat.le_refl _))
      replace FB := Lib.hid (FB.out.later hb (Nat.le_refl _))
      clear hb
      by_cases hx0 : x = 0
      · subst hx0
        by_cases hy0 : y = 0
        · subst hy0
          have ZA := Lib.hid (clc_ok PA.out.1 HX.out.symm)
          have ZB := Lib.hid (clc_ok PB.out.1 HY.out.symm)
          obtain ⟨g, hg⟩ : ∃ g, g = negE cs (clcO cs a) := ⟨_, rfl⟩
          obtain ⟨h, hh⟩ : ∃ h, h = negE cs (clcO cs b) := ⟨_, rfl⟩
          have NA := Lib.hid (fun wz hz f => K.out.neg wz va (clcO cs a) hz f ZA.out.1.1)
          have NB := Lib.hid (fun wz hz f => K.out.neg wz vb (clcO cs b) hz f ZB.out.1.1)
          rw [← hg] at NA
          rw [← hh] at NB
          have HG := Lib.hid hg
          have HH := Lib.hid hh
          clear hg hh
          go_wp2_with fail
          refine (NA.out _ HB.out FA.out).mono ?_
          rintro e w6 ⟨vx, rfl, hrx, hb⟩
          replace HB := Lib.hid (HB.out.trans (hb.mono HB.out.size))
          replace FA := Lib.hid (FA.out.later hb (Nat.le_refl _))
          replace FB := Lib.hid (FB.out.later hb (Nat.le_refl _))
          have FX := Lib.hid hrx
          clear hb hrx
          go_wp2_with fail
          refine (NB.out _ HB.out FB.out).mono ?_
          rintro e w7 ⟨vy, rfl, hry, hb⟩
          replace HB := Lib.hid (HB.out.trans (hb.mono HB.out.size))
          replace FA := Lib.hid (FA.out.later hb (Nat.le_refl _))
          replace FB := Lib.hid (FB.out.later hb (Nat.le_refl _))
          replace FX := Lib.hid (FX.out.later hb (Nat.le_refl _))
          have FY := Lib.hid hry
          clear hb hry
          by_cases hg0 : g = 0
          · subst hg0
            by_cases hh0 : h = 0
            · subst hh0
              obtain ⟨nx1, nx2, nx3⟩ := neg_ok ZA.out.1 HG.out.symm
              obtain ⟨ny1, ny2, ny3⟩ := neg_ok ZB.out.1 HH.out.symm
              obtain ⟨t1, t2⟩ := neg_twice ZA.out.1 HG.out.symm
              have NX := Lib.hid (fun wz hz f => K.out.neg wz vx (negO cs (clcO cs a)) hz f nx1.1)
              rw [t1, t2] at NX
              have S1 := Lib.hid (fun wz hz f1 f2 => K.out.sum wz va vb (clcO cs a) (clcO cs b) hz f1 f2 ZA.out.1.1 ZB.out.1.1)
              have S2 := Lib.hid (fun wz hz f1 f2 => K.out.sum wz vx vy (negO cs (clcO cs a)) (negO cs (clcO cs b)) hz f1 f2 nx1.1 ny1.1)
              have NS := Lib.hid (fun h3 h4 => neg_sum ZA.out.1 ZB.out.1 HG.out.symm HH.out.symm h3 h4)
              have SO := Lib.hid (fun h => sum_ok ZA.out.1 ZB.out.1 h)
              obtain ⟨j, hj⟩ : ∃ j, j = sumE cs (clcO cs a) (clcO cs b) := ⟨_, rfl⟩
              obtain ⟨k, hk⟩ : ∃ k, k = sumE cs (negO cs (clcO cs a)) (negO cs (clcO cs b)) := ⟨_, rfl⟩
              rw [← hj] at S1 NS SO
              rw [← hk] at S2 NS
              clear hj hk nx1 nx2 nx3 ny1 ny2 ny3 t1 t2
              go_wp2_with fail
              refine (NX.out _ HB.out FX.out).mono ?_
              rintro e w8 ⟨vz, rfl, hrz, hb⟩
              replace HB := Lib.hid (HB.out.trans (hb.mono HB.out.size))
              replace FA := Lib.hid (FA.out.later hb (Nat.le_refl _))
              replace FB := Lib.hid (FB.out.later hb (Nat.le_refl _))
              replace FX := Lib.hid (FX.out.later hb (Nat.le_refl _))
              replace FY := Lib.hid (FY.out.later hb (Nat.le_refl _))
              have FZ := Lib.hid hrz
              clear hb hrz
              go_wp2_with fail
              refine (zset_Same vz va _ _ _ FZ.out FA.out).mono ?_
              rintro e w9 ⟨rfl, hb⟩
              replace HB := Lib.hid (HB.out.trans (hb.mono HB.out.size))
              replace FA := Lib.hid (FA.out.later hb (Nat.le_refl _))
              replace FB := Lib.hid (FB.out.later hb (Nat.le_refl _))
              replace FX := Lib.hid (FX.out.later hb (Nat.le_refl _))
              replace FY := Lib.hid (FY.out.later hb (Nat.le_refl _))
              replace FZ := Lib.hid (FZ.out.later hb (Nat.le_refl _))
              clear hb
              rw [decide_eq_true (rfl : clcO cs a = clcO cs a)]
              go_wp2_with fail
              refine (S1.out _ HB.out FA.out FB.out).mono ?_
              rintro e w10 ⟨vs, rfl, hrs, hb⟩
              replace HB := Lib.hid (HB.out.trans (hb.mono HB.out.size))
              replace FA := Lib.hid (FA.out.later hb (Nat.le_refl _))
              replace FB := Lib.hid (FB.out.later hb (Nat.le_refl _))
              replace FX := Lib.hid (FX.out.later hb (Nat.le_refl _))
              replace FY := Lib.hid (FY.out.later hb (Nat.le_refl _))
              replace FZ := Lib.hid (FZ.out.later hb (Nat.le_refl _))
              have FS := Lib.hid hrs
              clear hb hrs
              go_wp2_with fail
              refine (S2.out _ HB.out FX.out FY.out).mono ?_
              rintro e w11 ⟨vt, rfl, hrt, hb⟩
              replace HB := Lib.hid (HB.out.trans (hb.mono HB.out.size))
              replace FA := Lib.hid (FA.out.later hb (Nat.le_refl _))
              replace FB := Lib.hid (FB.out.later hb (Nat.le_refl _))
              replace FX := Lib.hid (FX.out.later hb (Nat.le_refl _))
              replace FY := Lib.hid (FY.out.later hb (Nat.le_refl _))
              replace FZ := Lib.hid (FZ.out.later hb (Nat.le_refl _))
              replace FS := Lib.hid (FS.out.later hb (Nat.le_refl _))
              have FT := Lib.hid hrt
              clear hb hrt
              by_cases hj0 : j = 0
              · subst hj0
                by_cases hk0 : k = 0
                · subst hk0
                  obtain ⟨n1, n2⟩ := NS.out (by simp) (by simp)
                  obtain ⟨s1, _⟩ := SO.out (by simp)
                  have NN := Lib.hid (fun wz hz f => K.out.neg wz vs (sumO cs (clcO cs a) (clcO cs b)) hz f s1.1)
                  rw [n1, n2] at NN
                  clear n1 n2 s1
                  go_wp2_with fail
                  refine (NN.out _ HB.out FS.out).mono ?_
                  rintro e w12 ⟨vm, rfl, hrm, hb⟩
                  replace HB := Lib.hid (HB.out.trans (hb.mono HB.out.size))
                  replace FA := Lib.hid (FA.out.later hb (Nat.le_refl _))
                  replace FB := Lib.hid (FB.out.later hb (Nat.le_refl _))
                  replace FX := Lib.hid (FX.out.later hb (Nat.le_refl _))
                  replace FY := Lib.hid (FY.out.later hb (Nat.le_refl _))
                  replace FZ := Lib.hid (FZ.out.later hb (Nat.le_refl _))
                  replace FS := Lib.hid (FS.out.later hb (Nat.le_refl _))
                  replace FT := Lib.hid (FT.out.later hb (Nat.le_refl _))
                  have FM := Lib.hid hrm
                  clear hb hrm
                  go_wp2_with fail
                  refine (zset_Same vm vt _ _ _ FM.out FT.out).mono ?_
                  rintro e w13 ⟨rfl, hb⟩
                  replace HB := Lib.hid (HB.out.trans (hb.mono HB.out.size))
                  replace FA := Lib.hid (FA.out.later hb (Nat.le_refl _))
                  replace FB := Lib.hid (FB.out.later hb (Nat.le_refl _))
                  replace FX := Lib.hid (FX.out.later hb (Nat.le_refl _))
                  replace FY := Lib.hid (FY.out.later hb (Nat.le_refl _))
                  replace FZ := Lib.hid (FZ.out.later hb (Nat.le_refl _))
                  replace FS := Lib.hid (FS.out.later hb (Nat.le_refl _))
                  replace FT := Lib.hid (FT.out.later hb (Nat.le_refl _))
                  replace FM := Lib.hid (FM.out.later hb (Nat.le_refl _))
                  clear hb
                  rw [decide_eq_true rfl]
                  go_wp2
                  go_ret
                  exact ⟨rfl, HB.out⟩
                · have qk : ((k : Int) != 0) = true := by rw [bne_iff_ne]; omega
                  go_wp2
                  go_ret
                  exact ⟨rfl, HB.out⟩
              · have qj : ((j : Int) != 0) = true := by rw [bne_iff_ne]; omega
                go_wp2
                go_ret
                exact ⟨rfl, HB.out⟩
            · have qh : ((h : Int) != 0) = true := by rw [bne_iff_ne]; omega
              go_wp2
              go_ret
              exact ⟨rfl, HB.out⟩
          · have qg : ((g : Int) != 0) = true := by rw [bne_iff_ne]; omega
            go_wp2
            go_ret
            exact ⟨rfl, HB.out⟩
        · have qy : ((y : Int) != 0) = true := by rw [bne_iff_ne]; omega
          go_wp2_with fail
          refine (K.out.alive _ HB.out).mono ?_
          rintro e w6 ⟨rfl, hb⟩
          replace HB := Lib.hid (HB.out.trans (hb.mono HB.out.size))
          replace FA := Lib.hid (FA.out.later hb (Nat.le_refl _))
          replace FB := Lib.hid (FB.out.later hb (Nat.le_refl _))
          clear hb
          go_wp2
          go_ret
          exact ⟨rfl, HB.out⟩
      · have qx : ((x : Int) != 0) = true := by rw [bne_iff_ne]; omega
        go_wp2_with fail
        refine (K.out.alive _ HB.out).mono ?_
        rintro e w6 ⟨rfl, hb⟩
        replace HB := Lib.hid (HB.out.trans (hb.mono HB.out.size))
        replace FA := Lib.hid (FA.out.later hb (Nat.le_refl _))
        replace FB := Lib.hid (FB.out.later hb (Nat.le_refl _))
        clear hb
        go_wp2
        go_ret
        exact ⟨rfl, HB.out⟩
  · go_wp2_with fail
    refine (K.out.alive _ HB.out).mono ?_
    rintro e w3 ⟨rfl, hb⟩
    replace HB := Lib.hid (HB.out.trans (hb.mono HB.out.size))
    replace g0 := keep_cell hb g0
    replace g1 := keep_cell hb g1
    clear hb
    go_wp2
    go_ret
    exact ⟨rfl, HB.out⟩

end Go.Proofs.YtfpidkcdgebnpaaGreatDoor
