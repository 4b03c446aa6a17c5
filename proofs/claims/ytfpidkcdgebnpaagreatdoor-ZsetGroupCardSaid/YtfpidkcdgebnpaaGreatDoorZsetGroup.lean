/-
  ZsetGroup: sums go both ways, and on; with none a set is itself; with its other sign it comes to none. For every input.
-/
import Derived.Test.YtfpidkcdgebnpaaGreatDoorGZDefs
import Derived.Test.YtfpidkcdgebnpaaGreatDoorGZEnd
set_option linter.unusedVariables false
set_option linter.unusedSimpArgs false
set_option maxRecDepth 1000000
namespace Go.Proofs.YtfpidkcdgebnpaaGreatDoor
open Go.RowKit Go.Shelf

set_option maxHeartbeats 16000000 in
theorem zsetGroup_walk (v1 : Value) (cs : List ColB) (x0 x1 x2 : Value) (a b c : List PairB) (w : World) (hR : RdC w v1 cs) (hC : CS cs) (hA : RdP w x0 a ∧ PSO a ∧ a.length * 32 ≤ 140737488351232) (hB : RdP w x1 b ∧ PSO b ∧ b.length * 32 ≤ 140737488351232) (hD : RdP w x2 c ∧ PSO c ∧ c.length * 32 ≤ 140737488351232) (hT : Tabs w) (hL : Lib4 w) (hX : Mx w) :
    Calls Tryz.prog 7 #[v1, .agg #[x0, x1, x2]] w fun e w' => e = .returned (.bool true) ∧ Below w.heap.size w w' := by
  have K := Lib.hid (lawK v1 cs w hR hC hT hL hX)
  have hl1 := hR.len
  have hsm1 := hR.small
  have RA := Lib.hid (fun wz (hz : Below w.heap.size w wz) => hA.1.later hz (Nat.le_refl _))
  have RB := Lib.hid (fun wz (hz : Below w.heap.size w wz) => hB.1.later hz (Nat.le_refl _))
  have RD := Lib.hid (fun wz (hz : Below w.heap.size w wz) => hD.1.later hz (Nat.le_refl _))
  have PA := Lib.hid hA.2
  have PB := Lib.hid hB.2
  have PD := Lib.hid hD.2
  obtain ⟨ao0, no0, co0, rfl⟩ := hA.1.lit
  obtain ⟨ao1, no1, co1, rfl⟩ := hB.1.lit
  obtain ⟨ao2, no2, co2, rfl⟩ := hD.1.lit
  obtain ⟨n, hn⟩ : ∃ n, n = cs.length := ⟨_, rfl⟩
  rw [← hn] at hl1 hsm1
  clear hR hA hB hD hT hL hX hn
  have hbx := (Below.refl w.heap.size w).alloc (Nat.le_refl _) (.cells #[.slice ao0 no0 co0, .slice ao1 no1 co1, .slice ao2 no2 co2] 55)
  have hg0 := heap_alloc_new w (.cells #[.slice ao0 no0 co0, .slice ao1 no1 co1, .slice ao2 no2 co2] 55)
  have g0 := cell_of_row _ _ 0 _ _ _ hg0
  have g1 := cell_of_row _ _ 1 _ _ _ hg0
  have g2 := cell_of_row _ _ 2 _ _ _ hg0
  simp only [List.getElem?_toArray, List.getElem?_cons_zero, List.getElem?_cons_succ] at g0 g1 g2
  have GR := Lib.hid (great_three8 (.slice ao0 no0 co0) (.slice ao1 no1 co1) (.slice ao2 no2 co2) a b c (w.alloc (.cells #[.slice ao0 no0 co0, .slice ao1 no1 co1, .slice ao2 no2 co2] 55)) (RA.out _ hbx) (RB.out _ hbx) (RD.out _ hbx))
  rw [show (w.alloc (.cells #[.slice ao0 no0 co0, .slice ao1 no1 co1, .slice ao2 no2 co2] 55)).heap.size = w.heap.size + 1 from by simp] at GR
  have HB := Lib.hid hbx
  clear hbx hg0
  obtain ⟨x, hx⟩ : ∃ x, x = clcE cs a := ⟨_, rfl⟩
  obtain ⟨y, hy⟩ : ∃ y, y = clcE cs b := ⟨_, rfl⟩
  obtain ⟨z, hz⟩ : ∃ z, z = clcE cs c := ⟨_, rfl⟩
  have CA := Lib.hid (fun wz h => K.out.collect wz _ a h (RA.out wz h) PA.out.1 (by have := PA.out.2; omega))
  have CB := Lib.hid (fun wz h => K.out.collect wz _ b h (RB.out wz h) PB.out.1 (by have := PB.out.2; omega))
  have CD := Lib.hid (fun wz h => K.out.collect wz _ c h (RD.out wz h) PD.out.1 (by have := PD.out.2; omega))
  rw [← hx] at CA
  rw [← hy] at CB
  rw [← hz] at CD
  have HX := Lib.hid hx
  have HY := Lib.hid hy
  have HZ := Lib.hid hz
  clear hx hy hz
  go_enter Tryz.func7, Tryz.ntmps7
  go_wp2_with fail
  refine (GR.out).mono ?_
  rintro e w2 ⟨q, rfl, hq, hb⟩
  replace HB := Lib.hid (HB.out.trans (hb.mono HB.out.size))
  replace g0 := keep_cell hb g0
  replace g1 := keep_cell hb g1
  replace g2 := keep_cell hb g2
  clear hb GR
  rcases hq with rfl | rfl
  · by_cases hn30 : 30 < n
    · go_wp2_with fail
      refine (K.out.alive _ HB.out).mono ?_
      rintro e w3 ⟨rfl, hb⟩
      replace HB := Lib.hid (HB.out.trans (hb.mono HB.out.size))
      replace g0 := keep_cell hb g0
      replace g1 := keep_cell hb g1
      replace g2 := keep_cell hb g2
      clear hb
      go_wp2
      go_ret
      exact ⟨rfl, HB.out⟩
    · go_wp2_with fail
      refine (CA.out _ HB.out).mono ?_
      rintro e w3 ⟨va, rfl, hra, hb⟩
      replace HB := Lib.hid (HB.out.trans (hb.mono HB.out.size))
      replace g0 := keep_cell hb g0
      replace g1 := keep_cell hb g1
      replace g2 := keep_cell hb g2
      have FA := Lib.hid hra
      clear hb hra
      go_wp2_with fail
      refine (CB.out _ HB.out).mono ?_
      rintro e w4 ⟨vb, rfl, hrb, hb⟩
      replace HB := Lib.hid (HB.out.trans (hb.mono HB.out.size))
      replace FA := Lib.hid (FA.out.later hb (Nat.le_refl _))
      replace g0 := keep_cell hb g0
      replace g1 := keep_cell hb g1
      replace g2 := keep_cell hb g2
      have FB := Lib.hid hrb
      clear hb hrb
      go_wp2_with fail
      refine (CD.out _ HB.out).mono ?_
      rintro e w5 ⟨vc, rfl, hrc, hb⟩
      replace HB := Lib.hid (HB.out.trans (hb.mono HB.out.size))
      replace FA := Lib.hid (FA.out.later hb (Nat.le_refl _))
      replace FB := Lib.hid (FB.out.later hb (Nat.le_refl _))
      replace g0 := keep_cell hb g0
      replace g1 := keep_cell hb g1
      replace g2 := keep_cell hb g2
      have FC := Lib.hid hrc
      clear hb hrc g0 g1 g2
      go_wp2_with fail
      refine (K.out.alive _ HB.out).mono ?_
      rintro e w6 ⟨rfl, hb⟩
      replace HB := Lib.hid (HB.out.trans (hb.mono HB.out.size))
      replace FA := Lib.hid (FA.out.later hb (Nat.le_refl _))
      replace FB := Lib.hid (FB.out.later hb (Nat.le_refl _))
      replace FC := Lib.hid (FC.out.later hb (Nat.le_refl _))
      clear hb
      by_cases hx0 : x = 0
      · subst hx0
        by_cases hy0 : y = 0
        · subst hy0
          by_cases hz0 : z = 0
          · subst hz0
            have ZA := Lib.hid (clc_ok PA.out.1 HX.out.symm).1
            have ZB := Lib.hid (clc_ok PB.out.1 HY.out.symm).1
            have ZC := Lib.hid (clc_ok PD.out.1 HZ.out.symm).1
            obtain ⟨A, hA⟩ : ∃ A, A = clcO cs a := ⟨_, rfl⟩
            obtain ⟨B, hB⟩ : ∃ B, B = clcO cs b := ⟨_, rfl⟩
            obtain ⟨C, hC⟩ : ∃ C, C = clcO cs c := ⟨_, rfl⟩
            rw [← hA] at ZA FA
            rw [← hB] at ZB FB
            rw [← hC] at ZC FC
            clear hA hB hC
            obtain ⟨h, hh⟩ : ∃ h, h = sumE cs A B := ⟨_, rfl⟩
            obtain ⟨f1, f2⟩ := sum_flip ZA.out ZB.out
            have S1 := Lib.hid (fun wz hz f g => K.out.sum wz va vb A B hz f g ZA.out.1 ZB.out.1)
            have S2 := Lib.hid (fun wz hz f g => K.out.sum wz vb va B A hz f g ZB.out.1 ZA.out.1)
            rw [← f1, ← f2] at S2
            rw [← hh] at S1 S2
            have HH := Lib.hid hh
            obtain ⟨e1, e2⟩ := sum_as ZA.out (nil_set ZA.out.schema) ZA.out (fun r => by simp [Z.sumW])
            have S3 := Lib.hid (fun wz hz f => K.out.sum wz va (.slice none 0 0) A [] hz f (RdP.nil wz) ZA.out.1 (fun p hp => by simp at hp))
            rw [e1, e2] at S3
            have N1 := Lib.hid (fun wz hz f => K.out.neg wz va A hz f ZA.out.1)
            obtain ⟨j, hj⟩ : ∃ j, j = negE cs A := ⟨_, rfl⟩
            rw [← hj] at N1
            have HJ := Lib.hid hj
            clear hj hh f1 f2 e1 e2
            go_wp2_with fail
            refine (S1.out _ HB.out FA.out FB.out).mono ?_
            rintro e w7 ⟨vx, rfl, hrx, hb⟩
            replace HB := Lib.hid (HB.out.trans (hb.mono HB.out.size))
            replace FA := Lib.hid (FA.out.later hb (Nat.le_refl _))
            replace FB := Lib.hid (FB.out.later hb (Nat.le_refl _))
            replace FC := Lib.hid (FC.out.later hb (Nat.le_refl _))
            have FX := Lib.hid hrx
            clear hb hrx
            go_wp2_with fail
            refine (S2.out _ HB.out FB.out FA.out).mono ?_
            rintro e w8 ⟨vy, rfl, hry, hb⟩
            replace HB := Lib.hid (HB.out.trans (hb.mono HB.out.size))
            replace FA := Lib.hid (FA.out.later hb (Nat.le_refl _))
            replace FB := Lib.hid (FB.out.later hb (Nat.le_refl _))
            replace FC := Lib.hid (FC.out.later hb (Nat.le_refl _))
            replace FX := Lib.hid (FX.out.later hb (Nat.le_refl _))
            have FY := Lib.hid hry
            clear hb hry
            go_wp2_with fail
            refine (zset_Same vx vy _ _ _ FX.out FY.out).mono ?_
            rintro e w9 ⟨rfl, hb⟩
            replace HB := Lib.hid (HB.out.trans (hb.mono HB.out.size))
            replace FA := Lib.hid (FA.out.later hb (Nat.le_refl _))
            replace FB := Lib.hid (FB.out.later hb (Nat.le_refl _))
            replace FC := Lib.hid (FC.out.later hb (Nat.le_refl _))
            replace FX := Lib.hid (FX.out.later hb (Nat.le_refl _))
            replace FY := Lib.hid (FY.out.later hb (Nat.le_refl _))
            clear hb
            rw [decide_eq_true (rfl : sumO cs A B = sumO cs A B)]
            go_wp2_with fail
            refine (S3.out _ HB.out FA.out).mono ?_
            rintro e w10 ⟨vz, rfl, hrz, hb⟩
            replace HB := Lib.hid (HB.out.trans (hb.mono HB.out.size))
            replace FA := Lib.hid (FA.out.later hb (Nat.le_refl _))
            replace FB := Lib.hid (FB.out.later hb (Nat.le_refl _))
            replace FC := Lib.hid (FC.out.later hb (Nat.le_refl _))
            replace FX := Lib.hid (FX.out.later hb (Nat.le_refl _))
            replace FY := Lib.hid (FY.out.later hb (Nat.le_refl _))
            have FZ := Lib.hid hrz
            clear hb hrz
            go_wp2_with fail
            refine (zset_Same va vz _ _ _ FA.out FZ.out).mono ?_
            rintro e w11 ⟨rfl, hb⟩
            replace HB := Lib.hid (HB.out.trans (hb.mono HB.out.size))
            replace FA := Lib.hid (FA.out.later hb (Nat.le_refl _))
            replace FB := Lib.hid (FB.out.later hb (Nat.le_refl _))
            replace FC := Lib.hid (FC.out.later hb (Nat.le_refl _))
            replace FX := Lib.hid (FX.out.later hb (Nat.le_refl _))
            replace FY := Lib.hid (FY.out.later hb (Nat.le_refl _))
            replace FZ := Lib.hid (FZ.out.later hb (Nat.le_refl _))
            clear hb
            rw [decide_eq_true (rfl : A = A)]
            go_wp2_with fail
            refine (N1.out _ HB.out FA.out).mono ?_
            rintro e w12 ⟨vn, rfl, hrn, hb⟩
            replace HB := Lib.hid (HB.out.trans (hb.mono HB.out.size))
            replace FA := Lib.hid (FA.out.later hb (Nat.le_refl _))
            replace FB := Lib.hid (FB.out.later hb (Nat.le_refl _))
            replace FC := Lib.hid (FC.out.later hb (Nat.le_refl _))
            replace FX := Lib.hid (FX.out.later hb (Nat.le_refl _))
            replace FY := Lib.hid (FY.out.later hb (Nat.le_refl _))
            replace FZ := Lib.hid (FZ.out.later hb (Nat.le_refl _))
            have FN := Lib.hid hrn
            clear hb hrn
            by_cases hj0 : j = 0
            · subst hj0
              obtain ⟨n1, n2, n3⟩ := neg_ok ZA.out HJ.out.symm
              obtain ⟨m1, m2⟩ := sum_as ZA.out n1 (nil_set ZA.out.schema) (fun r => by rw [n3]; simp [Z.sumW]; omega)
              have S8 := Lib.hid (fun wz hz f g => K.out.sum wz va vn A (negO cs A) hz f g ZA.out.1 n1.1)
              rw [m1, m2] at S8
              clear n1 n2 n3 m1 m2
              go_wp2_with fail
              refine (S8.out _ HB.out FA.out FN.out).mono ?_
              rintro e w13 ⟨vk, rfl, hrk, hb⟩
              replace HB := Lib.hid (HB.out.trans (hb.mono HB.out.size))
              replace FA := Lib.hid (FA.out.later hb (Nat.le_refl _))
              replace FB := Lib.hid (FB.out.later hb (Nat.le_refl _))
              replace FC := Lib.hid (FC.out.later hb (Nat.le_refl _))
              replace FX := Lib.hid (FX.out.later hb (Nat.le_refl _))
              replace FY := Lib.hid (FY.out.later hb (Nat.le_refl _))
              replace FZ := Lib.hid (FZ.out.later hb (Nat.le_refl _))
              replace FN := Lib.hid (FN.out.later hb (Nat.le_refl _))
              clear hb
              have hlk := hrk.len
              rw [show ((([] : List PairB).length : Nat) : Int) = 0 from rfl] at hlk
              clear hrk
              by_cases hh0 : h = 0
              · subst hh0
                obtain ⟨s1, s2⟩ := sum_ok ZA.out ZB.out HH.out.symm
                have S4 := Lib.hid (fun wz hz f g => K.out.sum wz vx vc (sumO cs A B) C hz f g s1.1 ZC.out.1)
                have S5 := Lib.hid (fun wz hz f g => K.out.sum wz vb vc B C hz f g ZB.out.1 ZC.out.1)
                obtain ⟨k, hk⟩ : ∃ k, k = sumE cs (sumO cs A B) C := ⟨_, rfl⟩
                obtain ⟨l, hl⟩ : ∃ l, l = sumE cs B C := ⟨_, rfl⟩
                rw [← hk] at S4
                rw [← hl] at S5
                have S6 := Lib.hid (show k = 0 → l = 0 → sumE cs A (sumO cs B C) = 0 ∧ sumO cs A (sumO cs B C) = sumO cs (sumO cs A B) C ∧ PSO (sumO cs B C) from fun hk0 hl0 => by
                  obtain ⟨p1, p2⟩ := sum_ok s1 ZC.out (hk.symm.trans hk0)
                  obtain ⟨q1, q2⟩ := sum_ok ZB.out ZC.out (hl.symm.trans hl0)
                  obtain ⟨r1, r2⟩ := sum_as ZA.out q1 p1 (fun r => by rw [p2, q2, s2]; omega)
                  exact ⟨r1, r2, q1.1⟩)
                clear hk hl s1 s2
                go_wp2_with fail
                refine (S4.out _ HB.out FX.out FC.out).mono ?_
                rintro e w14 ⟨vp, rfl, hrp, hb⟩
                replace HB := Lib.hid (HB.out.trans (hb.mono HB.out.size))
                replace FA := Lib.hid (FA.out.later hb (Nat.le_refl _))
                replace FB := Lib.hid (FB.out.later hb (Nat.le_refl _))
                replace FC := Lib.hid (FC.out.later hb (Nat.le_refl _))
                replace FX := Lib.hid (FX.out.later hb (Nat.le_refl _))
                replace FY := Lib.hid (FY.out.later hb (Nat.le_refl _))
                replace FZ := Lib.hid (FZ.out.later hb (Nat.le_refl _))
                replace FN := Lib.hid (FN.out.later hb (Nat.le_refl _))
                have FP := Lib.hid hrp
                clear hb hrp
                go_wp2_with fail
                refine (S5.out _ HB.out FB.out FC.out).mono ?_
                rintro e w15 ⟨vq, rfl, hrq, hb⟩
                replace HB := Lib.hid (HB.out.trans (hb.mono HB.out.size))
                replace FA := Lib.hid (FA.out.later hb (Nat.le_refl _))
                replace FB := Lib.hid (FB.out.later hb (Nat.le_refl _))
                replace FC := Lib.hid (FC.out.later hb (Nat.le_refl _))
                replace FX := Lib.hid (FX.out.later hb (Nat.le_refl _))
                replace FY := Lib.hid (FY.out.later hb (Nat.le_refl _))
                replace FZ := Lib.hid (FZ.out.later hb (Nat.le_refl _))
                replace FN := Lib.hid (FN.out.later hb (Nat.le_refl _))
                replace FP := Lib.hid (FP.out.later hb (Nat.le_refl _))
                have FQ := Lib.hid hrq
                clear hb hrq
                by_cases hk0 : k = 0
                · by_cases hl0 : l = 0
                  · obtain ⟨r1, r2, r3⟩ := S6.out hk0 hl0
                    have S7 := Lib.hid (fun wz hz f g => K.out.sum wz va vq A (sumO cs B C) hz f g ZA.out.1 r3)
                    rw [r1, r2] at S7
                    subst hk0 hl0
                    clear r1 r2 r3
                    go_wp2_with fail
                    refine (S7.out _ HB.out FA.out FQ.out).mono ?_
                    rintro e w16 ⟨vr, rfl, hrr, hb⟩
                    replace HB := Lib.hid (HB.out.trans (hb.mono HB.out.size))
                    replace FA := Lib.hid (FA.out.later hb (Nat.le_refl _))
                    replace FB := Lib.hid (FB.out.later hb (Nat.le_refl _))
                    replace FC := Lib.hid (FC.out.later hb (Nat.le_refl _))
                    replace FX := Lib.hid (FX.out.later hb (Nat.le_refl _))
                    replace FY := Lib.hid (FY.out.later hb (Nat.le_refl _))
                    replace FZ := Lib.hid (FZ.out.later hb (Nat.le_refl _))
                    replace FN := Lib.hid (FN.out.later hb (Nat.le_refl _))
                    replace FP := Lib.hid (FP.out.later hb (Nat.le_refl _))
                    replace FQ := Lib.hid (FQ.out.later hb (Nat.le_refl _))
                    have FR := Lib.hid hrr
                    clear hb hrr
                    go_wp2_with fail
                    refine (zset_Same vp vr _ _ _ FP.out FR.out).mono ?_
                    rintro e w17 ⟨rfl, hb⟩
                    replace HB := Lib.hid (HB.out.trans (hb.mono HB.out.size))
                    replace FA := Lib.hid (FA.out.later hb (Nat.le_refl _))
                    replace FB := Lib.hid (FB.out.later hb (Nat.le_refl _))
                    replace FC := Lib.hid (FC.out.later hb (Nat.le_refl _))
                    replace FX := Lib.hid (FX.out.later hb (Nat.le_refl _))
                    replace FY := Lib.hid (FY.out.later hb (Nat.le_refl _))
                    replace FZ := Lib.hid (FZ.out.later hb (Nat.le_refl _))
                    replace FN := Lib.hid (FN.out.later hb (Nat.le_refl _))
                    replace FP := Lib.hid (FP.out.later hb (Nat.le_refl _))
                    replace FQ := Lib.hid (FQ.out.later hb (Nat.le_refl _))
                    replace FR := Lib.hid (FR.out.later hb (Nat.le_refl _))
                    clear hb
                    rw [decide_eq_true rfl]
                    go_wp2
                    go_ret
                    exact ⟨rfl, HB.out⟩
                  · subst hk0
                    have ql : ((l : Int) != 0) = true := by rw [bne_iff_ne]; omega
                    go_wp2
                    go_ret
                    exact ⟨rfl, HB.out⟩
                · have qk : ((k : Int) != 0) = true := by rw [bne_iff_ne]; omega
                  go_wp2
                  go_ret
                  exact ⟨rfl, HB.out⟩
              · have qh : ((h : Int) != 0) = true := by rw [bne_iff_ne]; omega
                have h3 : h = 12 ∨ h = 13 := by
                  have e := HH.out.trans (sumE_of ZA.out ZB.out).1
                  have := clcE_three (cs := cs) (ps := A ++ B) (fun p hp => (allV_app ZA.out.all ZB.out.all p hp).1) ZA.out.schema
                  omega
                rcases h3 with rfl | rfl
                · go_wp2
                  go_ret
                  exact ⟨rfl, HB.out⟩
                · go_wp2
                  go_ret
                  exact ⟨rfl, HB.out⟩
            · have qj : ((j : Int) == 0) = false := by rw [beq_eq_false_iff_ne]; omega
              by_cases hh0 : h = 0
              · subst hh0
                obtain ⟨s1, s2⟩ := sum_ok ZA.out ZB.out HH.out.symm
                have S4 := Lib.hid (fun wz hz f g => K.out.sum wz vx vc (sumO cs A B) C hz f g s1.1 ZC.out.1)
                have S5 := Lib.hid (fun wz hz f g => K.out.sum wz vb vc B C hz f g ZB.out.1 ZC.out.1)
                obtain ⟨k, hk⟩ : ∃ k, k = sumE cs (sumO cs A B) C := ⟨_, rfl⟩
                obtain ⟨l, hl⟩ : ∃ l, l = sumE cs B C := ⟨_, rfl⟩
                rw [← hk] at S4
                rw [← hl] at S5
                have S6 := Lib.hid (show k = 0 → l = 0 → sumE cs A (sumO cs B C) = 0 ∧ sumO cs A (sumO cs B C) = sumO cs (sumO cs A B) C ∧ PSO (sumO cs B C) from fun hk0 hl0 => by
                  obtain ⟨p1, p2⟩ := sum_ok s1 ZC.out (hk.symm.trans hk0)
                  obtain ⟨q1, q2⟩ := sum_ok ZB.out ZC.out (hl.symm.trans hl0)
                  obtain ⟨r1, r2⟩ := sum_as ZA.out q1 p1 (fun r => by rw [p2, q2, s2]; omega)
                  exact ⟨r1, r2, q1.1⟩)
                clear hk hl s1 s2
                go_wp2_with fail
                refine (S4.out _ HB.out FX.out FC.out).mono ?_
                rintro e w13 ⟨vp, rfl, hrp, hb⟩
                replace HB := Lib.hid (HB.out.trans (hb.mono HB.out.size))
                replace FA := Lib.hid (FA.out.later hb (Nat.le_refl _))
                replace FB := Lib.hid (FB.out.later hb (Nat.le_refl _))
                replace FC := Lib.hid (FC.out.later hb (Nat.le_refl _))
                replace FX := Lib.hid (FX.out.later hb (Nat.le_refl _))
                replace FY := Lib.hid (FY.out.later hb (Nat.le_refl _))
                replace FZ := Lib.hid (FZ.out.later hb (Nat.le_refl _))
                replace FN := Lib.hid (FN.out.later hb (Nat.le_refl _))
                have FP := Lib.hid hrp
                clear hb hrp
                go_wp2_with fail
                refine (S5.out _ HB.out FB.out FC.out).mono ?_
                rintro e w14 ⟨vq, rfl, hrq, hb⟩
                replace HB := Lib.hid (HB.out.trans (hb.mono HB.out.size))
                replace FA := Lib.hid (FA.out.later hb (Nat.le_refl _))
                replace FB := Lib.hid (FB.out.later hb (Nat.le_refl _))
                replace FC := Lib.hid (FC.out.later hb (Nat.le_refl _))
                replace FX := Lib.hid (FX.out.later hb (Nat.le_refl _))
                replace FY := Lib.hid (FY.out.later hb (Nat.le_refl _))
                replace FZ := Lib.hid (FZ.out.later hb (Nat.le_refl _))
                replace FN := Lib.hid (FN.out.later hb (Nat.le_refl _))
                replace FP := Lib.hid (FP.out.later hb (Nat.le_refl _))
                have FQ := Lib.hid hrq
                clear hb hrq
                by_cases hk0 : k = 0
                · by_cases hl0 : l = 0
                  · obtain ⟨r1, r2, r3⟩ := S6.out hk0 hl0
                    have S7 := Lib.hid (fun wz hz f g => K.out.sum wz va vq A (sumO cs B C) hz f g ZA.out.1 r3)
                    rw [r1, r2] at S7
                    subst hk0 hl0
                    clear r1 r2 r3
                    go_wp2_with fail
                    refine (S7.out _ HB.out FA.out FQ.out).mono ?_
                    rintro e w15 ⟨vr, rfl, hrr, hb⟩
                    replace HB := Lib.hid (HB.out.trans (hb.mono HB.out.size))
                    replace FA := Lib.hid (FA.out.later hb (Nat.le_refl _))
                    replace FB := Lib.hid (FB.out.later hb (Nat.le_refl _))
                    replace FC := Lib.hid (FC.out.later hb (Nat.le_refl _))
                    replace FX := Lib.hid (FX.out.later hb (Nat.le_refl _))
                    replace FY := Lib.hid (FY.out.later hb (Nat.le_refl _))
                    replace FZ := Lib.hid (FZ.out.later hb (Nat.le_refl _))
                    replace FN := Lib.hid (FN.out.later hb (Nat.le_refl _))
                    replace FP := Lib.hid (FP.out.later hb (Nat.le_refl _))
                    replace FQ := Lib.hid (FQ.out.later hb (Nat.le_refl _))
                    have FR := Lib.hid hrr
                    clear hb hrr
                    go_wp2_with fail
                    refine (zset_Same vp vr _ _ _ FP.out FR.out).mono ?_
                    rintro e w16 ⟨rfl, hb⟩
                    replace HB := Lib.hid (HB.out.trans (hb.mono HB.out.size))
                    replace FA := Lib.hid (FA.out.later hb (Nat.le_refl _))
                    replace FB := Lib.hid (FB.out.later hb (Nat.le_refl _))
                    replace FC := Lib.hid (FC.out.later hb (Nat.le_refl _))
                    replace FX := Lib.hid (FX.out.later hb (Nat.le_refl _))
                    replace FY := Lib.hid (FY.out.later hb (Nat.le_refl _))
                    replace FZ := Lib.hid (FZ.out.later hb (Nat.le_refl _))
                    replace FN := Lib.hid (FN.out.later hb (Nat.le_refl _))
                    replace FP := Lib.hid (FP.out.later hb (Nat.le_refl _))
                    replace FQ := Lib.hid (FQ.out.later hb (Nat.le_refl _))
                    replace FR := Lib.hid (FR.out.later hb (Nat.le_refl _))
                    clear hb
                    rw [decide_eq_true rfl]
                    go_wp2
                    go_ret
                    exact ⟨rfl, HB.out⟩
                  · subst hk0
                    have ql : ((l : Int) != 0) = true := by rw [bne_iff_ne]; omega
                    go_wp2
                    go_ret
                    exact ⟨rfl, HB.out⟩
                · have qk : ((k : Int) != 0) = true := by rw [bne_iff_ne]; omega
                  go_wp2
                  go_ret
                  exact ⟨rfl, HB.out⟩
              · have qh : ((h : Int) != 0) = true := by rw [bne_iff_ne]; omega
                have h3 : h = 12 ∨ h = 13 := by
                  have e := HH.out.trans (sumE_of ZA.out ZB.out).1
                  have := clcE_three (cs := cs) (ps := A ++ B) (fun p hp => (allV_app ZA.out.all ZB.out.all p hp).1) ZA.out.schema
                  omega
                rcases h3 with rfl | rfl
                · go_wp2
                  go_ret
                  exact ⟨rfl, HB.out⟩
                · go_wp2
                  go_ret
                  exact ⟨rfl, HB.out⟩
          · have qz : ((z : Int) != 0) = true := by rw [bne_iff_ne]; omega
            go_wp2_with fail
            refine (K.out.alive _ HB.out).mono ?_
            rintro e w7 ⟨rfl, hb⟩
            replace HB := Lib.hid (HB.out.trans (hb.mono HB.out.size))
            replace FA := Lib.hid (FA.out.later hb (Nat.le_refl _))
            replace FB := Lib.hid (FB.out.later hb (Nat.le_refl _))
            replace FC := Lib.hid (FC.out.later hb (Nat.le_refl _))
            clear hb
            go_wp2
            go_ret
            exact ⟨rfl, HB.out⟩
        · have qy : ((y : Int) != 0) = true := by rw [bne_iff_ne]; omega
          go_wp2_with fail
          refine (K.out.alive _ HB.out).mono ?_
          rintro e w7 ⟨rfl, hb⟩
          replace HB := Lib.hid (HB.out.trans (hb.mono HB.out.size))
          replace FA := Lib.hid (FA.out.later hb (Nat.le_refl _))
          replace FB := Lib.hid (FB.out.later hb (Nat.le_refl _))
          replace FC := Lib.hid (FC.out.later hb (Nat.le_refl _))
          clear hb
          go_wp2
          go_ret
          exact ⟨rfl, HB.out⟩
      · have qx : ((x : Int) != 0) = true := by rw [bne_iff_ne]; omega
        go_wp2_with fail
        refine (K.out.alive _ HB.out).mono ?_
        rintro e w7 ⟨rfl, hb⟩
        replace HB := Lib.hid (HB.out.trans (hb.mono HB.out.size))
        replace FA := Lib.hid (FA.out.later hb (Nat.le_refl _))
        replace FB := Lib.hid (FB.out.later hb (Nat.le_refl _))
        replace FC := Lib.hid (FC.out.later hb (Nat.le_refl _))
        clear hb
        go_wp2
        go_ret
        exact ⟨rfl, HB.out⟩
  · go_wp2_with fail
    refine (K.out.alive _ HB.out).mono ?_
    rintro e w3 ⟨rfl, hb⟩
    replace HB := Lib.hid (HB.out.trans (hb.mono HB.out.size))
    replace g0 := keep_cell hb g0
    replace g1 := keep_cell hb g1
    replace g2 := keep_cell hb g2
    clear hb
    go_wp2
    go_ret
    exact ⟨rfl, HB.out⟩

end Go.Proofs.YtfpidkcdgebnpaaGreatDoor
