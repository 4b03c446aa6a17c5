/-
  RowOrder: the law's own walk.
-/
import Derived.Test.YtkljkpffpdpphaaGreatDoorGAlive
import Derived.Test.YtkljkpffpdpphaaGreatDoorRowCmp
import Derived.Test.YtkljkpffpdpphaaGreatDoorRowSame
import Derived.Test.YtkljkpffpdpphaaGreatDoorRowOrd
import Derived.RegionTactic
import Derived.BigRegion
import Derived.Deep.DeepCutAuto
set_option linter.unusedVariables false
set_option linter.unusedSimpArgs false
set_option maxRecDepth 1000000
namespace Go.Proofs.YtkljkpffpdpphaaGreatDoor
open Go.RowKit Go.Shelf

theorem great_three (v2 v3 v4 : Value) (a b d : List CellB) (w : World) (h2 : ∀ wz, Below w.heap.size w wz → RdE wz v2 a) (h3 : ∀ wz, Below w.heap.size w wz → RdE wz v3 b) (h4 : ∀ wz, Below w.heap.size w wz → RdE wz v4 d) :
    Calls Tryz.prog 9 #[.slice (some ⟨w.heap.size, 0, none⟩) 3 3] (w.alloc (.cells #[v2, v3, v4] 23)) fun e w' => ∃ q, e = .returned (.bool q) ∧ Below w.heap.size w w' := by
  obtain ⟨N0, N1, N2⟩ := new1 w (.cells #[v2, v3, v4] 23)
  refine (law06_great _ [v2, v3, v4] [a, b, d] _ (rdRows_block (vals := [v2, v3, v4]) N1 (by simp)) ?_).mono ?_
  · intro i hi wz hz
    have hi : i < 3 := hi
    have hz' := N2.trans (hz.mono N2.size)
    obtain rfl | rfl | rfl : i = 0 ∨ i = 1 ∨ i = 2 := by omega
    · exact h2 wz hz'
    · exact h3 wz hz'
    · exact h4 wz hz'
  · rintro e w' ⟨q, rfl, hb⟩
    exact ⟨q, rfl, N2.trans (hb.mono N2.size)⟩

set_option maxHeartbeats 16000000 in
theorem rowOrder_walk (v0 : Value) (cs : List ColB) (x0 : Value) (a : List CellB) (x1 : Value) (b : List CellB) (x2 : Value) (d : List CellB) (w : World) (hR : RdC w v0 cs) (hC : CS cs) (h0 : RdE w x0 a) (hA : CES a) (h1 : RdE w x1 b) (hB : CES b) (h2 : RdE w x2 d) (hD : CES d) (hT : Tabs w) (hL : Lib4 w) (hX : Mx w) :
    Calls Tryz.prog 5 #[v0, .agg #[x0, x1, x2]] w fun e w' => e = .returned (.bool true) ∧ Below w.heap.size w w' := by
  have R := Lib.hid (fun wz (hz : Below w.heap.size w wz) => hR.later hz (Nat.le_refl _))
  have Q0 := Lib.hid (fun wz (hz : Below w.heap.size w wz) => h0.later hz (Nat.le_refl _))
  have Q1 := Lib.hid (fun wz (hz : Below w.heap.size w wz) => h1.later hz (Nat.le_refl _))
  have Q2 := Lib.hid (fun wz (hz : Below w.heap.size w wz) => h2.later hz (Nat.le_refl _))
  have AL := Lib.hid (fun wz (hz : Below w.heap.size w wz) => law06_alive wz (hL.later hz) (hX.later hz))
  have GR := Lib.hid (fun wz (hz : Below w.heap.size w wz) => great_three x0 x1 x2 a b d wz (fun wy hy => Q0.out wy (hz.trans (hy.mono hz.size))) (fun wy hy => Q1.out wy (hz.trans (hy.mono hz.size))) (fun wy hy => Q2.out wy (hz.trans (hy.mono hz.size))))
  have HLAWS := Lib.hid (show errRow cs a = 0 → errRow cs b = 0 → errRow cs d = 0 → cmpR cs b a = -cmpR cs a b ∧ (cmpR cs a b = 0 ↔ a = b) ∧ (-1 ≤ cmpR cs a b ∧ cmpR cs a b ≤ 1) ∧ (cmpR cs a b ≤ 0 → cmpR cs b d ≤ 0 → cmpR cs a d ≤ 0 ∧ ((cmpR cs a b < 0 ∨ cmpR cs b d < 0) → cmpR cs a d < 0)) from fun ea eb ed => by
    have oa := okR_row hA ea
    have ob := okR_row hB eb
    have od := okR_row hD ed
    rw [cmpR_row ea eb, cmpR_row eb ea, cmpR_row eb ed, cmpR_row ea ed]
    have := cmpL_flip oa ob
    exact ⟨by omega, cmpL_zero oa ob, cmpL_small oa ob, cmpL_trans oa ob od⟩)
  obtain ⟨e1, he1⟩ : ∃ e1 : Nat, e1 = errRow cs a := ⟨_, rfl⟩
  obtain ⟨e2, he2⟩ : ∃ e2 : Nat, e2 = errRow cs b := ⟨_, rfl⟩
  obtain ⟨e3, he3⟩ : ∃ e3 : Nat, e3 = errRow cs d := ⟨_, rfl⟩
  obtain ⟨X, hXX⟩ : ∃ X : Int, X = cmpR cs a b := ⟨_, rfl⟩
  obtain ⟨X', hXX'⟩ : ∃ X' : Int, X' = cmpR cs b a := ⟨_, rfl⟩
  obtain ⟨Y, hYY⟩ : ∃ Y : Int, Y = cmpR cs b d := ⟨_, rfl⟩
  obtain ⟨Z, hZZ⟩ : ∃ Z : Int, Z = cmpR cs a d := ⟨_, rfl⟩
  obtain ⟨S, hS⟩ : ∃ S : Bool, S = decide (a = b) := ⟨_, rfl⟩
  have K1 := Lib.hid (fun wz (h : Below w.heap.size w wz) => row_Check v0 x0 cs a wz (R.out wz h) (Q0.out wz h) hC hA (hT.later h))
  have K2 := Lib.hid (fun wz (h : Below w.heap.size w wz) => row_Check v0 x1 cs b wz (R.out wz h) (Q1.out wz h) hC hB (hT.later h))
  have K3 := Lib.hid (fun wz (h : Below w.heap.size w wz) => row_Check v0 x2 cs d wz (R.out wz h) (Q2.out wz h) hC hD (hT.later h))
  have M1 := Lib.hid (fun wz (h : Below w.heap.size w wz) => row_Compare v0 x0 x1 cs a b wz (R.out wz h) (Q0.out wz h) (Q1.out wz h) hC hA hB (hT.later h))
  have M2 := Lib.hid (fun wz (h : Below w.heap.size w wz) => row_Compare v0 x1 x2 cs b d wz (R.out wz h) (Q1.out wz h) (Q2.out wz h) hC hB hD (hT.later h))
  have M3 := Lib.hid (fun wz (h : Below w.heap.size w wz) => row_Compare v0 x0 x2 cs a d wz (R.out wz h) (Q0.out wz h) (Q2.out wz h) hC hA hD (hT.later h))
  have M4 := Lib.hid (fun wz (h : Below w.heap.size w wz) => row_Compare v0 x1 x0 cs b a wz (R.out wz h) (Q1.out wz h) (Q0.out wz h) hC hB hA (hT.later h))
  have M5 := Lib.hid (fun wz (h : Below w.heap.size w wz) => row_Same x0 x1 a b wz (Q0.out wz h) (Q1.out wz h))
  rw [← he1] at K1
  rw [← he2] at K2
  rw [← he3] at K3
  rw [← hXX] at M1
  rw [← hYY] at M2
  rw [← hZZ] at M3
  rw [← hXX'] at M4
  rw [← hS] at M5
  replace HLAWS := Lib.hid (show e1 = 0 → e2 = 0 → e3 = 0 → X' = -X ∧ S = decide (X = 0) ∧ (-1 ≤ X ∧ X ≤ 1) ∧ (X ≤ 0 → Y ≤ 0 → Z ≤ 0 ∧ ((X < 0 ∨ Y < 0) → Z < 0)) from fun ea eb ed => by
    obtain ⟨g1, g2, g3, g4⟩ := HLAWS.out (he1.symm.trans ea) (he2.symm.trans eb) (he3.symm.trans ed)
    rw [hXX', hXX, hYY, hZZ, hS]
    exact ⟨g1, decide_eq_decide.2 g2.symm, g3, g4⟩)
  obtain ⟨ao0, cap0, hv0, _⟩ := RdG.shape h0
  obtain ⟨ao1, cap1, hv1, _⟩ := RdG.shape h1
  obtain ⟨ao2, cap2, hv2, _⟩ := RdG.shape h2
  generalize (a.map cellVs).length = n0 at hv0
  generalize (b.map cellVs).length = n1 at hv1
  generalize (d.map cellVs).length = n2 at hv2
  subst hv0 hv1 hv2
  clear hR h0 h1 h2 hL hX hT he1 he2 he3 hXX hXX' hYY hZZ hS R Q0 Q1 Q2
  obtain ⟨y0, hy0⟩ : ∃ y, y = Value.slice ao0 n0 cap0 := ⟨_, rfl⟩
  obtain ⟨y1, hy1⟩ : ∃ y, y = Value.slice ao1 n1 cap1 := ⟨_, rfl⟩
  obtain ⟨y2, hy2⟩ : ∃ y, y = Value.slice ao2 n2 cap2 := ⟨_, rfl⟩
  obtain ⟨N0, N1, N2⟩ := new1 w (.cells #[.slice ao0 n0 cap0, .slice ao1 n1 cap1, .slice ao2 n2 cap2] 41)
  obtain ⟨w0, hw0⟩ : ∃ w0, w0 = w.alloc (.cells #[.slice ao0 n0 cap0, .slice ao1 n1 cap1, .slice ao2 n2 cap2] 41) := ⟨_, rfl⟩
  rw [← hw0] at N0 N1 N2
  have a0 := new_cellC (i := 0) N1 rfl
  have a1 := new_cellC (i := 1) N1 rfl
  have a2 := new_cellC (i := 2) N1 rfl
  go_enter Tryz.func5, Tryz.ntmps5
  go_upto_region 1 with fail
  rw [← hw0]
  clear hw0
  go_cut [5, 6, 7] (fun p5 p6 p7 wx => Hid (p5 = .slice ao0 n0 cap0 ∧ p6 = .slice ao1 n1 cap1 ∧ p7 = .slice ao2 n2 cap2 ∧ Below w.heap.size w wx))
  case first =>
    go_region
    all_goals (go_wp2_with fail; go_meet)
    all_goals exact Lib.hid ⟨rfl, rfl, rfl, N2.drew⟩
  case rest =>
    obtain ⟨rfl, rfl, rfl, hbw⟩ := hcut.out
    have HB0 := Lib.hid hbw
    clear hcut hbw a0 a1 a2 N0 N1 N2 hy0 hy1 hy2
    go_wp2_with fail
    refine (AL.out _ HB0.out).mono ?_
    rintro e w1 ⟨rfl, hb⟩
    have HB1 := Lib.hid (HB0.out.trans (hb.mono HB0.out.size))
    clear hb
    go_wp2_with fail
    refine (GR.out w1 HB1.out).mono ?_
    rintro e w2 ⟨g1, rfl, hb⟩
    have HB2 := Lib.hid (HB1.out.trans (hb.mono HB1.out.size))
    clear hb
    by_cases hg : g1 = true
    · subst hg
      go_wp2_with fail
      refine (AL.out w2 HB2.out).mono ?_
      rintro e w3 ⟨rfl, hb⟩
      have HB3 := Lib.hid (HB2.out.trans (hb.mono HB2.out.size))
      clear hb
      go_wp2
      go_ret
      exact ⟨rfl, HB3.out⟩
    · obtain rfl : g1 = false := by simpa using hg
      clear hg
      go_wp2_with fail
      refine (K1.out w2 HB2.out).mono ?_
      rintro e w3 ⟨rfl, hb⟩
      have HB3 := Lib.hid (HB2.out.trans (hb.mono HB2.out.size))
      clear hb
      by_cases hz1 : e1 = 0
      · have HZ1 := Lib.hid hz1
        obtain rfl := hz1
        go_wp2_with fail
        refine (K2.out w3 HB3.out).mono ?_
        rintro e w4 ⟨rfl, hb⟩
        have HB4 := Lib.hid (HB3.out.trans (hb.mono HB3.out.size))
        clear hb
        by_cases hz2 : e2 = 0
        · have HZ2 := Lib.hid hz2
          obtain rfl := hz2
          go_wp2_with fail
          refine (K3.out w4 HB4.out).mono ?_
          rintro e w5 ⟨rfl, hb⟩
          have HB5 := Lib.hid (HB4.out.trans (hb.mono HB4.out.size))
          clear hb
          by_cases hz3 : e3 = 0
          · obtain rfl := hz3
            obtain ⟨g1, g2, g3, g4⟩ := HLAWS.out (by simp) (by simp) (by simp)
            have HL4 := Lib.hid g4
            clear HLAWS HZ1 HZ2 g4
            go_wp2_with fail
            refine (M1.out w5 HB5.out).mono ?_
            rintro e w6 ⟨rfl, hb⟩
            have HB6 := Lib.hid (HB5.out.trans (hb.mono HB5.out.size))
            clear hb
            go_wp2_with fail
            refine (M2.out w6 HB6.out).mono ?_
            rintro e w7 ⟨rfl, hb⟩
            have HB7 := Lib.hid (HB6.out.trans (hb.mono HB6.out.size))
            clear hb
            go_wp2_with fail
            refine (M3.out w7 HB7.out).mono ?_
            rintro e w8 ⟨rfl, hb⟩
            have HB8 := Lib.hid (HB7.out.trans (hb.mono HB7.out.size))
            clear hb
            obtain rfl | rfl | rfl : X = 1 ∨ X = 0 ∨ X = -1 := by omega
            · obtain rfl : X' = -1 := by omega
              obtain rfl : S = false := by rw [g2]; decide
              clear g1 g2 g3
              clear HL4
              go_wp2_with fail
              refine (M4.out w8 HB8.out).mono ?_
              rintro e w9 ⟨rfl, hb⟩
              have HB9 := Lib.hid (HB8.out.trans (hb.mono HB8.out.size))
              clear hb
              go_wp2_with fail
              refine (M5.out w9 HB9.out).mono ?_
              rintro e w10 ⟨rfl, hb⟩
              have HB10 := Lib.hid (HB9.out.trans (hb.mono HB9.out.size))
              clear hb
              go_wp2
              go_ret
              exact ⟨rfl, HB10.out⟩
            · obtain rfl : X' = 0 := by omega
              obtain rfl : S = true := by rw [g2]; decide
              clear g1 g2 g3
              by_cases hy : Y > 0
              · have dy : decide (Y > 0) = true := decide_eq_true hy
                clear HL4 hy
                go_wp2_with fail
                refine (M4.out w8 HB8.out).mono ?_
                rintro e w9 ⟨rfl, hb⟩
                have HB9 := Lib.hid (HB8.out.trans (hb.mono HB8.out.size))
                clear hb
                go_wp2_with fail
                refine (M5.out w9 HB9.out).mono ?_
                rintro e w10 ⟨rfl, hb⟩
                have HB10 := Lib.hid (HB9.out.trans (hb.mono HB9.out.size))
                clear hb
                go_wp2
                go_ret
                exact ⟨rfl, HB10.out⟩
              · have dy : decide (Y > 0) = false := decide_eq_false hy
                have dz : decide (Z ≤ 0) = true := decide_eq_true (HL4.out (by omega) (by omega)).1
                clear HL4 hy
                go_wp2_with fail
                refine (M4.out w8 HB8.out).mono ?_
                rintro e w9 ⟨rfl, hb⟩
                have HB9 := Lib.hid (HB8.out.trans (hb.mono HB8.out.size))
                clear hb
                go_wp2_with fail
                refine (M5.out w9 HB9.out).mono ?_
                rintro e w10 ⟨rfl, hb⟩
                have HB10 := Lib.hid (HB9.out.trans (hb.mono HB9.out.size))
                clear hb
                go_wp2
                go_ret
                exact ⟨rfl, HB10.out⟩
            · obtain rfl : X' = 1 := by omega
              obtain rfl : S = false := by rw [g2]; decide
              clear g1 g2 g3
              by_cases hy : Y > 0
              · have dy : decide (Y > 0) = true := decide_eq_true hy
                have dw : decide (Y ≥ 0) = true := decide_eq_true (by omega)
                clear HL4 hy
                go_wp2_with fail
                refine (M4.out w8 HB8.out).mono ?_
                rintro e w9 ⟨rfl, hb⟩
                have HB9 := Lib.hid (HB8.out.trans (hb.mono HB8.out.size))
                clear hb
                go_wp2_with fail
                refine (M5.out w9 HB9.out).mono ?_
                rintro e w10 ⟨rfl, hb⟩
                have HB10 := Lib.hid (HB9.out.trans (hb.mono HB9.out.size))
                clear hb
                go_wp2
                go_ret
                exact ⟨rfl, HB10.out⟩
              · have dy : decide (Y > 0) = false := decide_eq_false hy
                have dz : decide (Z ≤ 0) = true := decide_eq_true (HL4.out (by omega) (by omega)).1
                have dq : decide (Z < 0) = true := decide_eq_true ((HL4.out (by omega) (by omega)).2 (.inl (by omega)))
                clear HL4
                by_cases hy0 : Y ≥ 0
                · have dw : decide (Y ≥ 0) = true := decide_eq_true hy0
                  clear hy hy0
                  go_wp2_with fail
                  refine (M4.out w8 HB8.out).mono ?_
                  rintro e w9 ⟨rfl, hb⟩
                  have HB9 := Lib.hid (HB8.out.trans (hb.mono HB8.out.size))
                  clear hb
                  go_wp2_with fail
                  refine (M5.out w9 HB9.out).mono ?_
                  rintro e w10 ⟨rfl, hb⟩
                  have HB10 := Lib.hid (HB9.out.trans (hb.mono HB9.out.size))
                  clear hb
                  go_wp2
                  go_ret
                  exact ⟨rfl, HB10.out⟩
                · have dw : decide (Y ≥ 0) = false := decide_eq_false hy0
                  clear hy hy0
                  go_wp2_with fail
                  refine (M4.out w8 HB8.out).mono ?_
                  rintro e w9 ⟨rfl, hb⟩
                  have HB9 := Lib.hid (HB8.out.trans (hb.mono HB8.out.size))
                  clear hb
                  go_wp2_with fail
                  refine (M5.out w9 HB9.out).mono ?_
                  rintro e w10 ⟨rfl, hb⟩
                  have HB10 := Lib.hid (HB9.out.trans (hb.mono HB9.out.size))
                  clear hb
                  go_wp2
                  go_ret
                  exact ⟨rfl, HB10.out⟩
          · have q : ((e3 : Int) != 0) = true := by rw [bne_iff_ne]; omega
            go_wp2_with fail
            refine (AL.out w5 HB5.out).mono ?_
            rintro e w6 ⟨rfl, hb⟩
            have HB6 := Lib.hid (HB5.out.trans (hb.mono HB5.out.size))
            clear hb
            go_wp2
            go_ret
            exact ⟨rfl, HB6.out⟩
        · have q : ((e2 : Int) != 0) = true := by rw [bne_iff_ne]; omega
          go_wp2_with fail
          refine (AL.out w4 HB4.out).mono ?_
          rintro e w5 ⟨rfl, hb⟩
          have HB5 := Lib.hid (HB4.out.trans (hb.mono HB4.out.size))
          clear hb
          go_wp2
          go_ret
          exact ⟨rfl, HB5.out⟩
      · have q : ((e1 : Int) != 0) = true := by rw [bne_iff_ne]; omega
        go_wp2_with fail
        refine (AL.out w3 HB3.out).mono ?_
        rintro e w4 ⟨rfl, hb⟩
        have HB4 := Lib.hid (HB3.out.trans (hb.mono HB3.out.size))
        clear hb
        go_wp2
        go_ret
        exact ⟨rfl, HB4.out⟩
end Go.Proofs.YtkljkpffpdpphaaGreatDoor
