/-
  RowFirst: the law's own walk.
-/
import Derived.Test.YtkljkpffpdpphaaGreatDoorGAlive
import Derived.Test.YtkljkpffpdpphaaGreatDoorRowCmp
import Derived.Test.YtkljkpffpdpphaaGreatDoorRowOrd
import Derived.Test.YtkljkpffpdpphaaGreatDoorSliceG
import Derived.RegionTactic
import Derived.BigRegion
import Derived.Deep.DeepCutAuto
set_option linter.unusedVariables false
set_option linter.unusedSimpArgs false
set_option maxRecDepth 1000000
namespace Go.Proofs.YtkljkpffpdpphaaGreatDoor
open Go.RowKit Go.Shelf

set_option maxHeartbeats 16000000 in
theorem rowFirst_walk (v0 : Value) (cs : List ColB) (x0 : Value) (a : List CellB) (x1 : Value) (b : List CellB) (w : World) (hR : RdC w v0 cs) (hC : CS cs) (h0 : RdE w x0 a) (hA : CES a) (h1 : RdE w x1 b) (hB : CES b) (hT : Tabs w) (hL : Lib4 w) (hX : Mx w) :
    Calls Tryz.prog 7 #[v0, .agg #[x0, x1]] w fun e w' => e = .returned (.bool true) ∧ Below w.heap.size w w' := by
  have hl := hR.len
  have hsm := hR.small
  have R := Lib.hid (fun wz (hz : Below w.heap.size w wz) => hR.later hz (Nat.le_refl _))
  have Q0 := Lib.hid (fun wz (hz : Below w.heap.size w wz) => h0.later hz (Nat.le_refl _))
  have Q1 := Lib.hid (fun wz (hz : Below w.heap.size w wz) => h1.later hz (Nat.le_refl _))
  have AL := Lib.hid (fun wz (hz : Below w.heap.size w wz) => law06_alive wz (hL.later hz) (hX.later hz))
  have GR := Lib.hid (fun wz (hz : Below w.heap.size w wz) => great_two x0 x1 a b wz (fun wy hy => Q0.out wy (hz.trans (hy.mono hz.size))) (fun wy hy => Q1.out wy (hz.trans (hy.mono hz.size))))
  obtain ⟨n, hn⟩ : ∃ n, n = cs.length := ⟨_, rfl⟩
  obtain ⟨na, hna⟩ : ∃ n, n = a.length := ⟨_, rfl⟩
  obtain ⟨nb, hnb⟩ : ∃ n, n = b.length := ⟨_, rfl⟩
  have HLAWS := Lib.hid (show errRow cs a = 0 → errRow cs b = 0 → na = n ∧ nb = n ∧ (2 ≤ n → cmpR cs a b = if cmpR (cs.take (n - 1)) (a.take (n - 1)) (b.take (n - 1)) ≠ 0 then cmpR (cs.take (n - 1)) (a.take (n - 1)) (b.take (n - 1)) else cmpR (cs.drop (n - 1)) (a.drop (n - 1)) (b.drop (n - 1))) from fun ea eb =>
    ⟨by rw [hna, hn]; exact (errRow_len ea).2.1, by rw [hnb, hn]; exact (errRow_len eb).2.1, fun h2 => cmpR_parts ea eb (by omega) (by omega)⟩)
  obtain ⟨e1, he1⟩ : ∃ e1 : Nat, e1 = errRow cs a := ⟨_, rfl⟩
  obtain ⟨e2, he2⟩ : ∃ e2 : Nat, e2 = errRow cs b := ⟨_, rfl⟩
  obtain ⟨X, hXX⟩ : ∃ X : Int, X = cmpR cs a b := ⟨_, rfl⟩
  obtain ⟨Y, hYY⟩ : ∃ Y : Int, Y = cmpR (cs.take (n - 1)) (a.take (n - 1)) (b.take (n - 1)) := ⟨_, rfl⟩
  obtain ⟨Z, hZZ⟩ : ∃ Z : Int, Z = cmpR (cs.drop (n - 1)) (a.drop (n - 1)) (b.drop (n - 1)) := ⟨_, rfl⟩
  have K1 := Lib.hid (fun wz (h : Below w.heap.size w wz) => row_Check v0 x0 cs a wz (R.out wz h) (Q0.out wz h) hC hA (hT.later h))
  have K2 := Lib.hid (fun wz (h : Below w.heap.size w wz) => row_Check v0 x1 cs b wz (R.out wz h) (Q1.out wz h) hC hB (hT.later h))
  have M1 := Lib.hid (fun wz (h : Below w.heap.size w wz) => row_Compare v0 x0 x1 cs a b wz (R.out wz h) (Q0.out wz h) (Q1.out wz h) hC hA hB (hT.later h))
  have SL := Lib.hid (show ∀ m, m ≤ n → m ≤ na → m ≤ nb → (∃ u0 u1 u2, (∀ u, (Instr.slice 22 v0 none (some (.int .i64 (m : Int))) none).run Tryz.prog u = .ok u0 u) ∧ (∀ u, (Instr.slice 23 x0 none (some (.int .i64 (m : Int))) none).run Tryz.prog u = .ok u1 u) ∧ (∀ u, (Instr.slice 23 x1 none (some (.int .i64 (m : Int))) none).run Tryz.prog u = .ok u2 u) ∧
      ∀ wz, Below w.heap.size w wz → Calls Tryz.prog 12 #[u0, u1, u2] wz fun e w' => e = .returned (.int .i64 (cmpR (cs.take m) (a.take m) (b.take m))) ∧ Below wz.heap.size wz w') from fun m g1 g2 g3 => by
    obtain ⟨u0, r0, t0⟩ := RdG.upto colOk hR m (by rw [List.length_map]; omega)
    obtain ⟨u1, r1, t1⟩ := RdG.upto cellOk h0 m (by rw [List.length_map]; omega)
    obtain ⟨u2, r2, t2⟩ := RdG.upto cellOk h1 m (by rw [List.length_map]; omega)
    refine ⟨u0, u1, u2, r0, r1, r2, fun wz h => ?_⟩
    have z0 := t0 wz (R.out wz h)
    have z1 := t1 wz (Q0.out wz h)
    have z2 := t2 wz (Q1.out wz h)
    rw [← List.map_take] at z0 z1 z2
    exact row_Compare u0 u1 u2 _ _ _ wz z0 z1 z2 (fun c hc => hC c (List.mem_of_mem_take hc)) (fun c hc => hA c (List.mem_of_mem_take hc)) (fun c hc => hB c (List.mem_of_mem_take hc)) (hT.later h))
  have SR := Lib.hid (show ∀ m, m ≤ n → m ≤ na → m ≤ nb → (∃ u0 u1 u2, (∀ u, (Instr.slice 22 v0 (some (.int .i64 (m : Int))) none none).run Tryz.prog u = .ok u0 u) ∧ (∀ u, (Instr.slice 23 x0 (some (.int .i64 (m : Int))) none none).run Tryz.prog u = .ok u1 u) ∧ (∀ u, (Instr.slice 23 x1 (some (.int .i64 (m : Int))) none none).run Tryz.prog u = .ok u2 u) ∧
      ∀ wz, Below w.heap.size w wz → Calls Tryz.prog 12 #[u0, u1, u2] wz fun e w' => e = .returned (.int .i64 (cmpR (cs.drop m) (a.drop m) (b.drop m))) ∧ Below wz.heap.size wz w') from fun m g1 g2 g3 => by
    obtain ⟨u0, r0, t0⟩ := RdG.from colOk hR m (by rw [List.length_map]; omega)
    obtain ⟨u1, r1, t1⟩ := RdG.from cellOk h0 m (by rw [List.length_map]; omega)
    obtain ⟨u2, r2, t2⟩ := RdG.from cellOk h1 m (by rw [List.length_map]; omega)
    refine ⟨u0, u1, u2, r0, r1, r2, fun wz h => ?_⟩
    have z0 := t0 wz (R.out wz h)
    have z1 := t1 wz (Q0.out wz h)
    have z2 := t2 wz (Q1.out wz h)
    rw [← List.map_drop] at z0 z1 z2
    exact row_Compare u0 u1 u2 _ _ _ wz z0 z1 z2 (fun c hc => hC c (List.mem_of_mem_drop hc)) (fun c hc => hA c (List.mem_of_mem_drop hc)) (fun c hc => hB c (List.mem_of_mem_drop hc)) (hT.later h))
  rw [← he1] at K1
  rw [← he2] at K2
  rw [← hXX] at M1
  replace HLAWS := Lib.hid (show e1 = 0 → e2 = 0 → na = n ∧ nb = n ∧ (2 ≤ n → (Y ≠ 0 → X = Y) ∧ (Y = 0 → X = Z)) from fun ea eb => by
    obtain ⟨g1, g2, g3⟩ := HLAWS.out (he1.symm.trans ea) (he2.symm.trans eb)
    refine ⟨g1, g2, fun h2 => ?_⟩
    have g4 := g3 h2
    rw [← hXX, ← hYY, ← hZZ] at g4
    exact ⟨fun hy => by rw [g4, if_pos hy], fun hy => by rw [g4, if_neg (by omega)]⟩)
  obtain ⟨ao0, cap0, hv0, _⟩ := RdG.shape h0
  obtain ⟨ao1, cap1, hv1, _⟩ := RdG.shape h1
  rw [List.length_map, ← hna] at hv0
  rw [List.length_map, ← hnb] at hv1
  rw [← hn] at hl hsm
  have HYY := Lib.hid hYY
  have HZZ := Lib.hid hZZ
  subst hv0 hv1
  clear hR h0 h1 hL hX hT he1 he2 hXX hYY hZZ R Q0 Q1 hna hnb hn
  obtain ⟨N0, N1, N2⟩ := new1 w (.cells #[.slice ao0 na cap0, .slice ao1 nb cap1] 46)
  obtain ⟨w0, hw0⟩ : ∃ w0, w0 = w.alloc (.cells #[.slice ao0 na cap0, .slice ao1 nb cap1] 46) := ⟨_, rfl⟩
  rw [← hw0] at N0 N1 N2
  have a0 := new_cellC (i := 0) N1 rfl
  have a1 := new_cellC (i := 1) N1 rfl
  go_enter Tryz.func7, Tryz.ntmps7
  go_upto_region 1 with fail
  rw [← hw0]
  clear hw0
  go_cut [5, 6] (fun p5 p6 wx => Hid (p5 = .slice ao0 na cap0 ∧ p6 = .slice ao1 nb cap1 ∧ Below w.heap.size w wx))
  case first =>
    go_region
    all_goals (go_wp2_with fail; go_meet)
    all_goals exact Lib.hid ⟨rfl, rfl, N2.drew⟩
  case rest =>
    obtain ⟨rfl, rfl, hbw⟩ := hcut.out
    have HB0 := Lib.hid hbw
    clear hcut hbw a0 a1 N0 N1 N2
    go_wp2_with fail
    refine (AL.out _ HB0.out).mono ?_
    rintro e w1 ⟨rfl, hb⟩
    have HB1 := Lib.hid (HB0.out.trans (hb.mono HB0.out.size))
    clear hb
    go_wp2_with fail
    refine (GR.out w1 HB1.out).mono ?_
    rintro e w2 ⟨g1, rfl, hb⟩
    have HB2 := Lib.hid (HB1.out.trans (hb.mono HB1.out.size))
    clear hb
    by_cases hg : g1 = true
    · subst hg
      go_wp2_with fail
      refine (AL.out w2 HB2.out).mono ?_
      rintro e w3 ⟨rfl, hb⟩
      have HB3 := Lib.hid (HB2.out.trans (hb.mono HB2.out.size))
      clear hb
      go_wp2
      go_ret
      exact ⟨rfl, HB3.out⟩
    · obtain rfl : g1 = false := by simpa using hg
      clear hg
      go_wp2_with fail
      refine (K1.out w2 HB2.out).mono ?_
      rintro e w3 ⟨rfl, hb⟩
      have HB3 := Lib.hid (HB2.out.trans (hb.mono HB2.out.size))
      clear hb
      by_cases hz1 : e1 = 0
      · have HZ1 := Lib.hid hz1
        obtain rfl := hz1
        go_wp2_with fail
        refine (K2.out w3 HB3.out).mono ?_
        rintro e w4 ⟨rfl, hb⟩
        have HB4 := Lib.hid (HB3.out.trans (hb.mono HB3.out.size))
        clear hb
        by_cases hz2 : e2 = 0
        · have HZ2 := Lib.hid hz2
          obtain rfl := hz2
          obtain ⟨g1, g2, g3⟩ := HLAWS.out (by simp) (by simp)
          clear HLAWS HZ1 HZ2
          obtain rfl : n = na := g1.symm
          obtain rfl : n = nb := g2.symm
          clear g1 g2
          have qn : ((n : Int) != (n : Int)) = false := by simp
          by_cases hn2 : n < 2
          · have d2 : decide ((n : Int) < 2) = true := decide_eq_true (by omega)
            clear g3
            go_wp2_with fail
            refine (AL.out w4 HB4.out).mono ?_
            rintro e w5 ⟨rfl, hb⟩
            have HB5 := Lib.hid (HB4.out.trans (hb.mono HB4.out.size))
            clear hb
            go_wp2
            go_ret
            exact ⟨rfl, HB5.out⟩
          · have d2 : decide ((n : Int) < 2) = false := decide_eq_false (by omega)
            obtain ⟨m, hm⟩ : ∃ m, m = n - 1 := ⟨_, rfl⟩
            obtain ⟨g3, g4⟩ := g3 (by omega)
            obtain ⟨u0, u1, u2, s0, s1, s2, M2⟩ := SL.out m (by omega) (by omega) (by omega)
            obtain ⟨u3, u4, u5, s3, s4, s5, M3⟩ := SR.out m (by omega) (by omega) (by omega)
            have HYY' := HYY.out
            have HZZ' := HZZ.out
            rw [← hm] at HYY' HZZ'
            rw [← HYY'] at M2
            rw [← HZZ'] at M3
            replace M2 := Lib.hid M2
            replace M3 := Lib.hid M3
            clear SL SR HYY HZZ HYY' HZZ'
            have HG3 := Lib.hid g3
            have HG4 := Lib.hid g4
            have HM := Lib.hid (show n = m + 1 by omega)
            clear g3 g4 hn2 hm
            go_upto_region 4 with fail
            go_cut [7] (fun p7 wx => Hid (p7 = .int .i64 (m : Int) ∧ Below w.heap.size w wx))
            case first =>
              have HM' := HM.out
              go_wp2_with fail
              go_meet
              exact Lib.hid ⟨by go_num, HB4.out⟩
            case rest =>
              obtain ⟨rfl, hbw⟩ := hcut.out
              have HB := Lib.hid hbw
              clear hcut hbw HB1 HB2 HB3 HB4 HB0
              go_wp2_with fail
              replace HB := Lib.hid HB.out.drew
              refine Ord.wp_region_ord [(0, false), (1, false), (2, false), (4, false), (5, false), (6, false), (7, false), (8, false), (9, false), (10, false), (11, false), (12, false), (3, true), (13, true), (14, false), (15, false)] (by kernel_rfl) rfl (by kernel_rfl) (by kernel_rfl) (fun _ _ _ d _ h => by cases d <;> exact h) ?_
              refine Ord.ord_still rfl rfl (by kernel_rfl) (fun K hK => ?_)
              go_big_quiet_op
              refine hK _ ?_; clear hK K
              refine Ord.ord_still rfl rfl (by kernel_rfl) (fun K hK => ?_)
              go_big_quiet_op
              refine hK _ ?_; clear hK K
              refine Ord.ord_still rfl rfl (by kernel_rfl) (fun K hK => ?_)
              go_big_quiet_op
              refine hK _ ?_; clear hK K
              refine Ord.ord_still rfl rfl (by kernel_rfl) (fun K hK => ?_)
              go_big_quiet_op
              refine hK _ ?_; clear hK K
              refine Ord.ord_still rfl rfl (by kernel_rfl) (fun K hK => ?_)
              go_big_quiet_op
              refine hK _ ?_; clear hK K
              refine Ord.ord_still rfl rfl (by kernel_rfl) (fun K hK => ?_)
              go_big_quiet_op
              refine hK _ ?_; clear hK K
              refine Ord.ord_still rfl rfl (by kernel_rfl) (fun K hK => ?_)
              go_big_quiet_op
              refine hK _ ?_; clear hK K
              refine Ord.ord_still rfl rfl (by kernel_rfl) (fun K hK => ?_)
              go_big_quiet_op
              refine hK _ ?_; clear hK K
              refine Ord.ord_still rfl rfl (by kernel_rfl) (fun K hK => ?_)
              go_big_quiet_op
              refine hK _ ?_; clear hK K
              refine Ord.ord_still rfl rfl (by kernel_rfl) (fun K hK => ?_)
              go_big_quiet_op
              refine hK _ ?_; clear hK K
              refine Ord.ord_still rfl rfl (by kernel_rfl) (fun K hK => ?_)
              go_big_quiet_op
              refine hK _ ?_; clear hK K
              refine Ord.ord_still rfl rfl (by kernel_rfl) (fun K hK => ?_)
              go_big_quiet_op
              refine hK _ ?_; clear hK K
              refine Ord.ord_loud rfl (by kernel_rfl) (fun K hK => ?_)
              go_big_op
              refine (M1.out _ HB.out).mono ?_
              rintro e w5 ⟨rfl, hb⟩
              replace HB := Lib.hid (HB.out.trans (hb.mono HB.out.size))
              refine hK _ _ hb ?_
              clear hb
              clear hK K
              refine Ord.ord_loud rfl (by kernel_rfl) (fun K hK => ?_)
              go_big_op
              refine (M2.out _ HB.out).mono ?_
              rintro e w6 ⟨rfl, hb⟩
              replace HB := Lib.hid (HB.out.trans (hb.mono HB.out.size))
              refine hK _ _ hb ?_
              clear hb
              clear hK K
              refine Ord.ord_still rfl rfl (by kernel_rfl) (fun K hK => ?_)
              go_big_quiet_op
              refine hK _ ?_; clear hK K
              refine Ord.ord_still rfl rfl (by kernel_rfl) (fun K hK => ?_)
              go_big_quiet_op
              refine hK _ ?_; clear hK K
              refine Ord.ord_nil ?_
              by_cases hy : Y = 0
              · have hxz := HG4.out hy
                obtain rfl := hy
                obtain rfl := hxz
                clear s0 s1 s2 HG3 HG4
                go_wp2_with fail
                replace HB := Lib.hid HB.out.drew
                refine Ord.wp_region_ord [(0, false), (1, false), (2, false), (3, false), (4, false), (5, false), (6, false), (7, false), (8, false), (9, true), (10, false)] (by kernel_rfl) rfl (by kernel_rfl) (by kernel_rfl) (fun _ _ _ d _ h => by cases d <;> exact h) ?_
                refine Ord.ord_still rfl rfl (by kernel_rfl) (fun K hK => ?_)
                go_big_quiet_op
                refine hK _ ?_; clear hK K
                refine Ord.ord_still rfl rfl (by kernel_rfl) (fun K hK => ?_)
                go_big_quiet_op
                refine hK _ ?_; clear hK K
                refine Ord.ord_still rfl rfl (by kernel_rfl) (fun K hK => ?_)
                go_big_quiet_op
                refine hK _ ?_; clear hK K
                refine Ord.ord_still rfl rfl (by kernel_rfl) (fun K hK => ?_)
                go_big_quiet_op
                refine hK _ ?_; clear hK K
                refine Ord.ord_still rfl rfl (by kernel_rfl) (fun K hK => ?_)
                go_big_quiet_op
                refine hK _ ?_; clear hK K
                refine Ord.ord_still rfl rfl (by kernel_rfl) (fun K hK => ?_)
                go_big_quiet_op
                refine hK _ ?_; clear hK K
                refine Ord.ord_still rfl rfl (by kernel_rfl) (fun K hK => ?_)
                go_big_quiet_op
                refine hK _ ?_; clear hK K
                refine Ord.ord_still rfl rfl (by kernel_rfl) (fun K hK => ?_)
                go_big_quiet_op
                refine hK _ ?_; clear hK K
                refine Ord.ord_still rfl rfl (by kernel_rfl) (fun K hK => ?_)
                go_big_quiet_op
                refine hK _ ?_; clear hK K
                refine Ord.ord_loud rfl (by kernel_rfl) (fun K hK => ?_)
                go_big_op
                refine (M3.out _ HB.out).mono ?_
                rintro e w7 ⟨rfl, hb⟩
                replace HB := Lib.hid (HB.out.trans (hb.mono HB.out.size))
                refine hK _ _ hb ?_
                clear hb
                clear hK K
                refine Ord.ord_still rfl rfl (by kernel_rfl) (fun K hK => ?_)
                go_big_quiet_op
                refine hK _ ?_; clear hK K
                refine Ord.ord_nil ?_
                go_wp2
                go_ret
                exact ⟨rfl, HB.out⟩
              · have q : (Y != 0) = true := by rw [bne_iff_ne]; exact hy
                obtain rfl := HG3.out hy
                go_wp2
                go_ret
                exact ⟨rfl, HB.out⟩
        · have q : ((e2 : Int) != 0) = true := by rw [bne_iff_ne]; omega
          go_wp2_with fail
          refine (AL.out w4 HB4.out).mono ?_
          rintro e w5 ⟨rfl, hb⟩
          have HB5 := Lib.hid (HB4.out.trans (hb.mono HB4.out.size))
          clear hb
          go_wp2
          go_ret
          exact ⟨rfl, HB5.out⟩
      · have q : ((e1 : Int) != 0) = true := by rw [bne_iff_ne]; omega
        go_wp2_with fail
        refine (AL.out w3 HB3.out).mono ?_
        rintro e w4 ⟨rfl, hb⟩
        have HB4 := Lib.hid (HB3.out.trans (hb.mono HB3.out.size))
        clear hb
        go_wp2
        go_ret
        exact ⟨rfl, HB4.out⟩
end Go.Proofs.YtkljkpffpdpphaaGreatDoor
