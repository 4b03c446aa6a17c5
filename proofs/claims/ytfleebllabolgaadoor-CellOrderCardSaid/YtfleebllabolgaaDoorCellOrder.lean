/-
  CellOrder: the order of any three cells of a kind goes both ways, goes on, and is one: the function.
-/
import Derived.Test.YtfleebllabolgaaDoorCellLaws
import Derived.RegionTactic
import Derived.BigRegion
import Derived.Deep.DeepCutAuto
set_option linter.unusedVariables false
set_option linter.unusedSimpArgs false
set_option maxRecDepth 1000000
namespace Go.Proofs.YtfleebllabolgaaDoor
open Go.RowKit Go.Shelf

set_option maxHeartbeats 16000000 in
theorem cellOrder_walk (kind : Int) (x y z : Nat) (s t u : ByteArray) (l m n : List UInt8) (w : World) (hk : -9223372036854775808 ≤ kind ∧ kind ≤ 9223372036854775807) (hn : x < 18446744073709551616 ∧ y < 18446744073709551616 ∧ z < 18446744073709551616) (hs : RdS s l) (ht : RdS t m) (hu : RdS u n) (hT : Tabs w) :
    Calls Tryd.prog 4 #[.int .i64 kind, .agg #[.int .u64 (x : Int), .string s, .int .u64 (y : Int), .string t, .int .u64 (z : Int), .string u]] w fun e w' => e = .returned (.bool true) ∧ Below w.heap.size w w' := by
  obtain ⟨N0, N1, N2⟩ := new1 w (.cells #[.int .u64 (x : Int), .string s, .int .u64 (y : Int), .string t, .int .u64 (z : Int), .string u] 33)
  obtain ⟨w0, hw0⟩ : ∃ w0, w0 = w.alloc (.cells #[.int .u64 (x : Int), .string s, .int .u64 (y : Int), .string t, .int .u64 (z : Int), .string u] 33) := ⟨_, rfl⟩
  rw [← hw0] at N0 N1 N2
  have hcv : ∀ n u, cellV n u = .agg #[.int .u64 (n : Int), .string u] := fun _ _ => rfl
  have a0 := new_cellC (i := 0) N1 rfl
  have a1 := new_cellC (i := 1) N1 rfl
  have a2 := new_cellC (i := 2) N1 rfl
  have a3 := new_cellC (i := 3) N1 rfl
  have a4 := new_cellC (i := 4) N1 rfl
  have a5 := new_cellC (i := 5) N1 rfl
  go_enter Tryd.func4, Tryd.ntmps4
  go_upto_region 1 with fail
  rw [← hw0]
  clear hw0
  go_cut [5, 6, 7] (fun p5 p6 p7 wx => Hid (∃ b5 b6 b7 : Nat, p5 = .pointer (some ⟨b5, 0, none⟩) ∧ p6 = .pointer (some ⟨b6, 0, none⟩) ∧ p7 = .pointer (some ⟨b7, 0, none⟩) ∧ CellAt wx b5 x s ∧ CellAt wx b6 y t ∧ CellAt wx b7 z u ∧ Below w.heap.size w wx))
  case first =>
    go_region
    all_goals (go_wp2_with fail; go_meet)
    all_goals (refine Lib.hid ⟨_, _, _, rfl, rfl, rfl, ?_, ?_, ?_, three_below N2 _ _ _⟩)
    all_goals first | exact (three_new w0 _ N0 _ _ _).1 | exact (three_new w0 _ N0 _ _ _).2.1 | exact (three_new w0 _ N0 _ _ _).2.2
  case rest =>
    obtain ⟨b5, b6, b7, rfl, rfl, rfl, q5, q6, q7, hbw⟩ := hcut.out
    have HB := Lib.hid hbw
    have c1 := q5.c0; have c2 := q5.c1; have c3 := q6.c0; have c4 := q6.c1; have c5 := q7.c0; have c6 := q7.c1
    clear hcut hbw a0 a1 a2 a3 a4 a5 N0 N1 N2
    go_wp2_with fail
    refine (cell_Check kind x s l _ hs (hT.later HB.out)).mono ?_
    rintro e w1 ⟨rfl, hb⟩
    replace q5 := q5.later hb
    replace q6 := q6.later hb
    replace q7 := q7.later hb
    replace HB := Lib.hid (HB.out.trans (hb.mono HB.out.size))
    clear hb c1 c2 c3 c4 c5 c6
    have c1 := q5.c0; have c2 := q5.c1; have c3 := q6.c0; have c4 := q6.c1; have c5 := q7.c0; have c6 := q7.c1
    obtain ⟨k1, hk1⟩ : ∃ k, checkC kind x l = k := ⟨_, rfl⟩
    rw [hk1]
    have HK1 := Lib.hid hk1
    clear hk1
    by_cases hz1 : k1 = 0
    · subst hz1
      go_wp2_with fail
      refine (cell_Check kind y t m _ ht (hT.later HB.out)).mono ?_
      rintro e w2 ⟨rfl, hb⟩
      replace q5 := q5.later hb
      replace q6 := q6.later hb
      replace q7 := q7.later hb
      replace HB := Lib.hid (HB.out.trans (hb.mono HB.out.size))
      clear hb c1 c2 c3 c4 c5 c6
      have c1 := q5.c0; have c2 := q5.c1; have c3 := q6.c0; have c4 := q6.c1; have c5 := q7.c0; have c6 := q7.c1
      obtain ⟨k2, hk2⟩ : ∃ k, checkC kind y m = k := ⟨_, rfl⟩
      rw [hk2]
      have HK2 := Lib.hid hk2
      clear hk2
      by_cases hz2 : k2 = 0
      · subst hz2
        go_wp2_with fail
        refine (cell_Check kind z u n _ hu (hT.later HB.out)).mono ?_
        rintro e w3 ⟨rfl, hb⟩
        replace q5 := q5.later hb
        replace q6 := q6.later hb
        replace q7 := q7.later hb
        replace HB := Lib.hid (HB.out.trans (hb.mono HB.out.size))
        clear hb c1 c2 c3 c4 c5 c6
        have c1 := q5.c0; have c2 := q5.c1; have c3 := q6.c0; have c4 := q6.c1; have c5 := q7.c0; have c6 := q7.c1
        obtain ⟨k3, hk3⟩ : ∃ k, checkC kind z n = k := ⟨_, rfl⟩
        rw [hk3]
        have HK3 := Lib.hid hk3
        clear hk3
        by_cases hz3 : k3 = 0
        · subst hz3
          obtain ⟨L1, L2, L3, L4, L5⟩ := cmpC_laws hn.1 hn.2.1 HK1.out HK2.out HK3.out
          obtain ⟨X, hX⟩ : ∃ X, cmpC kind x l y m = X := ⟨_, rfl⟩
          obtain ⟨X', hX'⟩ : ∃ X, cmpC kind y m x l = X := ⟨_, rfl⟩
          obtain ⟨Y, hY⟩ : ∃ Y, cmpC kind y m z n = Y := ⟨_, rfl⟩
          obtain ⟨Z, hZ⟩ : ∃ Z, cmpC kind x l z n = Z := ⟨_, rfl⟩
          rw [hX, hX'] at L1
          rw [hX] at L2 L3 L4 L5
          rw [hY, hZ] at L4 L5
          obtain rfl : X' = -X := by omega
          have HX' := Lib.hid hX'
          have HL := Lib.hid (And.intro L2 (And.intro L3 (And.intro L4 L5)))
          clear L1 L2 L3 L4 L5 hX' c1 c2 c3 c4 c5 c6
          go_wp2_with fail
          replace q5 : CellAt w3.drew b5 x s := q5
          replace q6 : CellAt w3.drew b6 y t := q6
          replace q7 : CellAt w3.drew b7 z u := q7
          replace HB := Lib.hid HB.out.drew
          have g1 := q5.g0; have g2 := q5.g1; have g3 := q6.g0; have g4 := q6.g1; have g5 := q7.g0; have g6 := q7.g1
          refine Ord.wp_region_ord [(0, false), (1, false), (2, false), (4, false), (5, false), (6, false), (8, false), (9, false), (10, false), (3, true), (7, true), (11, true), (12, false), (13, false), (14, false)] (by kernel_rfl) rfl (by kernel_rfl) (by kernel_rfl) (fun _ _ _ d _ h => by cases d <;> exact h) ?_
          refine Ord.ord_still rfl rfl (by kernel_rfl) (fun K hK => ?_)
          go_big_quiet_op
          refine hK _ ?_; clear hK K
          refine Ord.ord_still rfl rfl (by kernel_rfl) (fun K hK => ?_)
          go_big_quiet_op
          refine hK _ ?_; clear hK K
          refine Ord.ord_still rfl rfl (by kernel_rfl) (fun K hK => ?_)
          go_big_quiet_op
          refine hK _ ?_; clear hK K
          refine Ord.ord_still rfl rfl (by kernel_rfl) (fun K hK => ?_)
          go_big_quiet_op
          refine hK _ ?_; clear hK K
          refine Ord.ord_still rfl rfl (by kernel_rfl) (fun K hK => ?_)
          go_big_quiet_op
          refine hK _ ?_; clear hK K
          refine Ord.ord_still rfl rfl (by kernel_rfl) (fun K hK => ?_)
          go_big_quiet_op
          refine hK _ ?_; clear hK K
          refine Ord.ord_still rfl rfl (by kernel_rfl) (fun K hK => ?_)
          go_big_quiet_op
          refine hK _ ?_; clear hK K
          refine Ord.ord_still rfl rfl (by kernel_rfl) (fun K hK => ?_)
          go_big_quiet_op
          refine hK _ ?_; clear hK K
          refine Ord.ord_still rfl rfl (by kernel_rfl) (fun K hK => ?_)
          go_big_quiet_op
          refine hK _ ?_; clear hK K
          refine Ord.ord_loud rfl (by kernel_rfl) (fun K hK => ?_)
          go_big_op
          refine (cell_Compare kind x y hn.1 hn.2.1 s t l m _ hs ht (hT.later HB.out)).mono ?_
          rintro e w5 ⟨rfl, hb⟩
          rw [hX]
          replace q5 := q5.later hb
          replace q6 := q6.later hb
          replace q7 := q7.later hb
          replace HB := Lib.hid (HB.out.trans (hb.mono HB.out.size))
          clear g1 g2 g3 g4 g5 g6
          have g1 := q5.g0; have g2 := q5.g1; have g3 := q6.g0; have g4 := q6.g1; have g5 := q7.g0; have g6 := q7.g1
          refine hK _ _ hb ?_
          clear hb
          clear hK K
          refine Ord.ord_loud rfl (by kernel_rfl) (fun K hK => ?_)
          go_big_op
          refine (cell_Compare kind y z hn.2.1 hn.2.2 t u m n _ ht hu (hT.later HB.out)).mono ?_
          rintro e w6 ⟨rfl, hb⟩
          rw [hY]
          replace q5 := q5.later hb
          replace q6 := q6.later hb
          replace q7 := q7.later hb
          replace HB := Lib.hid (HB.out.trans (hb.mono HB.out.size))
          clear g1 g2 g3 g4 g5 g6
          have g1 := q5.g0; have g2 := q5.g1; have g3 := q6.g0; have g4 := q6.g1; have g5 := q7.g0; have g6 := q7.g1
          refine hK _ _ hb ?_
          clear hb
          clear hK K
          refine Ord.ord_loud rfl (by kernel_rfl) (fun K hK => ?_)
          go_big_op
          refine (cell_Compare kind x z hn.1 hn.2.2 s u l n _ hs hu (hT.later HB.out)).mono ?_
          rintro e w7 ⟨rfl, hb⟩
          rw [hZ]
          replace q5 := q5.later hb
          replace q6 := q6.later hb
          replace q7 := q7.later hb
          replace HB := Lib.hid (HB.out.trans (hb.mono HB.out.size))
          clear g1 g2 g3 g4 g5 g6
          have g1 := q5.g0; have g2 := q5.g1; have g3 := q6.g0; have g4 := q6.g1; have g5 := q7.g0; have g6 := q7.g1
          refine hK _ _ hb ?_
          clear hb
          clear hK K
          refine Ord.ord_still rfl rfl (by kernel_rfl) (fun K hK => ?_)
          go_big_quiet_op
          refine hK _ ?_; clear hK K
          refine Ord.ord_still rfl rfl (by kernel_rfl) (fun K hK => ?_)
          go_big_quiet_op
          refine hK _ ?_; clear hK K
          refine Ord.ord_still rfl rfl (by kernel_rfl) (fun K hK => ?_)
          go_big_quiet_op
          refine hK _ ?_; clear hK K
          refine Ord.ord_nil ?_
          obtain ⟨L2, L3, L4, L5⟩ := HL.out
          have HX := Lib.hid hX
          have HY := Lib.hid hY
          have HZ := Lib.hid hZ
          clear hX hY hZ HL g1 g2 g3 g4 g5 g6
          have c1 := q5.c0; have c2 := q5.c1; have c3 := q6.c0; have c4 := q6.c1; have c5 := q7.c0; have c6 := q7.c1
          obtain rfl | rfl | rfl : X = 1 ∨ X = 0 ∨ X = -1 := by omega
          · have q0 : ¬ ((1 : Int) = 0) := by decide
            have hne : ¬ (x = y ∧ s.toList = t.toList) := fun h => q0 (L2.2 ⟨h.1, hs.toList.symm.trans (h.2.trans ht.toList)⟩)
            have hX' := HX'.out
            clear L2 L4 L5 HX HX' HY HZ HK1 HK2 HK3
            go_wp2_with fail
            refine (cell_Compare kind y x hn.2.1 hn.1 t s m l _ ht hs (hT.later HB.out)).mono ?_
            rintro e w8 ⟨rfl, hb⟩
            rw [hX']
            replace q5 := q5.later hb
            replace q6 := q6.later hb
            replace q7 := q7.later hb
            replace HB := Lib.hid (HB.out.trans (hb.mono HB.out.size))
            clear hb c1 c2 c3 c4 c5 c6
            have c1 := q5.c0; have c2 := q5.c1; have c3 := q6.c0; have c4 := q6.c1; have c5 := q7.c0; have c6 := q7.c1
            go_wp2_with fail
            · exact (hne ⟨by omega, by assumption⟩).elim
            all_goals (
              refine (law04_alive _ (hT.later HB.out)).mono ?_
              rintro e w9 ⟨rfl, hb⟩
              replace HB := Lib.hid (HB.out.trans (hb.mono HB.out.size))
              clear hb
              go_wp2
              go_ret
              exact ⟨rfl, HB.out⟩)
          · by_cases hy : Y > 0
            · have dy : decide (Y > 0) = true := decide_eq_true hy
              have HEQ := Lib.hid (show x = y ∧ s.toList = t.toList from ⟨(L2.1 rfl).1, hs.toList.trans ((L2.1 rfl).2.trans ht.toList.symm)⟩)
              have hX' := HX'.out
              clear L2 L4 L5 HX HX' HY HZ HK1 HK2 HK3
              go_wp2_with fail
              refine (cell_Compare kind y x hn.2.1 hn.1 t s m l _ ht hs (hT.later HB.out)).mono ?_
              rintro e w8 ⟨rfl, hb⟩
              rw [hX']
              replace q5 := q5.later hb
              replace q6 := q6.later hb
              replace q7 := q7.later hb
              replace HB := Lib.hid (HB.out.trans (hb.mono HB.out.size))
              clear hb c1 c2 c3 c4 c5 c6
              have c1 := q5.c0; have c2 := q5.c1; have c3 := q6.c0; have c4 := q6.c1; have c5 := q7.c0; have c6 := q7.c1
              go_wp2_with fail
              any_goals (exfalso; first | (have h := HEQ.out.1; omega) | (refine absurd HEQ.out.2 ?_; assumption))
              all_goals (
                refine (law04_alive _ (hT.later HB.out)).mono ?_
                rintro e w9 ⟨rfl, hb⟩
                replace HB := Lib.hid (HB.out.trans (hb.mono HB.out.size))
                clear hb
                go_wp2
                go_ret
                exact ⟨rfl, HB.out⟩)
            · have dy : decide (Y > 0) = false := decide_eq_false hy
              have dz : decide (Z ≤ 0) = true := decide_eq_true (L4 (by omega) (by omega))
              have HEQ := Lib.hid (show x = y ∧ s.toList = t.toList from ⟨(L2.1 rfl).1, hs.toList.trans ((L2.1 rfl).2.trans ht.toList.symm)⟩)
              have hX' := HX'.out
              clear L2 L4 L5 HX HX' HY HZ HK1 HK2 HK3
              go_wp2_with fail
              refine (cell_Compare kind y x hn.2.1 hn.1 t s m l _ ht hs (hT.later HB.out)).mono ?_
              rintro e w8 ⟨rfl, hb⟩
              rw [hX']
              replace q5 := q5.later hb
              replace q6 := q6.later hb
              replace q7 := q7.later hb
              replace HB := Lib.hid (HB.out.trans (hb.mono HB.out.size))
              clear hb c1 c2 c3 c4 c5 c6
              have c1 := q5.c0; have c2 := q5.c1; have c3 := q6.c0; have c4 := q6.c1; have c5 := q7.c0; have c6 := q7.c1
              go_wp2_with fail
              any_goals (exfalso; first | (have h := HEQ.out.1; omega) | (refine absurd HEQ.out.2 ?_; assumption))
              all_goals (
                refine (law04_alive _ (hT.later HB.out)).mono ?_
                rintro e w9 ⟨rfl, hb⟩
                replace HB := Lib.hid (HB.out.trans (hb.mono HB.out.size))
                clear hb
                go_wp2
                go_ret
                exact ⟨rfl, HB.out⟩)
          · by_cases hy : Y > 0
            · have dy : decide (Y > 0) = true := decide_eq_true hy
              have dy2 : decide (Y ≥ 0) = true := decide_eq_true (by omega)
              have q0 : ¬ ((-1 : Int) = 0) := by decide
              have hne : ¬ (x = y ∧ s.toList = t.toList) := fun h => q0 (L2.2 ⟨h.1, hs.toList.symm.trans (h.2.trans ht.toList)⟩)
              have hX' := HX'.out
              clear L2 L4 L5 HX HX' HY HZ HK1 HK2 HK3
              go_wp2_with fail
              refine (cell_Compare kind y x hn.2.1 hn.1 t s m l _ ht hs (hT.later HB.out)).mono ?_
              rintro e w8 ⟨rfl, hb⟩
              rw [hX']
              replace q5 := q5.later hb
              replace q6 := q6.later hb
              replace q7 := q7.later hb
              replace HB := Lib.hid (HB.out.trans (hb.mono HB.out.size))
              clear hb c1 c2 c3 c4 c5 c6
              have c1 := q5.c0; have c2 := q5.c1; have c3 := q6.c0; have c4 := q6.c1; have c5 := q7.c0; have c6 := q7.c1
              go_wp2_with fail
              · exact (hne ⟨by omega, by assumption⟩).elim
              all_goals (
                refine (law04_alive _ (hT.later HB.out)).mono ?_
                rintro e w9 ⟨rfl, hb⟩
                replace HB := Lib.hid (HB.out.trans (hb.mono HB.out.size))
                clear hb
                go_wp2
                go_ret
                exact ⟨rfl, HB.out⟩)
            · by_cases hy2 : Y ≥ 0
              · have dy : decide (Y > 0) = false := decide_eq_false hy
                have dz : decide (Z ≤ 0) = true := decide_eq_true (L4 (by omega) (by omega))
                have dy2 : decide (Y ≥ 0) = true := decide_eq_true hy2
                have q0 : ¬ ((-1 : Int) = 0) := by decide
                have hne : ¬ (x = y ∧ s.toList = t.toList) := fun h => q0 (L2.2 ⟨h.1, hs.toList.symm.trans (h.2.trans ht.toList)⟩)
                have hX' := HX'.out
                clear L2 L4 L5 HX HX' HY HZ HK1 HK2 HK3
                go_wp2_with fail
                refine (cell_Compare kind y x hn.2.1 hn.1 t s m l _ ht hs (hT.later HB.out)).mono ?_
                rintro e w8 ⟨rfl, hb⟩
                rw [hX']
                replace q5 := q5.later hb
                replace q6 := q6.later hb
                replace q7 := q7.later hb
                replace HB := Lib.hid (HB.out.trans (hb.mono HB.out.size))
                clear hb c1 c2 c3 c4 c5 c6
                have c1 := q5.c0; have c2 := q5.c1; have c3 := q6.c0; have c4 := q6.c1; have c5 := q7.c0; have c6 := q7.c1
                go_wp2_with fail
                · exact (hne ⟨by omega, by assumption⟩).elim
                all_goals (
                  refine (law04_alive _ (hT.later HB.out)).mono ?_
                  rintro e w9 ⟨rfl, hb⟩
                  replace HB := Lib.hid (HB.out.trans (hb.mono HB.out.size))
                  clear hb
                  go_wp2
                  go_ret
                  exact ⟨rfl, HB.out⟩)
              · have dy : decide (Y > 0) = false := decide_eq_false hy
                have dz : decide (Z ≤ 0) = true := decide_eq_true (L4 (by omega) (by omega))
                have dy2 : decide (Y ≥ 0) = false := decide_eq_false hy2
                have dz2 : decide (Z < 0) = true := decide_eq_true (L5 (by omega) (by omega))
                have q0 : ¬ ((-1 : Int) = 0) := by decide
                have hne : ¬ (x = y ∧ s.toList = t.toList) := fun h => q0 (L2.2 ⟨h.1, hs.toList.symm.trans (h.2.trans ht.toList)⟩)
                have hX' := HX'.out
                clear L2 L4 L5 HX HX' HY HZ HK1 HK2 HK3
                go_wp2_with fail
                refine (cell_Compare kind y x hn.2.1 hn.1 t s m l _ ht hs (hT.later HB.out)).mono ?_
                rintro e w8 ⟨rfl, hb⟩
                rw [hX']
                replace q5 := q5.later hb
                replace q6 := q6.later hb
                replace q7 := q7.later hb
                replace HB := Lib.hid (HB.out.trans (hb.mono HB.out.size))
                clear hb c1 c2 c3 c4 c5 c6
                have c1 := q5.c0; have c2 := q5.c1; have c3 := q6.c0; have c4 := q6.c1; have c5 := q7.c0; have c6 := q7.c1
                go_wp2_with fail
                · exact (hne ⟨by omega, by assumption⟩).elim
                all_goals (
                  refine (law04_alive _ (hT.later HB.out)).mono ?_
                  rintro e w9 ⟨rfl, hb⟩
                  replace HB := Lib.hid (HB.out.trans (hb.mono HB.out.size))
                  clear hb
                  go_wp2
                  go_ret
                  exact ⟨rfl, HB.out⟩)
        · have hne3 : ((k3 : Int) != 0) = true := by simp; omega
          clear hz3
          go_wp2_with fail
          refine (law04_alive _ (hT.later HB.out)).mono ?_
          rintro e w9 ⟨rfl, hb⟩
          replace HB := Lib.hid (HB.out.trans (hb.mono HB.out.size))
          clear hb
          go_wp2
          go_ret
          exact ⟨rfl, HB.out⟩
      · have hne2 : ((k2 : Int) != 0) = true := by simp; omega
        clear hz2
        go_wp2_with fail
        refine (law04_alive _ (hT.later HB.out)).mono ?_
        rintro e w9 ⟨rfl, hb⟩
        replace HB := Lib.hid (HB.out.trans (hb.mono HB.out.size))
        clear hb
        go_wp2
        go_ret
        exact ⟨rfl, HB.out⟩
    · have hne1 : ((k1 : Int) != 0) = true := by simp; omega
      clear hz1
      go_wp2_with fail
      refine (law04_alive _ (hT.later HB.out)).mono ?_
      rintro e w9 ⟨rfl, hb⟩
      replace HB := Lib.hid (HB.out.trans (hb.mono HB.out.size))
      clear hb
      go_wp2
      go_ret
      exact ⟨rfl, HB.out⟩

end Go.Proofs.YtfleebllabolgaaDoor
