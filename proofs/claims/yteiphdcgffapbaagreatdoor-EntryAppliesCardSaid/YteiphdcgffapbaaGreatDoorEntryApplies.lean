/-
  EntryApplies: the law's own walk.
-/
import Derived.Test.YteiphdcgffapbaaGreatDoorGEntL
import Derived.Test.YteiphdcgffapbaaGreatDoorEntRefApply
set_option linter.unusedVariables false
set_option linter.unusedSimpArgs false
set_option maxRecDepth 1000000
namespace Go.Proofs.YteiphdcgffapbaaGreatDoor
open Go.RowKit Go.Shelf

set_option maxHeartbeats 16000000 in
theorem entryApplies_walk (v1 : Value) (cs : List ColB) (s0 s1 : Int) (x0 x1 : Value) (a b : List PairB) (w : World) (hR : RdC w v1 cs) (hC : CS cs) (hs0 : inW s0) (hs1 : inW s1) (hA : RdP w x0 a ∧ PSO a ∧ a.length * 32 ≤ 140737488351232) (hB : RdP w x1 b ∧ PSO b ∧ b.length * 32 ≤ 140737488351232) (hT : Tabs w) :
    Calls Tryz.prog 5 #[v1, .agg #[.int .i64 s0, .int .i64 s1], .agg #[x0, x1]] w fun e w' => e = .returned (.bool true) ∧ Below w.heap.size w w' := by
  have AL := Lib.hid (fun wz (hz : Below w.heap.size w wz) => law12_alive wz (hT.later hz))
  obtain ⟨ao0, no0, co0, rfl⟩ := hA.1.lit12
  obtain ⟨ao1, no1, co1, rfl⟩ := hB.1.lit12
  have GR := Lib.hid (fun wz (hz : Below w.heap.size w wz) => great_two12 v1 (.slice ao0 no0 co0) (.slice ao1 no1 co1) cs a b wz (hR.later hz (Nat.le_refl _)) (hA.1.later hz (Nat.le_refl _)) (hB.1.later hz (Nat.le_refl _)))
  have PA := Lib.hid (fun k (hk : inW k) wz (hz : Below w.heap.size w wz) => entry_Apply v1 (.slice ao0 no0 co0) (.agg #[.int .i64 k, .int .i64 s1, .slice ao1 no1 co1]) cs s0 a (k, s1, b) wz (hR.later hz (Nat.le_refl _)) (hA.1.later hz (Nat.le_refl _)) ⟨_, rfl, hB.1.later hz (Nat.le_refl _)⟩ hC hA.2.1 ⟨hk, hs1, hB.2.1⟩ hs0 (hT.later hz))
  have PB := Lib.hid (fun k (hk : inW k) wz (hz : Below w.heap.size w wz) => ref_Apply12 v1 (.slice ao0 no0 co0) (.agg #[.int .i64 k, .int .i64 s1, .slice ao1 no1 co1]) cs s0 a (k, s1, b) wz (hR.later hz (Nat.le_refl _)) (hA.1.later hz (Nat.le_refl _)) ⟨_, rfl, hB.1.later hz (Nat.le_refl _)⟩ hC hA.2.1 ⟨hk, hs1, hB.2.1⟩ hs0)
  obtain ⟨N0, N1, N2, N4⟩ := new2 w (.cells #[.int .i64 s0, .int .i64 s1] 43) (.cells #[.slice ao0 no0 co0, .slice ao1 no1 co1] 44)
  obtain ⟨w0, hw0⟩ : ∃ w0, w0 = (w.alloc (.cells #[.int .i64 s0, .int .i64 s1] 43)).alloc (.cells #[.slice ao0 no0 co0, .slice ao1 no1 co1] 44) := ⟨_, rfl⟩
  rw [← hw0] at N0 N1 N2 N4
  obtain ⟨g, hg⟩ : ∃ g, g = w.heap.size := ⟨_, rfl⟩
  rw [← hg] at N0 N1 N2
  have HZ := Lib.hid (fun wz (hz : Below w0.heap.size w0 wz) => show Below w.heap.size w wz from N4.trans (hz.mono N4.size))
  have HX := Lib.hid (fun wz (hz : Below w0.heap.size w0 wz) => show (wz.cell? ⟨g, 0, none⟩ = some (.int .i64 s0) ∧ wz.cell? ⟨g, 1, none⟩ = some (.int .i64 s1)) ∧ wz.cell? ⟨g + 1, 0, none⟩ = some (.slice ao0 no0 co0) ∧ wz.cell? ⟨g + 1, 1, none⟩ = some (.slice ao1 no1 co1) from by
    have h1 := (hz.block g (Array.getElem?_eq_some_iff.1 N1).1).trans N1
    have h2 := (hz.block (g + 1) (Array.getElem?_eq_some_iff.1 N2).1).trans N2
    exact ⟨⟨cell_of_row _ _ 0 _ _ _ h1, cell_of_row _ _ 1 _ _ _ h1⟩, cell_of_row _ _ 0 _ _ _ h2, cell_of_row _ _ 1 _ _ _ h2⟩)
  have HW0 := Lib.hid hw0
  have HG := Lib.hid hg
  have HB := Lib.hid (Below.refl w0.heap.size w0)
  clear hR hC hA hB hT hs0 hs1 N0 N1 N2 N4 hw0 hg
  go_enter Tryz.func5, Tryz.ntmps5
  go_wp2_with fail
  rw [← HW0.out, ← HG.out]
  refine (AL.out w0 (HZ.out _ HB.out)).mono ?_
  rintro e w1 ⟨rfl, hb⟩
  replace HB := Lib.hid (HB.out.trans (hb.mono HB.out.size))
  obtain ⟨⟨c0, c1⟩, c2, c3⟩ := HX.out w1 HB.out
  clear hb
  go_wp2_with fail
  refine (GR.out w1 (HZ.out _ HB.out)).mono ?_
  rintro e w2 ⟨bb, rfl, _, hb⟩
  replace HB := Lib.hid (HB.out.trans (hb.mono HB.out.size))
  clear hb c0 c1 c2 c3 GR
  cases bb with
  | true =>
    go_wp2_with fail
    refine (AL.out w2 (HZ.out _ HB.out)).mono ?_
    rintro e w3 ⟨rfl, hb⟩
    replace HB := Lib.hid (HB.out.trans (hb.mono HB.out.size))
    clear hb
    go_wp2
    go_ret
    exact ⟨rfl, HZ.out _ HB.out⟩
  | false =>
    clear AL
    obtain ⟨M1, M2⟩ := new_one12 w2 (.cells #[.int .i64 0, .int .i64 1, .int .i64 2, .int .i64 (-1)] 3)
    obtain ⟨w3, hw3⟩ : ∃ w3, w3 = w2.alloc (.cells #[.int .i64 0, .int .i64 1, .int .i64 2, .int .i64 (-1)] 3) := ⟨_, rfl⟩
    rw [← hw3] at M1 M2
    obtain ⟨g3, hg3⟩ : ∃ g3, g3 = w2.heap.size := ⟨_, rfl⟩
    rw [← hg3] at M1
    have HB3 := Lib.hid (HB.out.trans (M2.mono HB.out.size))
    have HY := Lib.hid (fun wz (hz : Below w3.heap.size w3 wz) => show (wz.cell? ⟨g3, 0, none⟩ = some (.int .i64 0) ∧ wz.cell? ⟨g3, 1, none⟩ = some (.int .i64 1)) ∧ wz.cell? ⟨g3, 2, none⟩ = some (.int .i64 2) ∧ wz.cell? ⟨g3, 3, none⟩ = some (.int .i64 (-1)) from by
      have h1 := (hz.block g3 (Array.getElem?_eq_some_iff.1 M1).1).trans M1
      exact ⟨⟨cell_of_row _ _ 0 _ _ _ h1, cell_of_row _ _ 1 _ _ _ h1⟩, cell_of_row _ _ 2 _ _ _ h1, cell_of_row _ _ 3 _ _ _ h1⟩)
    have HW3 := Lib.hid hw3
    have HG3 := Lib.hid hg3
    have HR := Lib.hid (Below.refl w3.heap.size w3)
    clear M1 M2 hw3 hg3 HB
    go_wp2
    rw [← HW3.out, ← HG3.out]
    go_loopw [30] (fun i wr => ∃ j : Nat, j ≤ 4 ∧ i = .int .i64 j ∧ Hid (Below w3.heap.size w3 wr)) (fun i _ => 4 - (intOf i).toNat)
    case atStart => exact ⟨0, by omega, rfl, HR⟩
    case round =>
      clear HR
      obtain ⟨j, hj, rfl, HR⟩ := hrel
      have hjc : j = 0 ∨ j = 1 ∨ j = 2 ∨ j = 3 ∨ j = 4 := by omega
      rcases hjc with rfl | rfl | rfl | rfl | rfl
      · rw [show ((0 : Nat) : Int) = 0 from rfl]
        have PA1 := Lib.hid (PA.out 0 (by unfold inW; omega))
        have PB1 := Lib.hid (PB.out 0 (by unfold inW; omega))
        obtain ⟨⟨d0, d1⟩, d2, d3⟩ := HY.out wr HR.out
        have hbr := HB3.out.trans (HR.out.mono HB3.out.size)
        obtain ⟨⟨c0, c1⟩, c2, c3⟩ := HX.out wr hbr
        obtain ⟨M1, M2⟩ := new_one12 wr (.cells #[.int .i64 0, .int .i64 s1, .slice ao1 no1 co1] 25)
        obtain ⟨w4, hw4⟩ : ∃ w4, w4 = wr.alloc (.cells #[.int .i64 0, .int .i64 s1, .slice ao1 no1 co1] 25) := ⟨_, rfl⟩
        obtain ⟨g4, hg4⟩ : ∃ g4, g4 = wr.heap.size := ⟨_, rfl⟩
        rw [← hw4] at M1 M2
        rw [← hg4] at M1
        have HE4 := Lib.hid (show Ebox w4 g4 0 s1 (.slice ao1 no1 co1) from M1)
        have HR4 := Lib.hid (HR.out.trans (M2.mono HR.out.size))
        have HB4 := Lib.hid (hbr.trans (M2.mono hbr.size))
        have HW4 := Lib.hid hw4
        have HG4 := Lib.hid hg4
        have y0 := (HX.out w4 HB4.out).1.1
        have y2 := (HX.out w4 HB4.out).2.1
        rw [hw4] at y0 y2
        clear M1 M2 hw4 hg4 hbr HR hj PA PB
        go_wp2_with fail
        rw [← HW4.out, ← HG4.out]
        clear y0 y2 c0 c1 c2 c3 d0 d1 d2 d3
        refine (PA1.out w4 (HZ.out _ HB4.out)).mono ?_
        rintro e w5 ⟨va, rfl, hra, hb⟩
        have HE5 := Lib.hid (HE4.out.later hb)
        have HR5 := Lib.hid (HR4.out.trans (hb.mono HR4.out.size))
        have HB5 := Lib.hid (HB4.out.trans (hb.mono HB4.out.size))
        have HVa := Lib.hid hra
        obtain ⟨⟨c0, _⟩, c2, _⟩ := HX.out w5 HB5.out
        obtain ⟨e0, e1, e2⟩ := HE5.out.cells
        clear hb hra HW4 HE4 HR4 HB4 PA1
        go_wp2_with fail
        refine (PB1.out w5 (HZ.out _ HB5.out)).mono ?_
        rintro e w6 ⟨vb, rfl, hrb, hb⟩
        have HR6 := Lib.hid (HR5.out.trans (hb.mono HR5.out.size))
        have SM := Lib.hid (ref_Same08 va vb _ _ w6 (HVa.out.later hb (Nat.le_refl _)) hrb)
        rw [decide_eq_true rfl] at SM
        clear hb hrb HVa HE5 HR5 HB5 PB1 c0 c2 e0 e1 e2
        generalize apN cs s0 a (0, s1, b) = N at *
        generalize apE cs s0 a (0, s1, b) = E at *
        have d1 : ((N : Int) != N) = false := by simp
        have d2 : ((E : Int) != E) = false := by simp
        go_wp2_with fail
        refine SM.out.mono ?_
        rintro e w7 ⟨rfl, hb⟩
        have HR7 := Lib.hid (HR6.out.trans (hb.mono HR6.out.size))
        clear hb SM HR6 d1 d2
        go_wp2
        go_roundw
        case rel => exact ⟨1, by omega, by simp, HR7⟩
        case measure => simp [intOf]
      · rw [show ((1 : Nat) : Int) = 1 from rfl]
        have PA1 := Lib.hid (PA.out 1 (by unfold inW; omega))
        have PB1 := Lib.hid (PB.out 1 (by unfold inW; omega))
        obtain ⟨⟨d0, d1⟩, d2, d3⟩ := HY.out wr HR.out
        have hbr := HB3.out.trans (HR.out.mono HB3.out.size)
        obtain ⟨⟨c0, c1⟩, c2, c3⟩ := HX.out wr hbr
        obtain ⟨M1, M2⟩ := new_one12 wr (.cells #[.int .i64 1, .int .i64 s1, .slice ao1 no1 co1] 25)
        obtain ⟨w4, hw4⟩ : ∃ w4, w4 = wr.alloc (.cells #[.int .i64 1, .int .i64 s1, .slice ao1 no1 co1] 25) := ⟨_, rfl⟩
        obtain ⟨g4, hg4⟩ : ∃ g4, g4 = wr.heap.size := ⟨_, rfl⟩
        rw [← hw4] at M1 M2
        rw [← hg4] at M1
        have HE4 := Lib.hid (show Ebox w4 g4 1 s1 (.slice ao1 no1 co1) from M1)
        have HR4 := Lib.hid (HR.out.trans (M2.mono HR.out.size))
        have HB4 := Lib.hid (hbr.trans (M2.mono hbr.size))
        have HW4 := Lib.hid hw4
        have HG4 := Lib.hid hg4
        have y0 := (HX.out w4 HB4.out).1.1
        have y2 := (HX.out w4 HB4.out).2.1
        rw [hw4] at y0 y2
        clear M1 M2 hw4 hg4 hbr HR hj PA PB
        go_wp2_with fail
        rw [← HW4.out, ← HG4.out]
        clear y0 y2 c0 c1 c2 c3 d0 d1 d2 d3
        refine (PA1.out w4 (HZ.out _ HB4.out)).mono ?_
        rintro e w5 ⟨va, rfl, hra, hb⟩
        have HE5 := Lib.hid (HE4.out.later hb)
        have HR5 := Lib.hid (HR4.out.trans (hb.mono HR4.out.size))
        have HB5 := Lib.hid (HB4.out.trans (hb.mono HB4.out.size))
        have HVa := Lib.hid hra
        obtain ⟨⟨c0, _⟩, c2, _⟩ := HX.out w5 HB5.out
        obtain ⟨e0, e1, e2⟩ := HE5.out.cells
        clear hb hra HW4 HE4 HR4 HB4 PA1
        go_wp2_with fail
        refine (PB1.out w5 (HZ.out _ HB5.out)).mono ?_
        rintro e w6 ⟨vb, rfl, hrb, hb⟩
        have HR6 := Lib.hid (HR5.out.trans (hb.mono HR5.out.size))
        have SM := Lib.hid (ref_Same08 va vb _ _ w6 (HVa.out.later hb (Nat.le_refl _)) hrb)
        rw [decide_eq_true rfl] at SM
        clear hb hrb HVa HE5 HR5 HB5 PB1 c0 c2 e0 e1 e2
        generalize apN cs s0 a (1, s1, b) = N at *
        generalize apE cs s0 a (1, s1, b) = E at *
        have d1 : ((N : Int) != N) = false := by simp
        have d2 : ((E : Int) != E) = false := by simp
        go_wp2_with fail
        refine SM.out.mono ?_
        rintro e w7 ⟨rfl, hb⟩
        have HR7 := Lib.hid (HR6.out.trans (hb.mono HR6.out.size))
        clear hb SM HR6 d1 d2
        go_wp2
        go_roundw
        case rel => exact ⟨2, by omega, by simp, HR7⟩
        case measure => simp [intOf]
      · rw [show ((2 : Nat) : Int) = 2 from rfl]
        have PA1 := Lib.hid (PA.out 2 (by unfold inW; omega))
        have PB1 := Lib.hid (PB.out 2 (by unfold inW; omega))
        obtain ⟨⟨d0, d1⟩, d2, d3⟩ := HY.out wr HR.out
        have hbr := HB3.out.trans (HR.out.mono HB3.out.size)
        obtain ⟨⟨c0, c1⟩, c2, c3⟩ := HX.out wr hbr
        obtain ⟨M1, M2⟩ := new_one12 wr (.cells #[.int .i64 2, .int .i64 s1, .slice ao1 no1 co1] 25)
        obtain ⟨w4, hw4⟩ : ∃ w4, w4 = wr.alloc (.cells #[.int .i64 2, .int .i64 s1, .slice ao1 no1 co1] 25) := ⟨_, rfl⟩
        obtain ⟨g4, hg4⟩ : ∃ g4, g4 = wr.heap.size := ⟨_, rfl⟩
        rw [← hw4] at M1 M2
        rw [← hg4] at M1
        have HE4 := Lib.hid (show Ebox w4 g4 2 s1 (.slice ao1 no1 co1) from M1)
        have HR4 := Lib.hid (HR.out.trans (M2.mono HR.out.size))
        have HB4 := Lib.hid (hbr.trans (M2.mono hbr.size))
        have HW4 := Lib.hid hw4
        have HG4 := Lib.hid hg4
        have y0 := (HX.out w4 HB4.out).1.1
        have y2 := (HX.out w4 HB4.out).2.1
        rw [hw4] at y0 y2
        clear M1 M2 hw4 hg4 hbr HR hj PA PB
        go_wp2_with fail
        rw [← HW4.out, ← HG4.out]
        clear y0 y2 c0 c1 c2 c3 d0 d1 d2 d3
        refine (PA1.out w4 (HZ.out _ HB4.out)).mono ?_
        rintro e w5 ⟨va, rfl, hra, hb⟩
        have HE5 := Lib.hid (HE4.out.later hb)
        have HR5 := Lib.hid (HR4.out.trans (hb.mono HR4.out.size))
        have HB5 := Lib.hid (HB4.out.trans (hb.mono HB4.out.size))
        have HVa := Lib.hid hra
        obtain ⟨⟨c0, _⟩, c2, _⟩ := HX.out w5 HB5.out
        obtain ⟨e0, e1, e2⟩ := HE5.out.cells
        clear hb hra HW4 HE4 HR4 HB4 PA1
        go_wp2_with fail
        refine (PB1.out w5 (HZ.out _ HB5.out)).mono ?_
        rintro e w6 ⟨vb, rfl, hrb, hb⟩
        have HR6 := Lib.hid (HR5.out.trans (hb.mono HR5.out.size))
        have SM := Lib.hid (ref_Same08 va vb _ _ w6 (HVa.out.later hb (Nat.le_refl _)) hrb)
        rw [decide_eq_true rfl] at SM
        clear hb hrb HVa HE5 HR5 HB5 PB1 c0 c2 e0 e1 e2
        generalize apN cs s0 a (2, s1, b) = N at *
        generalize apE cs s0 a (2, s1, b) = E at *
        have d1 : ((N : Int) != N) = false := by simp
        have d2 : ((E : Int) != E) = false := by simp
        go_wp2_with fail
        refine SM.out.mono ?_
        rintro e w7 ⟨rfl, hb⟩
        have HR7 := Lib.hid (HR6.out.trans (hb.mono HR6.out.size))
        clear hb SM HR6 d1 d2
        go_wp2
        go_roundw
        case rel => exact ⟨3, by omega, by simp, HR7⟩
        case measure => simp [intOf]
      · rw [show ((3 : Nat) : Int) = 3 from rfl]
        have PA1 := Lib.hid (PA.out (-1) (by unfold inW; omega))
        have PB1 := Lib.hid (PB.out (-1) (by unfold inW; omega))
        obtain ⟨⟨d0, d1⟩, d2, d3⟩ := HY.out wr HR.out
        have hbr := HB3.out.trans (HR.out.mono HB3.out.size)
        obtain ⟨⟨c0, c1⟩, c2, c3⟩ := HX.out wr hbr
        obtain ⟨M1, M2⟩ := new_one12 wr (.cells #[.int .i64 (-1), .int .i64 s1, .slice ao1 no1 co1] 25)
        obtain ⟨w4, hw4⟩ : ∃ w4, w4 = wr.alloc (.cells #[.int .i64 (-1), .int .i64 s1, .slice ao1 no1 co1] 25) := ⟨_, rfl⟩
        obtain ⟨g4, hg4⟩ : ∃ g4, g4 = wr.heap.size := ⟨_, rfl⟩
        rw [← hw4] at M1 M2
        rw [← hg4] at M1
        have HE4 := Lib.hid (show Ebox w4 g4 (-1) s1 (.slice ao1 no1 co1) from M1)
        have HR4 := Lib.hid (HR.out.trans (M2.mono HR.out.size))
        have HB4 := Lib.hid (hbr.trans (M2.mono hbr.size))
        have HW4 := Lib.hid hw4
        have HG4 := Lib.hid hg4
        have y0 := (HX.out w4 HB4.out).1.1
        have y2 := (HX.out w4 HB4.out).2.1
        rw [hw4] at y0 y2
        clear M1 M2 hw4 hg4 hbr HR hj PA PB
        go_wp2_with fail
        rw [← HW4.out, ← HG4.out]
        clear y0 y2 c0 c1 c2 c3 d0 d1 d2 d3
        refine (PA1.out w4 (HZ.out _ HB4.out)).mono ?_
        rintro e w5 ⟨va, rfl, hra, hb⟩
        have HE5 := Lib.hid (HE4.out.later hb)
        have HR5 := Lib.hid (HR4.out.trans (hb.mono HR4.out.size))
        have HB5 := Lib.hid (HB4.out.trans (hb.mono HB4.out.size))
        have HVa := Lib.hid hra
        obtain ⟨⟨c0, _⟩, c2, _⟩ := HX.out w5 HB5.out
        obtain ⟨e0, e1, e2⟩ := HE5.out.cells
        clear hb hra HW4 HE4 HR4 HB4 PA1
        go_wp2_with fail
        refine (PB1.out w5 (HZ.out _ HB5.out)).mono ?_
        rintro e w6 ⟨vb, rfl, hrb, hb⟩
        have HR6 := Lib.hid (HR5.out.trans (hb.mono HR5.out.size))
        have SM := Lib.hid (ref_Same08 va vb _ _ w6 (HVa.out.later hb (Nat.le_refl _)) hrb)
        rw [decide_eq_true rfl] at SM
        clear hb hrb HVa HE5 HR5 HB5 PB1 c0 c2 e0 e1 e2
        generalize apN cs s0 a ((-1), s1, b) = N at *
        generalize apE cs s0 a ((-1), s1, b) = E at *
        have d1 : ((N : Int) != N) = false := by simp
        have d2 : ((E : Int) != E) = false := by simp
        go_wp2_with fail
        refine SM.out.mono ?_
        rintro e w7 ⟨rfl, hb⟩
        have HR7 := Lib.hid (HR6.out.trans (hb.mono HR6.out.size))
        clear hb SM HR6 d1 d2
        go_wp2
        go_roundw
        case rel => exact ⟨4, by omega, by simp, HR7⟩
        case measure => simp [intOf]
      · rw [show ((4 : Nat) : Int) = 4 from rfl]
        clear PA PB hj
        go_wp2
        go_ret
        exact ⟨rfl, HZ.out _ (HB3.out.trans (HR.out.mono HB3.out.size))⟩

end Go.Proofs.YteiphdcgffapbaaGreatDoor
