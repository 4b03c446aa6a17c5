/-
  BatchRow: the law's own walk.
-/
import Derived.Test.YtedfcnlhdicipaaGreatDoorBatRow1
import Derived.RegionTactic
set_option linter.unusedVariables false
set_option linter.unusedSimpArgs false
set_option maxRecDepth 1000000
namespace Go.Proofs.YtedfcnlhdicipaaGreatDoor
open Go.RowKit Go.Shelf

/-- Variables of the law that lie in blocks: the schema, the two lists of pairs. -/
structure Vars10 (w : World) (sb lb : Nat) (v1 x0 x1 : Value) : Prop where
  s : w.heap[sb]? = some (.cells #[v1] 22 (0, 0))
  l : w.heap[lb]? = some (.cells #[x0, x1] 48 (0, 0))
theorem keep10 {w w' : World} {b : Nat} {o : Obj} (h : w.heap[b]? = some o) (hb : Below w.heap.size w w') : w'.heap[b]? = some o := (hb.block b (Array.getElem?_eq_some_iff.1 h).1).trans h
theorem Vars10.later {w w' : World} {sb lb : Nat} {v1 x0 x1 : Value} (h : Vars10 w sb lb v1 x0 x1) (hb : Below w.heap.size w w') : Vars10 w' sb lb v1 x0 x1 := ⟨keep10 h.s hb, keep10 h.l hb⟩
theorem Vars10.cells {w : World} {sb lb : Nat} {v1 x0 x1 : Value} (h : Vars10 w sb lb v1 x0 x1) : w.cell? ⟨sb, 0, none⟩ = some v1 ∧ w.cell? ⟨lb, 0, none⟩ = some x0 ∧ w.cell? ⟨lb, 1, none⟩ = some x1 := by
  refine ⟨?_, ?_, ?_⟩
  · rw [cell_of_row _ _ _ _ _ _ h.s]; rfl
  · rw [cell_of_row _ _ _ _ _ _ h.l]; rfl
  · rw [cell_of_row _ _ _ _ _ _ h.l]; rfl

set_option maxHeartbeats 16000000 in
theorem batchRow_walk (v1 : Value) (cs : List ColB) (x0 x1 : Value) (A B : List PairB) (w : World) (hR : RdC w v1 cs) (hC : CS cs) (hA : RdP w x0 A ∧ PSO A ∧ A.length * 32 ≤ 140737488351232) (hB : RdP w x1 B ∧ PSO B ∧ B.length * 32 ≤ 140737488351232) (hT : Tabs w) :
    Calls Tryz.prog 6 #[v1, .agg #[x0, x1]] w fun e w' => e = .returned (.bool true) ∧ Below w.heap.size w w' := by
  have K := Lib.hid (batK v1 cs w hR hC hT)
  have hl1 := hR.len
  have hsm1 := hR.small
  have hla := hA.1.len
  have hsma := hA.1.small
  have hlb := hB.1.len
  have hsmb := hB.1.small
  have HR := Lib.hid hR
  have HC := Lib.hid hC
  have HT := Lib.hid hT
  have RA := Lib.hid (fun wz (hz : Below w.heap.size w wz) => hA.1.later hz (Nat.le_refl _))
  have RB := Lib.hid (fun wz (hz : Below w.heap.size w wz) => hB.1.later hz (Nat.le_refl _))
  have PA := Lib.hid hA.2.1
  have PB := Lib.hid hB.2.1
  have CA := Lib.hid (fun wz (hz : Below w.heap.size w wz) => zset_Collect v1 x0 cs A wz (hR.later hz (Nat.le_refl _)) (hA.1.later hz (Nat.le_refl _)) hC hA.2.1 (hT.later hz) (by have := hA.2.2; omega))
  have CB := Lib.hid (fun wz (hz : Below w.heap.size w wz) => zset_Collect v1 x1 cs B wz (hR.later hz (Nat.le_refl _)) (hB.1.later hz (Nat.le_refl _)) hC hB.2.1 (hT.later hz) (by have := hB.2.2; omega))
  obtain ⟨sao, sno, sco, rfl⟩ := hR.lit
  obtain ⟨ao0, no0, co0, rfl⟩ := hA.1.litN
  obtain ⟨ao1, no1, co1, rfl⟩ := hB.1.litN
  obtain ⟨n, hn⟩ : ∃ n, n = cs.length := ⟨_, rfl⟩
  obtain ⟨ma, hma⟩ : ∃ m, m = A.length := ⟨_, rfl⟩
  obtain ⟨mb, hmb⟩ : ∃ m, m = B.length := ⟨_, rfl⟩
  rw [← hn] at hl1 hsm1
  rw [← hma] at hla hsma
  rw [← hmb] at hlb hsmb
  have GR := Lib.hid (fun wz (hz : Below w.heap.size w wz) => great_two10 (.slice ao0 no0 co0) (.slice ao1 no1 co1) A B wz (RA.out wz hz) (RB.out wz hz))
  obtain ⟨x, hx⟩ : ∃ x, x = clcE cs A := ⟨_, rfl⟩
  obtain ⟨y, hy⟩ : ∃ y, y = clcE cs B := ⟨_, rfl⟩
  have HSa := Lib.hid (fun h => clc_set (cs := cs) PA.out (hx ▸ h : clcE cs A = 0))
  have HSb := Lib.hid (fun h => clc_set (cs := cs) PB.out (hy ▸ h : clcE cs B = 0))
  rw [← hx] at CA
  rw [← hy] at CB
  have htl := Lib.hid (tabs_lt hT)
  obtain ⟨z0, z1, z2, z3⟩ := new2 w (.cells #[.slice sao sno sco] 22) (.cells #[.slice ao0 no0 co0, .slice ao1 no1 co1] 48)
  have HV := Lib.hid (show Vars10 ((w.alloc (.cells #[.slice sao sno sco] 22)).alloc (.cells #[.slice ao0 no0 co0, .slice ao1 no1 co1] 48)) w.heap.size (w.heap.size + 1) (.slice sao sno sco) (.slice ao0 no0 co0) (.slice ao1 no1 co1) from ⟨z1, z2⟩)
  have HB := Lib.hid z3
  clear hR hA hB hn hma hmb hx hy hC hT z0 z1 z2 z3
  go_enter Tryz.func6, Tryz.ntmps6
  go_wp2_with fail
  generalize (w.alloc (.cells #[.slice sao sno sco] 22)).alloc (.cells #[.slice ao0 no0 co0, .slice ao1 no1 co1] 48) = w0 at *
  obtain ⟨sb, hsb⟩ : ∃ sb, sb = w.heap.size := ⟨_, rfl⟩
  obtain ⟨lb, hlb9⟩ : ∃ lb, lb = sb + 1 := ⟨_, rfl⟩
  rw [← hsb] at HV
  rw [← hsb]
  rw [← hlb9] at HV
  rw [← hlb9]
  have HSB := Lib.hid hsb
  have HLB := Lib.hid hlb9
  clear hsb hlb9
  refine (K.out.alive w0 HB.out).mono ?_
  rintro e w1 ⟨rfl, hb⟩
  replace HB := Lib.hid (HB.out.trans (hb.mono HB.out.size))
  replace HV := Lib.hid (HV.out.later hb)
  clear hb
  obtain ⟨c1, c2, c3⟩ := HV.out.cells
  go_wp2_with fail
  refine (GR.out w1 HB.out).mono ?_
  rintro e w2 ⟨g, rfl, hg, hb⟩
  replace HB := Lib.hid (HB.out.trans (hb.mono HB.out.size))
  replace HV := Lib.hid (HV.out.later hb)
  clear hb GR c1 c2 c3
  obtain ⟨c1, c2, c3⟩ := HV.out.cells
  have hcase : (g = 0 ∧ n ≤ 30 ∧ ma ≤ 100 ∧ mb ≤ 100) ∨ (g = 1 ∨ (g = 0 ∧ 30 < n) ∨ (g = 0 ∧ n ≤ 30 ∧ 100 < ma) ∨ (g = 0 ∧ n ≤ 30 ∧ ma ≤ 100 ∧ 100 < mb)) := by omega
  rcases hcase with ⟨rfl, hn, hma, hmb⟩ | hcase
  · have d1 : decide ((30 : Int) < (n : Int)) = false := decide_eq_false (by omega)
    have d2 : decide ((100 : Int) < (ma : Int)) = false := decide_eq_false (by omega)
    have d3 : decide ((100 : Int) < (mb : Int)) = false := decide_eq_false (by omega)
    clear hg hn hma hmb
    go_wp2_with fail
    refine (CA.out w2 HB.out).mono ?_
    rintro e w3 ⟨av, rfl, hr, hb⟩
    replace HB := Lib.hid (HB.out.trans (hb.mono HB.out.size))
    replace HV := Lib.hid (HV.out.later hb)
    have VA := Lib.hid hr
    clear hb hr CA c1 c2 c3
    obtain ⟨c1, c2, c3⟩ := HV.out.cells
    go_wp2_with fail
    refine (CB.out w3 HB.out).mono ?_
    rintro e w4 ⟨bv, rfl, hr, hb⟩
    replace HB := Lib.hid (HB.out.trans (hb.mono HB.out.size))
    replace HV := Lib.hid (HV.out.later hb)
    replace VA := Lib.hid (VA.out.later hb (Nat.le_refl _))
    have VB := Lib.hid hr
    clear hb hr CB c1 c2 c3
    obtain ⟨c1, c2, c3⟩ := HV.out.cells
    by_cases hz : x = 0 ∧ y = 0
    · obtain ⟨rfl, rfl⟩ := hz
      obtain ⟨pA, kA⟩ := HSa.out rfl
      obtain ⟨pB, kB⟩ := HSb.out rfl
      obtain ⟨a, ha⟩ : ∃ a, a = clcO cs A := ⟨_, rfl⟩
      obtain ⟨b, hb9⟩ : ∃ b, b = clcO cs B := ⟨_, rfl⟩
      rw [← ha] at VA pA kA
      rw [← hb9] at VB pB kB
      have hX1 := wr_small pA kA
      have hY1 := wr_small pB kB
      have hr1 := bat_put pA kA (l := btWr (kindsL cs) (psL a) ++ btWr (kindsL cs) (psL b)) (m := btWr (kindsL cs) (psL b)) (k := 0) (by simp)
      have hr2 := bat_put pB kB (l := btWr (kindsL cs) (psL a) ++ btWr (kindsL cs) (psL b)) (m := []) (k := (btWr (kindsL cs) (psL a)).length) (by rw [List.drop_left' rfl]; simp)
      rw [Nat.zero_add] at hr1
      rw [← List.length_append] at hr2
      obtain ⟨X, hX⟩ : ∃ X, X = btWr (kindsL cs) (psL a) := ⟨_, rfl⟩
      obtain ⟨Y, hY⟩ : ∃ Y, Y = btWr (kindsL cs) (psL b) := ⟨_, rfl⟩
      have KWA := Lib.hid (fun wz v hz hr => write_set K.out pA kA hX wz v hz hr)
      have KWB := Lib.hid (fun wz v hz hr => write_set K.out pB kB hY wz v hz hr)
      rw [← hX] at hX1 hr1 hr2
      rw [← hY] at hY1 hr1 hr2
      have HR1 := Lib.hid hr1
      have HR2 := Lib.hid hr2
      clear pA pB kA kB ha hb9 hX hY hr1 hr2 HSa HSb
      go_wp2_with fail
      refine (KWA.out w4 av HB.out VA.out).mono ?_
      rintro e w5 ⟨xv, rfl, hO, hb⟩
      replace HB := Lib.hid (HB.out.trans (hb.mono HB.out.size))
      replace HV := Lib.hid (HV.out.later hb)
      replace VA := Lib.hid (VA.out.later hb (Nat.le_refl _))
      replace VB := Lib.hid (VB.out.later hb (Nat.le_refl _))
      have HRx := Lib.hid hO
      clear hb hO KWA c1 c2 c3
      obtain ⟨c1, c2, c3⟩ := HV.out.cells
      go_wp2_with fail
      refine (KWB.out w5 bv HB.out VB.out).mono ?_
      rintro e w6 ⟨yv, rfl, hO, hb⟩
      have HB5 := Lib.hid (HB.out.trans (hb.mono HB.out.size))
      have HV5 := Lib.hid (HV.out.later hb)
      replace VA := Lib.hid (VA.out.later hb (Nat.le_refl _))
      replace VB := Lib.hid (VB.out.later hb (Nat.le_refl _))
      replace HRx := Lib.hid (HRx.out.later hb (Nat.le_refl _))
      have HRy := Lib.hid hO
      have hlx := HRx.out.len
      have hly := HRy.out.len
      clear hb hO KWB c1 c2 c3 HB HV
      have hmf : ∀ (fn : Fn) (first cap : Array Value) (w : World), (Instr.makeFunc fn first cap).run Tryz.prog w = .ok (.func fn first cap) w := fun _ _ _ _ => rfl
      obtain ⟨n0, n1, n2, n3⟩ := new2 w6 (.cells #[.slice none 0 0] 23) (.cells #[.slice none 0 0] 23)
      obtain ⟨w7, hw7⟩ : ∃ w7, w7 = (w6.alloc (.cells #[.slice none 0 0] 23)).alloc (.cells #[.slice none 0 0] 23) := ⟨_, rfl⟩
      rw [← hw7] at n0 n1 n2 n3
      have HW7 := Lib.hid hw7
      have HB7 := Lib.hid (HB5.out.trans (n3.mono HB5.out.size))
      have HV7 := Lib.hid (HV5.out.later n3)
      have HC7 := Lib.hid n1
      have HD7 := Lib.hid n2
      have HRx7 := Lib.hid (HRx.out.later n3 (Nat.le_refl _))
      have HRy7 := Lib.hid (HRy.out.later n3 (Nat.le_refl _))
      have HN3 := Lib.hid n3
      have HN7 := Lib.hid n0
      have HVl := Lib.hid (show lb < w6.heap.size from (Array.getElem?_eq_some_iff.1 HV5.out.l).1)
      have hccw := Lib.hid HB5.out.size
      clear n0 n1 n2 n3 hw7 HB5 HV5 HRx HRy
      have HA9 := Lib.hid (show Below w.heap.size w (w7.alloc (.cells #[] 5)) from HB7.out.alloc HB7.out.size _)
      have HO0 := Lib.hid (own_empty w7 w7.heap.size (Nat.le_refl _))
      have HLA := Lib.hid (HRx7.out.alloc (.cells #[] 5))
      have hws : w.heap.size ≤ w7.heap.size := HB7.out.size
      have hws1 : w7.heap.size ≤ (w7.alloc (.cells #[] 5)).heap.size := by simp
      have hz1 : ([] : List UInt8).length + X.length ≤ 140737488355328 := by simp; omega
      have hz2 : X.length + Y.length ≤ 140737488355328 := by omega
      have HB67 := Lib.hid (show Below w7.heap.size w7 (w7.alloc (.cells #[] 5)) from (Below.refl _ _).alloc (Nat.le_refl _) _)
      go_wp2_with (first
        | (rw [← HW7.out])
        | (with_reducible refine wpl_append w7.heap.size _ [] ?hs1 HO0.out xv X ?hx1 HLA.out hz1 hws1 w7.heap.size w7 HB67.out (Nat.le_refl _) ?_))
      all_goals (try rfl)
      intro va wa hOa hBa hga
      rw [List.nil_append] at hOa
      have HOa := Lib.hid hOa
      have HBa := Lib.hid hBa
      have HRya := Lib.hid (HRy7.out.later hBa (Nat.le_refl _))
      have hs7 : w7.heap.size ≤ wa.heap.size := hBa.size
      clear hOa hBa hga hws1 HO0 HLA HA9 HB67
      go_wp2_with (with_reducible refine wpl_append w7.heap.size _ X ?hs2 HOa.out yv Y ?hx2 HRya.out hz2 hs7 w7.heap.size w7 HBa.out (Nat.le_refl _) ?_)
      all_goals (try rfl)
      intro vb wb hOb hBb hgb
      have hRb := hOb.rd (by rw [List.length_append]; omega)
      have hvb : ∀ i, i < (X ++ Y).length → w7.heap.size ≤ (adr vb i).block ∧ (adr vb i).block < wb.heap.size := fun i hi => World.ownsRow.lt hOb _ (own_blk hOb hi)
      have HBb := Lib.hid (HB7.out.trans (hBb.mono HB7.out.size))
      have HVb := Lib.hid (HV7.out.later hBb)
      have H6b := Lib.hid (HN3.out.trans (hBb.mono HN3.out.size))
      have hCb := keep10 HC7.out hBb
      have hDb := keep10 HD7.out hBb
      have hbs := hBb.size
      have hTb := HT.out.later HBb.out
      have htb := tabs_lt hTb
      have hlt := HVl.out
      have hn7 := HN7.out
      have hcw := hccw.out
      have htl9 := htl.out
      have hVb := HVb.out
      have hsb9 := HSB.out
      have hlb9 := HLB.out
      have hSb := HR.out.later HBb.out (Nat.le_refl _)
      have hrun := reader_RunK 21 enters_row10 #[.pointer (some ⟨sb, 0, none⟩), .pointer (some ⟨w6.heap.size, 0, none⟩), .pointer (some ⟨w6.heap.size + 1, 0, none⟩)] vb (X ++ Y) wb hRb (TwoP10 wb w6.heap.size (w6.heap.size + 1) (X ++ Y).length a b) (fun g k x a9 b9 hp hs hO => by
        obtain ⟨h1, h2, h3, ⟨tv, q1, q2⟩, ⟨uv, q3, q4⟩⟩ := hp
        exact ⟨h1.trans9 hO (fun j _ hj => .inr (.inr (by omega))), h2, h3, ⟨tv, hO.keep q1 (by omega), q2.only hO (fun q hq => by omega)⟩, ⟨uv, hO.keep q3 (by omega), q4.only hO (fun q hq => by omega)⟩⟩) (fun g w1 h1 h2 h3 hb hR => by
        have hcc1 : w1.heap[w6.heap.size]? = some (.cells #[.slice none 0 0] 23 (0, 0)) := keep10 hCb hb
        have hdd1 : w1.heap[w6.heap.size + 1]? = some (.cells #[.slice none 0 0] 23 (0, 0)) := keep10 hDb hb
        have hv1 := hVb.later hb
        have := batchRow1 (.slice sao sno sco) cs a b w wb g w6.heap.size (w6.heap.size + 1) sb vb (X ++ Y) w1 hR hcc1 hdd1 hv1.s HR.out (hSb.later hb (Nat.le_refl _)) HC.out hcw (by omega) (hTb.later hb) (by omega) (by omega) (by omega) h1 h2 hb (fun i hi => by have := hvb i hi; omega) X.length HR1.out HR2.out
        exact this)
      have HRUN := Lib.hid hrun
      have HBs := Lib.hid hbs
      obtain ⟨Kl, hKl⟩ : ∃ Kl, Kl = (X ++ Y).length := ⟨_, rfl⟩
      have HKl := Lib.hid hKl
      have hksum : Kl = X.length + Y.length := by rw [hKl, List.length_append]
      obtain ⟨xl, hxl⟩ : ∃ xl, xl = X.length := ⟨_, rfl⟩
      obtain ⟨yl, hyl⟩ : ∃ yl, yl = Y.length := ⟨_, rfl⟩
      rw [← hxl] at hlx hksum hX1
      rw [← hyl] at hly hksum hY1
      have q1 : ((Kl : Int) == (xl : Int) + (yl : Int)) = true := by rw [beq_iff_eq]; omega
      have htold : told (X ++ Y) (X ++ Y).length 0 = 0 := by unfold told; rw [if_pos rfl, if_neg (by omega)]
      have HTo := Lib.hid htold
      have HLtv := Lib.hid hlt
      have HN7' := Lib.hid hn7
      clear hrun hRb hvb hOb hBb hgb hCb hDb hbs hTb htb hlt hn7 hcw htl9 hVb hKl hxl hyl hksum htold HOa HBa HRya hs7 hsb9 hlb9 hSb
      go_wp2_with fail
      refine HRUN.out.mono ?_
      rintro e w9 ⟨g, k, x, hk, hg, ⟨hO, rfl, rfl, ⟨tv, t1, t2⟩, ⟨uv, t3, t4⟩⟩, hsh, rfl⟩
      rw [HTo.out, ← HKl.out]
      have hO9 : Below w6.heap.size wb w9 := hO.toBelow (B := w6.heap.size) (fun j hj => by have := HBs.out; have := HN7'.out; omega) (by have := HBs.out; have := HN7'.out; omega)
      have HB9 := Lib.hid (HBb.out.trans (hO9.mono (by have := hccw.out; omega)))
      have H69 := Lib.hid (H6b.out.trans hO9)
      have VA9 := Lib.hid (VA.out.later H69.out (Nat.le_refl _))
      have VB9 := Lib.hid (VB.out.later H69.out (Nat.le_refl _))
      have c5 := cell_of_one t1
      have c6 := cell_of_one t3
      have SA := Lib.hid (zset_Same av tv a a w9 VA9.out t2.rd)
      rw [decide_eq_true rfl] at SA
      have HT2 := Lib.hid t4.rd
      have HT3 := Lib.hid t3
      clear hO t1 t2 t3 t4 hsh hk hg HRUN HBb HVb hO9 H6b H69 VA9
      go_wp2_with fail
      refine SA.out.mono ?_
      rintro e wx ⟨rfl, hb⟩
      have HBx := Lib.hid (HB9.out.trans (hb.mono HB9.out.size))
      have c6 := cell_of_one (keep10 HT3.out hb)
      have SB := Lib.hid (zset_Same bv uv b b wx (VB9.out.later hb (Nat.le_refl _)) (HT2.out.later hb (Nat.le_refl _)))
      rw [decide_eq_true rfl] at SB
      clear hb HB9 SA
      go_wp2_with fail
      refine SB.out.mono ?_
      rintro e wy ⟨rfl, hb⟩
      have HBy := Lib.hid (HBx.out.trans (hb.mono HBx.out.size))
      clear hb HBx SB
      go_wp2
      go_ret
      exact ⟨rfl, HBy.out⟩
    · have hor : (x ≠ 0) ∨ (x = 0 ∧ y ≠ 0) := by omega
      clear hz HSa HSb
      rcases hor with h | ⟨rfl, h⟩
      · have hyb : ((x : Int) != 0) = true := by rw [bne_iff_ne]; omega
        go_wp2
        go_ret
        exact ⟨rfl, HB.out⟩
      · have hyb : ((y : Int) != 0) = true := by rw [bne_iff_ne]; omega
        go_wp2
        go_ret
        exact ⟨rfl, HB.out⟩
  · have hcase2 : g = 1 ∨ (g = 0 ∧ decide ((30 : Int) < (n : Int)) = true) ∨ (g = 0 ∧ decide ((30 : Int) < (n : Int)) = false ∧ decide ((100 : Int) < (ma : Int)) = true) ∨ (g = 0 ∧ decide ((30 : Int) < (n : Int)) = false ∧ decide ((100 : Int) < (ma : Int)) = false ∧ decide ((100 : Int) < (mb : Int)) = true) := by
      rcases hcase with h | ⟨h, h1⟩ | ⟨h, h1, h2⟩ | ⟨h, h1, h2, h3⟩
      · exact .inl h
      · exact .inr (.inl ⟨h, decide_eq_true (by omega)⟩)
      · exact .inr (.inr (.inl ⟨h, decide_eq_false (by omega), decide_eq_true (by omega)⟩))
      · exact .inr (.inr (.inr ⟨h, decide_eq_false (by omega), decide_eq_false (by omega), decide_eq_true (by omega)⟩))
    clear hcase hg
    rcases hcase2 with rfl | ⟨rfl, d1⟩ | ⟨rfl, d1, d2⟩ | ⟨rfl, d1, d2, d3⟩
    all_goals (
      go_wp2_with fail
      refine (K.out.alive w2 HB.out).mono ?_
      rintro e w3 ⟨rfl, hb⟩
      replace HB := Lib.hid (HB.out.trans (hb.mono HB.out.size))
      clear hb
      go_wp2
      go_ret
      exact ⟨rfl, HB.out⟩)

end Go.Proofs.YtedfcnlhdicipaaGreatDoor
