/-
  BatchSums: the law's own walk.
-/
import Derived.Test.YtedfcnlhdicipaaGreatDoorBatBackB
import Derived.Test.YtedfcnlhdicipaaGreatDoorGBaseA
import Derived.RegionTactic
import Derived.BigRegion
set_option linter.unusedVariables false
set_option linter.unusedSimpArgs false
set_option maxRecDepth 1000000
namespace Go.Proofs.YtedfcnlhdicipaaGreatDoor
open Go.RowKit Go.Shelf

theorem keepS {w w' : World} {b : Nat} {o : Obj} (h : w.heap[b]? = some o) (hb : Below w.heap.size w w') : w'.heap[b]? = some o := (hb.block b (Array.getElem?_eq_some_iff.1 h).1).trans h
/-- The variable of the law that lies in a block: the two lists of pairs. -/
def VarS (w : World) (lb : Nat) (x0 x1 : Value) : Prop := w.heap[lb]? = some (.cells #[x0, x1] 48 (0, 0))
theorem VarS.later {w w' : World} {lb : Nat} {x0 x1 : Value} (h : VarS w lb x0 x1) (hb : Below w.heap.size w w') : VarS w' lb x0 x1 := keepS h hb
theorem VarS.cells {w : World} {lb : Nat} {x0 x1 : Value} (h : VarS w lb x0 x1) : w.cell? ⟨lb, 0, none⟩ = some x0 ∧ w.cell? ⟨lb, 1, none⟩ = some x1 := by
  refine ⟨?_, ?_⟩
  · rw [cell_of_row _ _ _ _ _ _ h]; rfl
  · rw [cell_of_row _ _ _ _ _ _ h]; rfl
/-- Sets have the same bytes just if they are the same. -/
theorem wr_inj {cs : List ColB} {a b : List PairB} (pA : PSO a) (kA : chkZ cs a = 0) (pB : PSO b) (kB : chkZ cs b = 0) (h : btWr (kindsL cs) (psL a) = btWr (kindsL cs) (psL b)) : a = b := by
  have h1 := bat_put pA kA (l := btWr (kindsL cs) (psL a)) (m := []) (k := 0) (by simp)
  have h2 := bat_put pB kB (l := btWr (kindsL cs) (psL a)) (m := []) (k := 0) (by simp [h])
  rw [h1] at h2
  injection h2 with h2 _
  exact psL_inj h2

set_option maxHeartbeats 16000000 in
theorem batchSums_walk (v1 : Value) (cs : List ColB) (x0 x1 : Value) (A B : List PairB) (w : World) (hR : RdC w v1 cs) (hC : CS cs) (hA : RdP w x0 A ∧ PSO A ∧ A.length * 32 ≤ 140737488351232) (hB : RdP w x1 B ∧ PSO B ∧ B.length * 32 ≤ 140737488351232) (hT : Tabs w) :
    Calls Tryz.prog 7 #[v1, .agg #[x0, x1]] w fun e w' => e = .returned (.bool true) ∧ Below w.heap.size w w' := by
  have K := Lib.hid (batK v1 cs w hR hC hT)
  have hl1 := hR.len
  have hsm1 := hR.small
  have hla := hA.1.len
  have hsma := hA.1.small
  have hlb := hB.1.len
  have hsmb := hB.1.small
  have RA := Lib.hid (fun wz (hz : Below w.heap.size w wz) => hA.1.later hz (Nat.le_refl _))
  have RB := Lib.hid (fun wz (hz : Below w.heap.size w wz) => hB.1.later hz (Nat.le_refl _))
  have PA := Lib.hid hA.2.1
  have PB := Lib.hid hB.2.1
  have CA := Lib.hid (fun wz (hz : Below w.heap.size w wz) => zset_Collect v1 x0 cs A wz (hR.later hz (Nat.le_refl _)) (hA.1.later hz (Nat.le_refl _)) hC hA.2.1 (hT.later hz) (by have := hA.2.2; omega))
  have CB := Lib.hid (fun wz (hz : Below w.heap.size w wz) => zset_Collect v1 x1 cs B wz (hR.later hz (Nat.le_refl _)) (hB.1.later hz (Nat.le_refl _)) hC hB.2.1 (hT.later hz) (by have := hB.2.2; omega))
  have ZS := Lib.hid (fun wz va vb a b (hz : Below w.heap.size w wz) (ha : RdP wz va a) (hb : RdP wz vb b) (pa : PSO a) (pb : PSO b) => zset_Sum v1 va vb cs a b wz (hR.later hz (Nat.le_refl _)) ha hb hC pa pb (hT.later hz))
  obtain ⟨ao0, no0, co0, rfl⟩ := hA.1.litN
  obtain ⟨ao1, no1, co1, rfl⟩ := hB.1.litN
  obtain ⟨n, hn⟩ : ∃ n, n = cs.length := ⟨_, rfl⟩
  obtain ⟨ma, hma⟩ : ∃ m, m = A.length := ⟨_, rfl⟩
  obtain ⟨mb, hmb⟩ : ∃ m, m = B.length := ⟨_, rfl⟩
  rw [← hn] at hl1 hsm1
  rw [← hma] at hla hsma
  rw [← hmb] at hlb hsmb
  have GR := Lib.hid (fun wz (hz : Below w.heap.size w wz) => great_two10 (.slice ao0 no0 co0) (.slice ao1 no1 co1) A B wz (RA.out wz hz) (RB.out wz hz))
  obtain ⟨x, hx⟩ : ∃ x, x = clcE cs A := ⟨_, rfl⟩
  obtain ⟨y, hy⟩ : ∃ y, y = clcE cs B := ⟨_, rfl⟩
  obtain ⟨a, ha⟩ : ∃ a, a = clcO cs A := ⟨_, rfl⟩
  obtain ⟨b, hb9⟩ : ∃ b, b = clcO cs B := ⟨_, rfl⟩
  have HSa := Lib.hid (fun h => clc_set (cs := cs) PA.out (hx ▸ h : clcE cs A = 0))
  have HSb := Lib.hid (fun h => clc_set (cs := cs) PB.out (hy ▸ h : clcE cs B = 0))
  have hpa : PSO a := by rw [ha]; exact clcO_pso PA.out
  have hpb : PSO b := by rw [hb9]; exact clcO_pso PB.out
  rw [← hx, ← ha] at CA
  rw [← hy, ← hb9] at CB
  rw [← ha] at HSa
  rw [← hb9] at HSb
  have HPA := Lib.hid hpa
  have HPB := Lib.hid hpb
  obtain ⟨z1, z3⟩ := new_one10 w (.cells #[.slice ao0 no0 co0, .slice ao1 no1 co1] 48)
  have HV := Lib.hid (show VarS (w.alloc (.cells #[.slice ao0 no0 co0, .slice ao1 no1 co1] 48)) w.heap.size (.slice ao0 no0 co0) (.slice ao1 no1 co1) from z1)
  have HB := Lib.hid z3
  clear hR hA hB hn hma hmb hx hy hC hT z1 z3 ha hb9 hpa hpb
  go_enter Tryz.func7, Tryz.ntmps7
  go_wp2_with fail
  generalize w.alloc (.cells #[.slice ao0 no0 co0, .slice ao1 no1 co1] 48) = w0 at *
  obtain ⟨lb, hlb9⟩ : ∃ lb, lb = w.heap.size := ⟨_, rfl⟩
  rw [← hlb9] at HV
  rw [← hlb9]
  clear hlb9
  refine (K.out.alive w0 HB.out).mono ?_
  rintro e w1 ⟨rfl, hb⟩
  replace HB := Lib.hid (HB.out.trans (hb.mono HB.out.size))
  replace HV := Lib.hid (HV.out.later hb)
  clear hb
  obtain ⟨c2, c3⟩ := HV.out.cells
  go_wp2_with fail
  refine (GR.out w1 HB.out).mono ?_
  rintro e w2 ⟨g, rfl, hg, hb⟩
  replace HB := Lib.hid (HB.out.trans (hb.mono HB.out.size))
  replace HV := Lib.hid (HV.out.later hb)
  clear hb GR c2 c3
  obtain ⟨c2, c3⟩ := HV.out.cells
  have hcase : (g = 0 ∧ n ≤ 30 ∧ ma ≤ 100 ∧ mb ≤ 100) ∨ (g = 1 ∨ (g = 0 ∧ 30 < n) ∨ (g = 0 ∧ n ≤ 30 ∧ 100 < ma) ∨ (g = 0 ∧ n ≤ 30 ∧ ma ≤ 100 ∧ 100 < mb)) := by omega
  rcases hcase with ⟨rfl, hn, hma, hmb⟩ | hcase
  · have d1 : decide ((30 : Int) < (n : Int)) = false := decide_eq_false (by omega)
    have d2 : decide ((100 : Int) < (ma : Int)) = false := decide_eq_false (by omega)
    have d3 : decide ((100 : Int) < (mb : Int)) = false := decide_eq_false (by omega)
    clear hg hn hma hmb
    go_wp2_with fail
    refine (CA.out w2 HB.out).mono ?_
    rintro e w3 ⟨av, rfl, hr, hb⟩
    replace HB := Lib.hid (HB.out.trans (hb.mono HB.out.size))
    replace HV := Lib.hid (HV.out.later hb)
    have VA := Lib.hid hr
    clear hb hr CA c2 c3
    obtain ⟨c2, c3⟩ := HV.out.cells
    go_wp2_with fail
    refine (CB.out w3 HB.out).mono ?_
    rintro e w4 ⟨bv, rfl, hr, hb⟩
    replace HB := Lib.hid (HB.out.trans (hb.mono HB.out.size))
    replace VA := Lib.hid (VA.out.later hb (Nat.le_refl _))
    have VB := Lib.hid hr
    clear hb hr CB c2 c3 HV
    obtain ⟨z, hz⟩ : ∃ z, z = sumE cs a b := ⟨_, rfl⟩
    obtain ⟨S, hS⟩ : ∃ S, S = sumO cs a b := ⟨_, rfl⟩
    have ZS1 := Lib.hid (fun wz va vb hz ha hb => ZS.out wz va vb a b hz ha hb HPA.out HPB.out)
    rw [← hz, ← hS] at ZS1
    clear hz hS ZS
    go_wp2_with fail
    refine (ZS1.out w4 av bv HB.out VA.out VB.out).mono ?_
    rintro e w5 ⟨sv, rfl, hr, hb⟩
    replace HB := Lib.hid (HB.out.trans (hb.mono HB.out.size))
    replace VA := Lib.hid (VA.out.later hb (Nat.le_refl _))
    replace VB := Lib.hid (VB.out.later hb (Nat.le_refl _))
    have VS := Lib.hid hr
    clear hb hr
    by_cases hall : x = 0 ∧ y = 0 ∧ z = 0
    · obtain ⟨rfl, rfl, rfl⟩ := hall
      obtain ⟨pA, kA⟩ := HSa.out rfl
      obtain ⟨pB, kB⟩ := HSb.out rfl
      have hinj := wr_inj pA kA pB kB
      have hX1 := wr_small pA kA
      have hY1 := wr_small pB kB
      obtain ⟨X, hX⟩ : ∃ X, X = btWr (kindsL cs) (psL a) := ⟨_, rfl⟩
      obtain ⟨Y, hY⟩ : ∃ Y, Y = btWr (kindsL cs) (psL b) := ⟨_, rfl⟩
      have KWA := Lib.hid (fun wz v hz hr => write_set K.out pA kA hX wz v hz hr)
      have KWB := Lib.hid (fun wz v hz hr => write_set K.out pB kB hY wz v hz hr)
      have KRA := Lib.hid (fun wz u hz hr => read_back K.out pA kA hX wz u hz hr)
      have KRB := Lib.hid (fun wz u hz hr => read_back K.out pB kB hY wz u hz hr)
      have hXY : a = b → X = Y := fun h => by rw [hX, hY, h]
      rw [← hX, ← hY] at hinj
      rw [← hX] at hX1
      rw [← hY] at hY1
      have HXY := Lib.hid (show X = Y ↔ a = b from ⟨hinj, hXY⟩)
      clear pA pB kA kB hX hY HSa HSb hinj hXY
      go_wp2_with fail
      refine (KWA.out w5 av HB.out VA.out).mono ?_
      rintro e w6 ⟨xv, rfl, hO, hb⟩
      replace HB := Lib.hid (HB.out.trans (hb.mono HB.out.size))
      replace VA := Lib.hid (VA.out.later hb (Nat.le_refl _))
      replace VB := Lib.hid (VB.out.later hb (Nat.le_refl _))
      replace VS := Lib.hid (VS.out.later hb (Nat.le_refl _))
      have HRx := Lib.hid hO
      clear hb hO KWA
      go_wp2_with fail
      refine (KWB.out w6 bv HB.out VB.out).mono ?_
      rintro e w7 ⟨yv, rfl, hO, hb⟩
      replace HB := Lib.hid (HB.out.trans (hb.mono HB.out.size))
      replace VA := Lib.hid (VA.out.later hb (Nat.le_refl _))
      replace VB := Lib.hid (VB.out.later hb (Nat.le_refl _))
      replace VS := Lib.hid (VS.out.later hb (Nat.le_refl _))
      replace HRx := Lib.hid (HRx.out.later hb (Nat.le_refl _))
      have HRy := Lib.hid hO
      clear hb hO KWB
      go_wp2_with fail
      refine (KRA.out w7 xv HB.out HRx.out).mono ?_
      rintro e w8 ⟨cv, rfl, hr, hb⟩
      replace HB := Lib.hid (HB.out.trans (hb.mono HB.out.size))
      replace VA := Lib.hid (VA.out.later hb (Nat.le_refl _))
      replace VB := Lib.hid (VB.out.later hb (Nat.le_refl _))
      replace VS := Lib.hid (VS.out.later hb (Nat.le_refl _))
      replace HRx := Lib.hid (HRx.out.later hb (Nat.le_refl _))
      replace HRy := Lib.hid (HRy.out.later hb (Nat.le_refl _))
      have VC := Lib.hid hr
      clear hb hr KRA
      go_wp2_with fail
      refine (KRB.out w8 yv HB.out HRy.out).mono ?_
      rintro e w9 ⟨dv, rfl, hr, hb⟩
      replace HB := Lib.hid (HB.out.trans (hb.mono HB.out.size))
      replace VA := Lib.hid (VA.out.later hb (Nat.le_refl _))
      replace VB := Lib.hid (VB.out.later hb (Nat.le_refl _))
      replace VS := Lib.hid (VS.out.later hb (Nat.le_refl _))
      replace VC := Lib.hid (VC.out.later hb (Nat.le_refl _))
      replace HRx := Lib.hid (HRx.out.later hb (Nat.le_refl _))
      replace HRy := Lib.hid (HRy.out.later hb (Nat.le_refl _))
      have VD := Lib.hid hr
      clear hb hr KRB
      go_wp2_with fail
      refine (ZS1.out w9 cv dv HB.out VC.out VD.out).mono ?_
      rintro e w10 ⟨tv, rfl, hr, hb⟩
      replace HB := Lib.hid (HB.out.trans (hb.mono HB.out.size))
      replace VA := Lib.hid (VA.out.later hb (Nat.le_refl _))
      replace VB := Lib.hid (VB.out.later hb (Nat.le_refl _))
      replace VS := Lib.hid (VS.out.later hb (Nat.le_refl _))
      replace HRx := Lib.hid (HRx.out.later hb (Nat.le_refl _))
      replace HRy := Lib.hid (HRy.out.later hb (Nat.le_refl _))
      have SA := Lib.hid (fun wz (h : Below w10.heap.size w10 wz) => show Calls Tryz.prog 19 #[tv, sv] wz fun e w' => e = .returned (.bool true) ∧ Below wz.heap.size wz w' from by
        have := zset_Same tv sv S S wz (hr.later h (Nat.le_refl _)) (VS.out.later h (Nat.le_refl _))
        rw [decide_eq_true rfl] at this
        exact this)
      have SB := Lib.hid (fun wz (h : Below w10.heap.size w10 wz) => zset_Same av bv a b wz (VA.out.later h (Nat.le_refl _)) (VB.out.later h (Nat.le_refl _)))
      have HRxd := Lib.hid (HRx.out.drew)
      have HRyd := Lib.hid (HRy.out.drew)
      have HC9 := Lib.hid (show Below w10.heap.size w10 w10.drew from (Below.refl _ _).drew)
      obtain ⟨bt, hbt⟩ : ∃ bt : Bool, bt = decide (a = b) := ⟨_, rfl⟩
      rw [← hbt] at SB
      have HBt := Lib.hid hbt
      clear hb hr VA VB VS VC VD HRx HRy hbt ZS1
      go_wp2_with fail
      refine Ord.wp_region_ord [(0, false), (1, false), (2, false), (3, false), (4, false), (5, false), (6, false), (7, false), (8, false), (9, false), (10, false), (11, false), (12, false), (13, false), (14, false), (15, false), (16, false), (17, false), (18, false), (19, false), (20, false), (21, true), (22, false), (23, false), (24, false), (25, false), (26, false), (27, false), (28, false), (29, false), (30, false), (31, true), (32, false), (33, false), (34, false)] (by kernel_rfl) rfl (by kernel_rfl) (by kernel_rfl) (fun _ _ _ d _ h => by cases d <;> exact h) ?_
      refine Ord.ord_still rfl rfl (by kernel_rfl) (fun K hK => ?_)
      go_big_quiet_op
      refine hK _ ?_; clear hK K
      refine Ord.ord_still rfl rfl (by kernel_rfl) (fun K hK => ?_)
      go_big_quiet_op
      refine hK _ ?_; clear hK K
      refine Ord.ord_still rfl rfl (by kernel_rfl) (fun K hK => ?_)
      go_big_quiet_op
      refine hK _ ?_; clear hK K
      refine Ord.ord_still rfl rfl (by kernel_rfl) (fun K hK => ?_)
      go_big_quiet_op
      refine hK _ ?_; clear hK K
      refine Ord.ord_still rfl rfl (by kernel_rfl) (fun K hK => ?_)
      go_big_quiet_op
      refine hK _ ?_; clear hK K
      refine Ord.ord_still rfl rfl (by kernel_rfl) (fun K hK => ?_)
      go_big_quiet_op
      refine hK _ ?_; clear hK K
      refine Ord.ord_still rfl rfl (by kernel_rfl) (fun K hK => ?_)
      go_big_quiet_op
      refine hK _ ?_; clear hK K
      refine Ord.ord_still rfl rfl (by kernel_rfl) (fun K hK => ?_)
      go_big_quiet_op
      refine hK _ ?_; clear hK K
      refine Ord.ord_still rfl rfl (by kernel_rfl) (fun K hK => ?_)
      go_big_quiet_op
      refine hK _ ?_; clear hK K
      refine Ord.ord_still rfl rfl (by kernel_rfl) (fun K hK => ?_)
      go_big_quiet_op
      refine hK _ ?_; clear hK K
      refine Ord.ord_still rfl rfl (by kernel_rfl) (fun K hK => ?_)
      go_big_quiet_op
      refine hK _ ?_; clear hK K
      refine Ord.ord_still rfl rfl (by kernel_rfl) (fun K hK => ?_)
      go_big_quiet_op
      refine hK _ ?_; clear hK K
      refine Ord.ord_still rfl rfl (by kernel_rfl) (fun K hK => ?_)
      go_big_quiet_op
      refine hK _ ?_; clear hK K
      refine Ord.ord_still rfl rfl (by kernel_rfl) (fun K hK => ?_)
      go_big_quiet_op
      refine hK _ ?_; clear hK K
      refine Ord.ord_still rfl rfl (by kernel_rfl) (fun K hK => ?_)
      go_big_quiet_op
      refine hK _ ?_; clear hK K
      refine Ord.ord_still rfl rfl (by kernel_rfl) (fun K hK => ?_)
      go_big_quiet_op
      refine hK _ ?_; clear hK K
      refine Ord.ord_still rfl rfl (by kernel_rfl) (fun K hK => ?_)
      go_big_quiet_op
      refine hK _ ?_; clear hK K
      refine Ord.ord_still rfl rfl (by kernel_rfl) (fun K hK => ?_)
      go_big_quiet_op
      refine hK _ ?_; clear hK K
      refine Ord.ord_still rfl rfl (by kernel_rfl) (fun K hK => ?_)
      go_big_quiet_op
      refine hK _ ?_; clear hK K
      refine Ord.ord_still rfl rfl (by kernel_rfl) (fun K hK => ?_)
      go_big_quiet_op
      refine hK _ ?_; clear hK K
      refine Ord.ord_still rfl rfl (by kernel_rfl) (fun K hK => ?_)
      go_big_quiet_op
      refine hK _ ?_; clear hK K
      refine Ord.ord_loud rfl (by kernel_rfl) (fun K hK => ?_)
      go_big_op
      refine (SA.out _ HC9.out).mono ?_
      rintro e wp ⟨rfl, hb⟩
      replace HC9 := Lib.hid (HC9.out.trans (hb.mono HC9.out.size))
      have hs1 := Rd.str_later (HRxd.out.later hb (Nat.le_refl _))
      have hs2 := Rd.str_later (HRyd.out.later hb (Nat.le_refl _))
      refine hK _ _ hb ?_
      clear hb
      clear hK K
      refine Ord.ord_still rfl rfl (by kernel_rfl) (fun K hK => ?_)
      go_big_quiet_op
      refine hK _ ?_; clear hK K
      refine Ord.ord_still rfl rfl (by kernel_rfl) (fun K hK => ?_)
      go_big_quiet_op
      refine hK _ ?_; clear hK K
      refine Ord.ord_still rfl rfl (by kernel_rfl) (fun K hK => ?_)
      go_big_quiet_op
      refine hK _ ?_; clear hK K
      refine Ord.ord_still rfl rfl (by kernel_rfl) (fun K hK => ?_)
      go_big_quiet_op
      refine hK _ ?_; clear hK K
      refine Ord.ord_still rfl rfl (by kernel_rfl) (fun K hK => ?_)
      go_big_quiet_op
      refine hK _ ?_; clear hK K
      refine Ord.ord_still rfl rfl (by kernel_rfl) (fun K hK => ?_)
      go_big_quiet_op
      refine hK _ ?_; clear hK K
      refine Ord.ord_still rfl rfl (by kernel_rfl) (fun K hK => ?_)
      go_big_quiet_op
      refine hK _ ?_; clear hK K
      refine Ord.ord_still rfl rfl (by kernel_rfl) (fun K hK => ?_)
      go_big_quiet_op
      refine hK _ ?_; clear hK K
      refine Ord.ord_still rfl rfl (by kernel_rfl) (fun K hK => ?_)
      go_big_quiet_op
      refine hK _ ?_; clear hK K
      refine Ord.ord_loud rfl (by kernel_rfl) (fun K hK => ?_)
      go_big_op
      refine (SB.out _ HC9.out).mono ?_
      rintro e wq ⟨rfl, hb⟩
      replace HC9 := Lib.hid (HC9.out.trans (hb.mono HC9.out.size))
      refine hK _ _ hb ?_
      clear hb
      clear hK K
      refine Ord.ord_still rfl rfl (by kernel_rfl) (fun K hK => ?_)
      go_big_quiet_op
      refine hK _ ?_; clear hK K
      refine Ord.ord_still rfl rfl (by kernel_rfl) (fun K hK => ?_)
      go_big_quiet_op
      refine hK _ ?_; clear hK K
      refine Ord.ord_still rfl rfl (by kernel_rfl) (fun K hK => ?_)
      go_big_quiet_op
      refine hK _ ?_; clear hK K
      refine Ord.ord_nil ?_
      have hF : ((X == Y) == bt) = true := by
        by_cases h : a = b
        · have h1 : X = Y := HXY.out.2 h
          rw [HBt.out, decide_eq_true h, h1]; simp
        · have h1 : ¬ X = Y := fun h9 => h (HXY.out.1 h9)
          rw [HBt.out, decide_eq_false h, beq_eq_false_iff_ne.2 h1]; rfl
      rw [hF]
      have HBF := Lib.hid (HB.out.trans (HC9.out.mono HB.out.size))
      clear hF SA SB hs1 hs2 HRxd HRyd HC9
      go_wp2
      go_ret
      exact ⟨rfl, HBF.out⟩
    · have hor : (x ≠ 0) ∨ (x = 0 ∧ y ≠ 0) ∨ (x = 0 ∧ y = 0 ∧ z ≠ 0) := by omega
      clear hall HSa HSb
      rcases hor with h | ⟨rfl, h⟩ | ⟨rfl, rfl, h⟩
      · have hyb : ((x : Int) != 0) = true := by rw [bne_iff_ne]; omega
        go_wp2
        go_ret
        exact ⟨rfl, HB.out⟩
      · have hyb : ((y : Int) != 0) = true := by rw [bne_iff_ne]; omega
        go_wp2
        go_ret
        exact ⟨rfl, HB.out⟩
      · have hyb : ((z : Int) != 0) = true := by rw [bne_iff_ne]; omega
        go_wp2
        go_ret
        exact ⟨rfl, HB.out⟩
  · have hcase2 : g = 1 ∨ (g = 0 ∧ decide ((30 : Int) < (n : Int)) = true) ∨ (g = 0 ∧ decide ((30 : Int) < (n : Int)) = false ∧ decide ((100 : Int) < (ma : Int)) = true) ∨ (g = 0 ∧ decide ((30 : Int) < (n : Int)) = false ∧ decide ((100 : Int) < (ma : Int)) = false ∧ decide ((100 : Int) < (mb : Int)) = true) := by
      rcases hcase with h | ⟨h, h1⟩ | ⟨h, h1, h2⟩ | ⟨h, h1, h2, h3⟩
      · exact .inl h
      · exact .inr (.inl ⟨h, decide_eq_true (by omega)⟩)
      · exact .inr (.inr (.inl ⟨h, decide_eq_false (by omega), decide_eq_true (by omega)⟩))
      · exact .inr (.inr (.inr ⟨h, decide_eq_false (by omega), decide_eq_false (by omega), decide_eq_true (by omega)⟩))
    clear hcase hg
    rcases hcase2 with rfl | ⟨rfl, d1⟩ | ⟨rfl, d1, d2⟩ | ⟨rfl, d1, d2, d3⟩
    all_goals (
      go_wp2_with fail
      refine (K.out.alive w2 HB.out).mono ?_
      rintro e w3 ⟨rfl, hb⟩
      replace HB := Lib.hid (HB.out.trans (hb.mono HB.out.size))
      clear hb
      go_wp2
      go_ret
      exact ⟨rfl, HB.out⟩)

end Go.Proofs.YtedfcnlhdicipaaGreatDoor
