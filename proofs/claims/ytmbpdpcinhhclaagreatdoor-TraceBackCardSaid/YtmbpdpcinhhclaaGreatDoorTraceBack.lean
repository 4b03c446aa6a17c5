/- -/
import Derived.Test.YtmbpdpcinhhclaaGreatDoorKTrcS
import Derived.Test.YtmbpdpcinhhclaaGreatDoorKTrcP
import Derived.Deep.QuietTactic
import Derived.BigQuiet
set_option linter.unusedVariables false
set_option linter.unusedSimpArgs false
set_option maxRecDepth 1000000
namespace Go.Proofs.YtmbpdpcinhhclaaGreatDoor
open Go.RowKit Go.Shelf

set_option maxHeartbeats 16000000 in
theorem traceBack_K (v1 v2 : Value) (cs ds : List ColB) (es fs : List EntB) (w : World) (h1 : RdT13 w v1 cs es) (hC : CS cs) (hO : ∀ x ∈ es, EnO x) (h2 : RdT13 w v2 ds fs) (hD : CS ds) (hP : ∀ x ∈ fs, EnO x) (K : TrcK w) :
    Calls Tryz.prog 5 #[v1, v2] w fun e w' => e = .returned (.bool true) ∧ Below w.heap.size w w' := by
  obtain ⟨s1, e1, rfl, hR1, hZ1⟩ := h1
  obtain ⟨s2, e2, rfl, hR2, hZ2⟩ := h2
  obtain ⟨a1, l1, p1, rfl⟩ := hR1.lit12
  obtain ⟨a2, l2, p2, rfl⟩ := hR2.lit12
  obtain ⟨a3, l3, p3, rfl⟩ := hZ1.lit
  obtain ⟨a4, l4, p4, rfl⟩ := hZ2.lit
  have hle := hZ1.len
  have HT1 := Lib.hid (fun wz (hz : Below w.heap.size w wz) => show RdT13 wz (.agg #[.slice a1 l1 p1, .slice a3 l3 p3]) cs es from ⟨_, _, rfl, hR1.later hz (Nat.le_refl _), hZ1.later hz (Nat.le_refl _)⟩)
  have HT2 := Lib.hid (fun wz (hz : Below w.heap.size w wz) => show RdT13 wz (.agg #[.slice a2 l2 p2, .slice a4 l4 p4]) ds fs from ⟨_, _, rfl, hR2.later hz (Nat.le_refl _), hZ2.later hz (Nat.le_refl _)⟩)
  obtain ⟨z0, z1, z2, z3⟩ := new2 w (.cells #[.slice a1 l1 p1, .slice a3 l3 p3] 25) (.cells #[.slice a2 l2 p2, .slice a4 l4 p4] 25)
  have HV := Lib.hid (And.intro (show Tbox ((w.alloc (.cells #[.slice a1 l1 p1, .slice a3 l3 p3] 25)).alloc (.cells #[.slice a2 l2 p2, .slice a4 l4 p4] 25)) w.heap.size (.slice a1 l1 p1) (.slice a3 l3 p3) from z1) (show Tbox ((w.alloc (.cells #[.slice a1 l1 p1, .slice a3 l3 p3] 25)).alloc (.cells #[.slice a2 l2 p2, .slice a4 l4 p4] 25)) (w.heap.size + 1) (.slice a2 l2 p2) (.slice a4 l4 p4) from z2))
  have HB := Lib.hid z3
  have HC := Lib.hid hC
  have HO := Lib.hid hO
  have HD := Lib.hid hD
  have HP := Lib.hid hP
  clear hR1 hR2 hZ1 hZ2 z0 z1 z2 z3 hC hO hD hP
  go_enter Tryz.func5, Tryz.ntmps5
  go_wp2_with fail
  generalize (w.alloc (.cells #[.slice a1 l1 p1, .slice a3 l3 p3] 25)).alloc (.cells #[.slice a2 l2 p2, .slice a4 l4 p4] 25) = w0 at *
  obtain ⟨sb, hsb⟩ : ∃ sb, sb = w.heap.size := ⟨_, rfl⟩
  obtain ⟨lb, hlb9⟩ : ∃ lb, lb = sb + 1 := ⟨_, rfl⟩
  rw [← hsb] at HV
  rw [← hsb]
  rw [← hlb9] at HV
  rw [← hlb9]
  clear hsb hlb9
  refine (K.alive w0 HB.out).mono ?_
  rintro e w1 ⟨rfl, hb⟩
  replace HB := Lib.hid (HB.out.trans (hb.mono HB.out.size))
  replace HV := Lib.hid (And.intro (HV.out.1.later hb) (HV.out.2.later hb))
  clear hb
  obtain ⟨c0, c1⟩ := HV.out.1.cells
  obtain ⟨c2, c3⟩ := HV.out.2.cells
  go_wp2_with fail
  refine (law13_great _ cs es w1 (HT1.out w1 HB.out)).mono ?_
  rintro e w2 ⟨x, rfl, hx, hf, hb⟩
  replace HB := Lib.hid (HB.out.trans (hb.mono HB.out.size))
  replace HV := Lib.hid (And.intro (HV.out.1.later hb) (HV.out.2.later hb))
  clear hb c0 c1 c2 c3
  obtain ⟨c0, c1⟩ := HV.out.1.cells
  obtain ⟨c2, c3⟩ := HV.out.2.cells
  rcases hx with rfl | rfl
  · have hfew := hf rfl
    have hes := hfew.1
    clear hf hfew
    go_wp2_with fail
    refine (law13_great _ ds fs w2 (HT2.out w2 HB.out)).mono ?_
    rintro e w3 ⟨x, rfl, hx, hf, hb⟩
    replace HB := Lib.hid (HB.out.trans (hb.mono HB.out.size))
    replace HV := Lib.hid (And.intro (HV.out.1.later hb) (HV.out.2.later hb))
    clear hb c0 c1 c2 c3
    obtain ⟨c0, c1⟩ := HV.out.1.cells
    obtain ⟨c2, c3⟩ := HV.out.2.cells
    rcases hx with rfl | rfl
    · have hfew := hf rfl
      have hfs := hfew.1
      clear hf hfew
      have hsm1 := trE_small (cs := cs) (es := es) (by omega)
      have hsm2 := trE_small (cs := ds) (es := fs) (by omega)
      have EA := Lib.hid (fun wz hz => K.encode wz _ cs es hz (HT1.out wz hz) HC.out HO.out)
      have EB := Lib.hid (fun wz hz => K.encode wz _ ds fs hz (HT2.out wz hz) HD.out HP.out)
      have hbk := trE_back (cs := cs) HO.out
      have her := trE_err (cs := cs) (es := es)
      have hsa := trE_same (cs := cs) (ds := ds) HO.out HP.out
      obtain ⟨R, hRR⟩ : ∃ R, R = trE cs es := ⟨_, rfl⟩
      obtain ⟨S, hSS⟩ : ∃ S, S = trE ds fs := ⟨_, rfl⟩
      rw [← hRR] at EA hsm1 hbk her
      rw [← hSS] at EB hsm2
      rw [← hRR, ← hSS] at hsa
      obtain ⟨r, s, vw, i, y⟩ := R
      obtain ⟨q, s', vw', i', z⟩ := S
      dsimp only at hsm1 hsm2 hbk her hsa
      have HSM := Lib.hid (And.intro hsm1 hsm2)
      have HBK := Lib.hid hbk
      have HER := Lib.hid her
      have HSA := Lib.hid hsa
      clear hRR hSS hsm1 hsm2 hbk her hsa hes hfs
      go_wp2_with fail
      refine (EA.out w3 HB.out).mono ?_
      rintro e w4 ⟨bv, rfl, ho, hb⟩
      replace HB := Lib.hid (HB.out.trans (hb.mono HB.out.size))
      replace HV := Lib.hid (And.intro (HV.out.1.later hb) (HV.out.2.later hb))
      have HA := Lib.hid (show Rd w4 bv r from ho.rd (by have := HSM.out.1; dsimp only; omega))
      clear hb ho c0 c1 c2 c3 EA
      obtain ⟨c0, c1⟩ := HV.out.1.cells
      obtain ⟨c2, c3⟩ := HV.out.2.cells
      go_wp2_with fail
      refine (EB.out w4 HB.out).mono ?_
      rintro e w5 ⟨cv, rfl, ho, hb⟩
      replace HB := Lib.hid (HB.out.trans (hb.mono HB.out.size))
      replace HV := Lib.hid (And.intro (HV.out.1.later hb) (HV.out.2.later hb))
      replace HA := Lib.hid (And.intro (HA.out.later hb (Nat.le_refl _)) (show Rd w5 cv q from ho.rd (by have := HSM.out.2; dsimp only; omega)))
      clear hb ho c0 c1 c2 c3 EB
      obtain ⟨c0, c1⟩ := HV.out.1.cells
      obtain ⟨c2, c3⟩ := HV.out.2.cells
      have hlb := HA.out.1.len
      by_cases hy : y = 0
      · subst hy
        obtain ⟨k1, k2, k3, k4, k5⟩ := HBK.out rfl
        subst k1
        have DC := Lib.hid (K.decode w5 bv r HB.out HA.out.1)
        have SM := Lib.hid (K.same)
        clear K HER HBK
        go_wp2_with fail
        refine DC.out.mono ?_
        rintro e w6 ⟨tv, rfl, hT, hCS, hb⟩
        rw [k2, k3] at hT
        rw [k4, k5]
        replace HB := Lib.hid (HB.out.trans (hb.mono HB.out.size))
        replace HV := Lib.hid (And.intro (HV.out.1.later hb) (HV.out.2.later hb))
        replace HA := Lib.hid (And.intro (HA.out.1.later hb (Nat.le_refl _)) (HA.out.2.later hb (Nat.le_refl _)))
        clear hb hCS DC c0 c1 c2 c3 k2 k3 k4 k5
        obtain ⟨sv, ev, rfl, hR, hZ⟩ := hT
        obtain ⟨a5, l5, p5, rfl⟩ := hR.lit12
        obtain ⟨a6, l6, p6, rfl⟩ := hZ.lit
        have N := new_one12 w6 (.cells #[.slice a5 l5 p5, .slice a6 l6 p6] 25)
        have HX := Lib.hid (show Tbox (w6.alloc (.cells #[.slice a5 l5 p5, .slice a6 l6 p6] 25)) w6.heap.size (.slice a5 l5 p5) (.slice a6 l6 p6) from N.1)
        have HT := Lib.hid (show RdT13 (w6.alloc (.cells #[.slice a5 l5 p5, .slice a6 l6 p6] 25)) (.agg #[.slice a5 l5 p5, .slice a6 l6 p6]) cs es from ⟨_, _, rfl, hR.later N.2 (Nat.le_refl _), hZ.later N.2 (Nat.le_refl _)⟩)
        replace HB := Lib.hid (HB.out.trans (N.2.mono HB.out.size))
        replace HV := Lib.hid (And.intro (HV.out.1.later N.2) (HV.out.2.later N.2))
        replace HA := Lib.hid (And.intro (HA.out.1.later N.2 (Nat.le_refl _)) (HA.out.2.later N.2 (Nat.le_refl _)))
        clear N hR hZ
        obtain ⟨c0, c1⟩ := HV.out.1.cells
        obtain ⟨c4, c5⟩ := HX.out.cells
        go_wp2_with fail
        refine (SM.out _ _ _ cs cs es es HB.out (HT1.out _ HB.out) HT.out).mono ?_
        rintro e w7 ⟨b, rfl, hbi, hb⟩
        obtain rfl : b = true := hbi.2 ⟨rfl, rfl⟩
        replace HB := Lib.hid (HB.out.trans (hb.mono HB.out.size))
        replace HV := Lib.hid (And.intro (HV.out.1.later hb) (HV.out.2.later hb))
        replace HA := Lib.hid (And.intro (HA.out.1.later hb (Nat.le_refl _)) (HA.out.2.later hb (Nat.le_refl _)))
        clear hb hbi c0 c1 c4 c5 HX HT
        obtain ⟨c0, c1⟩ := HV.out.1.cells
        obtain ⟨c2, c3⟩ := HV.out.2.cells
        by_cases hz : z = 0
        · subst hz
          have hsa := HSA.out (by simp) (by simp)
          have HDr := (Below.refl w7.heap.size w7).drew
          have hs1 := Rd.str_later (HA.out.1.later HDr (Nat.le_refl _))
          have hs2 := Rd.str_later (HA.out.2.later HDr (Nat.le_refl _))
          have m0 := fun x : Ord.GW w7.drew => keep_cell x.grew (keep_cell HDr c0)
          have m1 := fun x : Ord.GW w7.drew => keep_cell x.grew (keep_cell HDr c1)
          have m2 := fun x : Ord.GW w7.drew => keep_cell x.grew (keep_cell HDr c2)
          have m3 := fun x : Ord.GW w7.drew => keep_cell x.grew (keep_cell HDr c3)
          have HBd := Lib.hid (fun wz (hz : Below w7.drew.heap.size w7.drew wz) => HB.out.trans ((HDr.trans hz).mono HB.out.size))
          have SA := Lib.hid (fun wz (hz : Below w7.drew.heap.size w7.drew wz) => SM.out wz _ _ cs ds es fs (HBd.out wz hz) (HT1.out wz (HBd.out wz hz)) (HT2.out wz (HBd.out wz hz)))
          have hW9 := Below.refl w7.drew.heap.size w7.drew
          have HS9 := Lib.hid hsa
          clear HDr c0 c1 c2 c3 SM HA HSA hsa
          go_wp2_with fail
          refine Ord.wp_region_ord [(0, false), (1, false), (2, false), (3, false), (4, false), (5, false), (6, false), (7, false), (8, false), (9, false), (10, true), (11, false), (12, false), (13, false)] (by kernel_rfl) rfl (by kernel_rfl) (by kernel_rfl) (fun _ _ _ d _ h => by cases d <;> exact h) ?_
          refine Ord.ord_still rfl rfl (by kernel_rfl) (fun K hK => ?_)
          go_big_quiet_op
          refine hK _ ?_; clear hK K
          refine Ord.ord_still rfl rfl (by kernel_rfl) (fun K hK => ?_)
          go_big_quiet_op
          refine hK _ ?_; clear hK K
          refine Ord.ord_still rfl rfl (by kernel_rfl) (fun K hK => ?_)
          go_big_quiet_op
          refine hK _ ?_; clear hK K
          refine Ord.ord_still rfl rfl (by kernel_rfl) (fun K hK => ?_)
          go_big_quiet_op
          refine hK _ ?_; clear hK K
          refine Ord.ord_still rfl rfl (by kernel_rfl) (fun K hK => ?_)
          go_big_quiet_op
          refine hK _ ?_; clear hK K
          refine Ord.ord_still rfl rfl (by kernel_rfl) (fun K hK => ?_)
          go_big_quiet_op
          refine hK _ ?_; clear hK K
          refine Ord.ord_still rfl rfl (by kernel_rfl) (fun K hK => ?_)
          go_big_quiet_op
          refine hK _ ?_; clear hK K
          refine Ord.ord_still rfl rfl (by kernel_rfl) (fun K hK => ?_)
          go_big_quiet_op
          refine hK _ ?_; clear hK K
          refine Ord.ord_still rfl rfl (by kernel_rfl) (fun K hK => ?_)
          go_big_quiet_op
          refine hK _ ?_; clear hK K
          refine Ord.ord_still rfl rfl (by kernel_rfl) (fun K hK => ?_)
          go_big_quiet_op
          refine hK _ ?_; clear hK K
          refine Ord.ord_loud rfl (by kernel_rfl) (fun K hK => ?_)
          go_big_op
          refine (SA.out _ hW9).mono ?_
          rintro e w8 ⟨b, rfl, hbi, hb⟩
          refine hK _ _ hb ?_
          have HB8 := Lib.hid (HBd.out _ (hW9.trans hb))
          clear hK K hb SA HBd
          refine Ord.ord_still rfl rfl (by kernel_rfl) (fun K hK => ?_)
          go_big_quiet_op
          refine hK _ ?_; clear hK K
          refine Ord.ord_still rfl rfl (by kernel_rfl) (fun K hK => ?_)
          go_big_quiet_op
          refine hK _ ?_; clear hK K
          refine Ord.ord_still rfl rfl (by kernel_rfl) (fun K hK => ?_)
          go_big_quiet_op
          refine hK _ ?_; clear hK K
          refine Ord.ord_nil ?_
          have hq9 : ((r == q) == b) = true := by
            have e : (r == q) = b := by rw [Bool.eq_iff_iff, beq_iff_eq, HS9.out, hbi]
            rw [e]; simp
          rw [hq9]
          clear hq9 hbi
          go_wp2
          go_ret
          exact ⟨rfl, HB8.out⟩
        · have q8 : ((z : Int) != 0) = true := by rw [bne_iff_ne]; omega
          clear hz SM HSA HA
          go_wp2
          go_quiet (fail)
          go_wp2
          go_ret
          exact ⟨rfl, Go.below_drewN HB.out _⟩
      · obtain ⟨k1, k2, _, _⟩ := HER.out hy
        subst k1
        have q9 : ((y : Int) != 0) = true := by rw [bne_iff_ne]; omega
        have d2 : decide ((i : Int) ≥ 0) = true := decide_eq_true (by omega)
        have d3 : decide ((i : Int) ≤ (es.length : Int)) = true := decide_eq_true (by omega)
        clear hy K HER HBK HSA HA
        go_wp2
        go_ret
        exact ⟨rfl, HB.out⟩
    · clear hf
      go_wp2_with fail
      refine (K.alive w3 HB.out).mono ?_
      rintro e w4 ⟨rfl, hb⟩
      replace HB := Lib.hid (HB.out.trans (hb.mono HB.out.size))
      clear hb
      go_wp2
      go_ret
      exact ⟨rfl, HB.out⟩
  · clear hf
    go_wp2_with fail
    refine (K.alive w2 HB.out).mono ?_
    rintro e w3 ⟨rfl, hb⟩
    replace HB := Lib.hid (HB.out.trans (hb.mono HB.out.size))
    clear hb
    go_wp2
    go_ret
    exact ⟨rfl, HB.out⟩

end Go.Proofs.YtmbpdpcinhhclaaGreatDoor
