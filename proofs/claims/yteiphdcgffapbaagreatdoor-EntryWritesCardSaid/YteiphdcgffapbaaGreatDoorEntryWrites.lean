/-
  EntryWrites: the law's own walk.
-/
import Derived.Test.YteiphdcgffapbaaGreatDoorGEntL
import Derived.Test.YteiphdcgffapbaaGreatDoorEntWrite
import Derived.Test.YteiphdcgffapbaaGreatDoorEntRef
import Derived.Test.YteiphdcgffapbaaGreatDoorGBaseA
import Derived.RegionTactic
import Derived.BigRegion
set_option linter.unusedVariables false
set_option linter.unusedSimpArgs false
set_option maxRecDepth 1000000
namespace Go.Proofs.YteiphdcgffapbaaGreatDoor
open Go.RowKit Go.Shelf

set_option maxHeartbeats 8000000 in
theorem entryWrites_walk (v1 : Value) (cs : List ColB) (ev : Value) (x : EntB) (w : World) (hR : RdC w v1 cs) (hC : CS cs) (hE : RdN w ev x ∧ EnO x) (hT : Tabs w) (hF : Frs w) :
    Calls Tryz.prog 3 #[v1, ev] w fun e w' => e = .returned (.bool true) ∧ Below w.heap.size w w' := by
  have AL := Lib.hid (fun wz (hz : Below w.heap.size w wz) => law12_alive wz (hT.later hz))
  have WA := Lib.hid (fun wz (hz : Below w.heap.size w wz) => entry_Write v1 ev cs x wz (hR.later hz (Nat.le_refl _)) (hE.1.later hz) hC hE.2 (hT.later hz) (hF.later hz))
  have WB := Lib.hid (fun wz (hz : Below w.heap.size w wz) => ref_Write12 v1 ev cs x wz (hR.later hz (Nat.le_refl _)) (hE.1.later hz) hC hE.2)
  have CA := Lib.hid (fun wz (hz : Below w.heap.size w wz) => entry_Check v1 ev cs x wz (hR.later hz (Nat.le_refl _)) (hE.1.later hz) hC hE.2 (hT.later hz))
  have CB := Lib.hid (fun wz (hz : Below w.heap.size w wz) => ref_Check12 v1 ev cs x wz (hR.later hz (Nat.le_refl _)) (hE.1.later hz) hC hE.2)
  have hlw := entW_small cs x
  obtain ⟨kind, seq, ps⟩ := x
  obtain ⟨⟨pv, rfl, hP⟩, hX⟩ := hE
  dsimp only at hP
  obtain ⟨ao, no, co, rfl⟩ := hP.lit12
  have GR := Lib.hid (fun wz (hz : Below w.heap.size w wz) => great_one12 v1 (.slice ao no co) cs ps wz (hR.later hz (Nat.le_refl _)) (hP.later hz (Nat.le_refl _)))
  obtain ⟨R, hRR⟩ : ∃ R, R = entW cs (kind, seq, ps) := ⟨_, rfl⟩
  obtain ⟨E, hEE⟩ : ∃ E, E = entE cs (kind, seq, ps) := ⟨_, rfl⟩
  rw [← hRR] at WA WB hlw
  rw [← hEE] at CA CB
  obtain ⟨N1, N2⟩ := new_one12 w (.cells #[.int .i64 kind, .int .i64 seq, .slice ao no co] 25)
  obtain ⟨w0, hw0⟩ : ∃ w0, w0 = w.alloc (.cells #[.int .i64 kind, .int .i64 seq, .slice ao no co] 25) := ⟨_, rfl⟩
  rw [← hw0] at N1 N2
  obtain ⟨g, hg⟩ : ∃ g, g = w.heap.size := ⟨_, rfl⟩
  rw [← hg] at N1
  have HEb := Lib.hid (fun wz (hz : Below w0.heap.size w0 wz) => (Ebox.later (show Ebox w0 g kind seq (.slice ao no co) from N1) hz).cells)
  have HB0 := Lib.hid N2
  have HW0 := Lib.hid hw0
  have HG := Lib.hid hg
  have HB := Lib.hid (Below.refl w0.heap.size w0)
  clear hR hC hP hX hT hF hRR hEE N1 N2 hw0 hg
  obtain ⟨r, y⟩ := R
  dsimp only at hlw WA WB
  go_enter Tryz.func3, Tryz.ntmps3
  go_wp2_with fail
  rw [← HW0.out, ← HG.out]
  refine (AL.out w0 HB0.out).mono ?_
  rintro e w1 ⟨rfl, hb⟩
  replace HB := Lib.hid (HB.out.trans (hb.mono HB.out.size))
  obtain ⟨c0, c1, c2⟩ := HEb.out w1 HB.out
  clear hb
  go_wp2_with fail
  refine (GR.out w1 (HB0.out.trans (HB.out.mono HB0.out.size))).mono ?_
  rintro e w2 ⟨b, rfl, _, hb⟩
  replace HB := Lib.hid (HB.out.trans (hb.mono HB.out.size))
  clear hb c0 c1 c2 GR
  cases b with
  | true =>
    go_wp2_with fail
    refine (AL.out w2 (HB0.out.trans (HB.out.mono HB0.out.size))).mono ?_
    rintro e w3 ⟨rfl, hb⟩
    replace HB := Lib.hid (HB.out.trans (hb.mono HB.out.size))
    clear hb
    go_wp2
    go_ret
    exact ⟨rfl, HB0.out.trans (HB.out.mono HB0.out.size)⟩
  | false =>
    clear AL
    obtain ⟨c0, c1, c2⟩ := HEb.out w2 HB.out
    go_wp2_with fail
    refine (WA.out w2 (HB0.out.trans (HB.out.mono HB0.out.size))).mono ?_
    rintro e w3 ⟨bv, rfl, hO, hb⟩
    replace HB := Lib.hid (HB.out.trans (hb.mono HB.out.size))
    have HO3 := Lib.hid hO
    clear hb hO c0 c1 c2 WA
    obtain ⟨c0, c1, c2⟩ := HEb.out w3 HB.out
    go_wp2_with fail
    refine (WB.out w3 (HB0.out.trans (HB.out.mono HB0.out.size))).mono ?_
    rintro e w4 ⟨cv, rfl, hO, hb⟩
    have HO4 := Lib.hid (HO3.out.later hb (Nat.le_refl _))
    have HO5 := Lib.hid hO
    replace HB := Lib.hid (HB.out.trans (hb.mono HB.out.size))
    clear hb hO c0 c1 c2 WB HO3
    have hrb := HO4.out.rd (by first | omega | (dsimp only; omega))
    have hrc := HO5.out.rd (by first | omega | (dsimp only; omega))
    have HDr := Lib.hid ((Below.refl w4.heap.size w4).drew)
    have HE6 := Lib.hid (fun wz (hz : Below w4.heap.size w4.drew wz) => HEb.out wz (HB.out.trans ((HDr.out.trans hz).mono HB.out.size)))
    have HRb := Lib.hid (fun wz (hz : Below w4.heap.size w4.drew wz) => hrb.later (HDr.out.trans hz) (Nat.le_refl _))
    have HRc := Lib.hid (fun wz (hz : Below w4.heap.size w4.drew wz) => hrc.later (HDr.out.trans hz) (Nat.le_refl _))
    have CA := Lib.hid (fun wz (hz : Below w4.heap.size w4.drew wz) => CA.out wz (HB0.out.trans ((HB.out.trans ((HDr.out.trans hz).mono HB.out.size)).mono HB0.out.size)))
    have CB := Lib.hid (fun wz (hz : Below w4.heap.size w4.drew wz) => CB.out wz (HB0.out.trans ((HB.out.trans ((HDr.out.trans hz).mono HB.out.size)).mono HB0.out.size)))
    have HC9 := Lib.hid (show Below w4.heap.size w4.drew w4.drew from Below.refl _ _)
    have hs1 := Rd.str_later (HRb.out _ HC9.out)
    have hs2 := Rd.str_later (HRc.out _ HC9.out)
    have s0 := fun x : Ord.GW w4.drew => keep_cell x.grew (HE6.out _ HC9.out).1
    have s1 := fun x : Ord.GW w4.drew => keep_cell x.grew (HE6.out _ HC9.out).2.1
    have s2 := fun x : Ord.GW w4.drew => keep_cell x.grew (HE6.out _ HC9.out).2.2
    clear hrb hrc HO4 HO5
    go_wp2_with fail
    refine Ord.wp_region_ord [(0, false), (1, false), (2, false), (3, false), (4, false), (5, false), (6, false), (7, false), (8, false), (9, false), (10, false), (11, false), (12, false), (14, false), (15, false), (13, true), (16, true), (17, false), (18, false), (19, false)] (by kernel_rfl) rfl (by kernel_rfl) (by kernel_rfl) (fun _ _ _ d _ h => by cases d <;> exact h) ?_
    refine Ord.ord_still rfl rfl (by kernel_rfl) (fun K hK => ?_)
    go_big_quiet_op
    refine hK _ ?_; clear hK K
    refine Ord.ord_still rfl rfl (by kernel_rfl) (fun K hK => ?_)
    go_big_quiet_op
    refine hK _ ?_; clear hK K
    refine Ord.ord_still rfl rfl (by kernel_rfl) (fun K hK => ?_)
    go_big_quiet_op
    refine hK _ ?_; clear hK K
    refine Ord.ord_still rfl rfl (by kernel_rfl) (fun K hK => ?_)
    go_big_quiet_op
    refine hK _ ?_; clear hK K
    refine Ord.ord_still rfl rfl (by kernel_rfl) (fun K hK => ?_)
    go_big_quiet_op
    refine hK _ ?_; clear hK K
    refine Ord.ord_still rfl rfl (by kernel_rfl) (fun K hK => ?_)
    go_big_quiet_op
    refine hK _ ?_; clear hK K
    refine Ord.ord_still rfl rfl (by kernel_rfl) (fun K hK => ?_)
    go_big_quiet_op
    refine hK _ ?_; clear hK K
    refine Ord.ord_still rfl rfl (by kernel_rfl) (fun K hK => ?_)
    go_big_quiet_op
    refine hK _ ?_; clear hK K
    refine Ord.ord_still rfl rfl (by kernel_rfl) (fun K hK => ?_)
    go_big_quiet_op
    refine hK _ ?_; clear hK K
    refine Ord.ord_still rfl rfl (by kernel_rfl) (fun K hK => ?_)
    go_big_quiet_op
    refine hK _ ?_; clear hK K
    refine Ord.ord_still rfl rfl (by kernel_rfl) (fun K hK => ?_)
    go_big_quiet_op
    refine hK _ ?_; clear hK K
    refine Ord.ord_still rfl rfl (by kernel_rfl) (fun K hK => ?_)
    go_big_quiet_op
    refine hK _ ?_; clear hK K
    refine Ord.ord_still rfl rfl (by kernel_rfl) (fun K hK => ?_)
    go_big_quiet_op
    refine hK _ ?_; clear hK K
    refine Ord.ord_still rfl rfl (by kernel_rfl) (fun K hK => ?_)
    go_big_quiet_op
    refine hK _ ?_; clear hK K
    refine Ord.ord_still rfl rfl (by kernel_rfl) (fun K hK => ?_)
    go_big_quiet_op
    refine hK _ ?_; clear hK K
    refine Ord.ord_loud rfl (by kernel_rfl) (fun K hK => ?_)
    go_big_op
    refine (CA.out _ HC9.out).mono ?_
    rintro e wp ⟨rfl, hb⟩
    replace HC9 := Lib.hid (HC9.out.trans (hb.mono HC9.out.size))
    have hs1 := Rd.str_later ((HRb.out _ HC9.out))
    have hs2 := Rd.str_later ((HRc.out _ HC9.out))
    have s0 := fun x : Ord.GW wp => keep_cell x.grew (HE6.out _ HC9.out).1
    have s1 := fun x : Ord.GW wp => keep_cell x.grew (HE6.out _ HC9.out).2.1
    have s2 := fun x : Ord.GW wp => keep_cell x.grew (HE6.out _ HC9.out).2.2
    refine hK _ _ hb ?_
    clear hb
    clear hK K
    refine Ord.ord_loud rfl (by kernel_rfl) (fun K hK => ?_)
    go_big_op
    refine (CB.out _ HC9.out).mono ?_
    rintro e wq ⟨rfl, hb⟩
    replace HC9 := Lib.hid (HC9.out.trans (hb.mono HC9.out.size))
    have hs1 := Rd.str_later ((HRb.out _ HC9.out))
    have hs2 := Rd.str_later ((HRc.out _ HC9.out))
    have s0 := fun x : Ord.GW wq => keep_cell x.grew (HE6.out _ HC9.out).1
    have s1 := fun x : Ord.GW wq => keep_cell x.grew (HE6.out _ HC9.out).2.1
    have s2 := fun x : Ord.GW wq => keep_cell x.grew (HE6.out _ HC9.out).2.2
    refine hK _ _ hb ?_
    clear hb
    clear hK K
    refine Ord.ord_still rfl rfl (by kernel_rfl) (fun K hK => ?_)
    go_big_quiet_op
    refine hK _ ?_; clear hK K
    refine Ord.ord_still rfl rfl (by kernel_rfl) (fun K hK => ?_)
    go_big_quiet_op
    refine hK _ ?_; clear hK K
    refine Ord.ord_still rfl rfl (by kernel_rfl) (fun K hK => ?_)
    go_big_quiet_op
    refine hK _ ?_; clear hK K
    refine Ord.ord_nil ?_
    go_wp2
    go_ret
    exact ⟨by simp, HB0.out.trans ((HB.out.trans ((HDr.out.trans HC9.out).mono HB.out.size)).mono HB0.out.size)⟩

end Go.Proofs.YteiphdcgffapbaaGreatDoor
