/-
  ViewSplits: the law's own walk.
-/
import Derived.Test.YtokpphhmmcoeaaaGreatDoorVwKit
set_option linter.unusedVariables false
set_option linter.unusedSimpArgs false
set_option maxRecDepth 1000000
namespace Go.Proofs.YtokpphhmmcoeaaaGreatDoor
open Go.RowKit Go.Shelf

theorem split_sum {cs : List ColB} {ps : List PairB} {k : Nat} (hP : PSO ps) (h1 : clcE cs (ps.take k) = 0) (h2 : clcE cs (ps.drop k) = 0) (h3 : clcE cs ps = 0) :
    Zs cs (clcO cs (ps.take k)) ∧ Zs cs (clcO cs (ps.drop k)) ∧ Zs cs (clcO cs ps) ∧ sumE cs (clcO cs (ps.take k)) (clcO cs (ps.drop k)) = 0 ∧ sumO cs (clcO cs (ps.take k)) (clcO cs (ps.drop k)) = clcO cs ps := by
  obtain ⟨a1, a2, _⟩ := clc_ok (hP.sub fun x hx => List.mem_of_mem_take hx) h1
  obtain ⟨b1, b2, _⟩ := clc_ok (hP.sub fun x hx => List.mem_of_mem_drop hx) h2
  obtain ⟨c1, c2, _⟩ := clc_ok hP h3
  obtain ⟨s1, s2⟩ := sum_as a1 b1 c1 (fun r => by rw [a2, b2, c2, ← Z.sumW_append, List.take_append_drop])
  exact ⟨a1, b1, c1, s1, s2⟩

set_option maxHeartbeats 32000000 in
theorem viewSplits_walk (v1 : Value) (cs : List ColB) (v2 : Value) (ps : List PairB) (x : Int) (w : World) (hR : RdC w v1 cs) (hC : CS cs) (hA : RdP w v2 ps ∧ PSO ps ∧ ps.length * 32 ≤ 140737488351232) (hx : 0 ≤ x ∧ x ≤ 255) (hT : Tabs w) :
    Calls Tryz.prog 6 #[v1, v2, .int .u8 x] w fun e w' => e = .returned (.bool true) ∧ Below w.heap.size w w' := by
  obtain ⟨xn, rfl⟩ : ∃ xn : Nat, x = (xn : Int) := ⟨x.toNat, by omega⟩
  obtain ⟨k, hk⟩ : ∃ k, k = xn % (ps.length + 1) := ⟨_, rfl⟩
  have hkl : k ≤ ps.length := by have := Nat.mod_lt xn (show 0 < ps.length + 1 by omega); omega
  obtain ⟨va, hua, hda⟩ := hA.1.upto k hkl
  obtain ⟨vb, hub, hdb⟩ := hA.1.from k hkl
  have hra := hda w (Below.refl _ _)
  have hrb := hdb w (Below.refl _ _)
  have AL := Lib.hid (fun wz (hz : Below w.heap.size w wz) => law17_alive wz (hT.later hz))
  have CA := Lib.hid (fun wz (hz : Below w.heap.size w wz) => zset_CollectN v1 va cs (ps.take k) wz (hR.later hz (Nat.le_refl _)) (hra.later hz (Nat.le_refl _)) hC (hA.2.1.sub fun x hx => List.mem_of_mem_take hx) (hT.later hz) (by have := hA.2.2; rw [List.length_take]; omega))
  have CB := Lib.hid (fun wz (hz : Below w.heap.size w wz) => zset_CollectN v1 vb cs (ps.drop k) wz (hR.later hz (Nat.le_refl _)) (hrb.later hz (Nat.le_refl _)) hC (hA.2.1.sub fun x hx => List.mem_of_mem_drop hx) (hT.later hz) (by have := hA.2.2; rw [List.length_drop]; omega))
  have CC := Lib.hid (fun wz (hz : Below w.heap.size w wz) => zset_CollectN v1 v2 cs ps wz (hR.later hz (Nat.le_refl _)) (hA.1.later hz (Nat.le_refl _)) hC hA.2.1 (hT.later hz) (by have := hA.2.2; omega))
  obtain ⟨pr, hpr, hPR⟩ := print17 v1 cs w hR hC hT
  have PR := Lib.hid hPR
  have HPR := Lib.hid hpr
  have NW := Lib.hid (fun Q wz (hQ : ∀ j, Q j → j < wz.heap.size) (hz : Below w.heap.size w wz) => view_New v1 cs Q wz (hR.later hz (Nat.le_refl _)) hC hQ (hT.later hz))
  have hl1 := hR.len
  have hsm1 := hR.small
  have hl2 := hA.1.len
  have hsm2 := hA.1.small
  obtain ⟨ac, nc, cc, rfl⟩ := RdC.lit17 hR
  obtain ⟨ap, np, kp, rfl⟩ := RdP.lit17 hA.1
  obtain ⟨aa, na, ka, rfl⟩ := RdP.lit17 hra
  obtain ⟨ab, nb, kb, rfl⟩ := RdP.lit17 hrb
  have GR := Lib.hid (fun wz (hz : Below w.heap.size w wz) => great_one17 (.slice ap np kp) ps wz (hA.1.later hz (Nat.le_refl _)) rfl)
  have OK := Lib.hid (fun h1 h2 h3 => split_sum (cs := cs) (k := k) hA.2.1 h1 h2 h3)
  have HT := Lib.hid (fun wz (hz : Below w.heap.size w wz) => hT.later hz)
  have HC := Lib.hid hC
  obtain ⟨n1, hn1⟩ : ∃ n1, n1 = cs.length := ⟨_, rfl⟩
  obtain ⟨n2, hn2⟩ : ∃ n2, n2 = ps.length := ⟨_, rfl⟩
  obtain ⟨E1, hE1⟩ : ∃ E1, E1 = clcE cs (ps.take k) := ⟨_, rfl⟩
  obtain ⟨E2, hE2⟩ : ∃ E2, E2 = clcE cs (ps.drop k) := ⟨_, rfl⟩
  obtain ⟨E3, hE3⟩ : ∃ E3, E3 = clcE cs ps := ⟨_, rfl⟩
  rw [← hE1] at CA OK
  rw [← hE2] at CB OK
  rw [← hE3] at CC OK
  generalize clcO cs (ps.take k) = P at *
  generalize clcO cs (ps.drop k) = Q at *
  generalize clcO cs ps = R at *
  rw [← hn2] at hk hkl
  rw [← hn1] at hl1 hsm1
  rw [← hn2] at hl2 hsm2
  have hrem : Int.tmod (xn : Int) ((n2 : Int) + 1) = (k : Int) := by rw [hk, Int.tmod_eq_emod_of_nonneg (by omega)]; push_cast; rfl
  have hx9 := hx.2
  have hne : ((n2 : Int) + 1 == 0) = false := by rw [beq_eq_false_iff_ne]; omega
  clear hR hC hA hT hE1 hE2 hE3 hn1 hn2 hda hdb hra hrb hpr hPR hk hx
  go_enter Tryz.func6, Tryz.ntmps6
  go_wp2_with fail
  refine (AL.out w (Below.refl _ _)).mono ?_
  rintro e w1 ⟨rfl, hb⟩
  have HB1 := Lib.hid hb
  clear hb
  by_cases hx1 : 30 < n1
  · have d1 : decide ((n1 : Int) > 30) = true := decide_eq_true (by omega)
    go_wp2_with fail
    refine (AL.out w1 HB1.out).mono ?_
    rintro e w2 ⟨rfl, hb⟩
    have HB2 := Lib.hid (HB1.out.trans (hb.mono HB1.out.size))
    clear hb
    go_wp2
    go_ret
    exact ⟨rfl, HB2.out⟩
  have d1 : decide ((n1 : Int) > 30) = false := decide_eq_false (by omega)
  by_cases hx2 : 100 < n2
  · have d2 : decide ((n2 : Int) > 100) = true := decide_eq_true (by omega)
    go_wp2_with fail
    refine (AL.out w1 HB1.out).mono ?_
    rintro e w2 ⟨rfl, hb⟩
    have HB2 := Lib.hid (HB1.out.trans (hb.mono HB1.out.size))
    clear hb
    go_wp2
    go_ret
    exact ⟨rfl, HB2.out⟩
  have d2 : decide ((n2 : Int) > 100) = false := decide_eq_false (by omega)
  go_wp2_with fail
  refine (GR.out w1 HB1.out).mono ?_
  rintro e w2 ⟨x, rfl, hx, hb⟩
  have HB2 := Lib.hid (HB1.out.trans (hb.mono HB1.out.size))
  clear hb GR HB1
  rcases hx with rfl | rfl
  case inr =>
    go_wp2_with fail
    refine (AL.out w2 HB2.out).mono ?_
    rintro e w3 ⟨rfl, hb⟩
    have HB3 := Lib.hid (HB2.out.trans (hb.mono HB2.out.size))
    clear hb
    go_wp2
    go_ret
    exact ⟨rfl, HB3.out⟩
  clear AL
  go_wp2_with fail
  refine (CA.out w2 HB2.out).mono ?_
  rintro e w3 ⟨pv, rfl, ha, hb⟩
  obtain ⟨a3, n3, k3, rfl⟩ := RdP.lit17 ha.rd
  have HB3 := Lib.hid (HB2.out.trans (hb.mono HB2.out.size))
  have HP3 := Lib.hid ha.rd
  clear hb ha CA HB2
  go_wp2_with fail
  refine (CB.out w3 HB3.out).mono ?_
  rintro e w4 ⟨qv, rfl, ha, hb⟩
  obtain ⟨a4, n4, k4, rfl⟩ := RdP.lit17 ha.rd
  have HB4 := Lib.hid (HB3.out.trans (hb.mono HB3.out.size))
  have HP4 := Lib.hid (HP3.out.later hb (Nat.le_refl _))
  have HQ4 := Lib.hid ha.rd
  clear hb ha CB HB3 HP3
  go_wp2_with fail
  refine (CC.out w4 HB4.out).mono ?_
  rintro e w5 ⟨rv, rfl, ha, hb⟩
  obtain ⟨a5, n5, k5, rfl⟩ := RdP.lit17 ha.rd
  have HB5 := Lib.hid (HB4.out.trans (hb.mono HB4.out.size))
  have HP5 := Lib.hid (HP4.out.later hb (Nat.le_refl _))
  have HQ5 := Lib.hid (HQ4.out.later hb (Nat.le_refl _))
  have HR5 := Lib.hid ha.rd
  clear hb ha CC HB4 HP4 HQ4
  go_wp2_with fail
  refine (PR.out w5 HB5.out).mono ?_
  rintro e w6 ⟨rfl, hb⟩
  have HB6 := Lib.hid (HB5.out.trans (hb.mono HB5.out.size))
  have HP6 := Lib.hid ((offS_old (Q := fun j => w6.heap.size ≤ j) HP5.out (fun j hj h => by have := hb.size; omega)).later hb)
  have HQ6 := Lib.hid ((offS_old (Q := fun j => w6.heap.size ≤ j) HQ5.out (fun j hj h => by have := hb.size; omega)).later hb)
  have HR6 := Lib.hid ((offS_old (Q := fun j => w6.heap.size ≤ j) HR5.out (fun j hj h => by have := hb.size; omega)).later hb)
  clear hb PR HB5 HP5 HQ5 HR5
  go_wp2_with fail
  refine (NW.out (fun _ => False) w6 (fun _ h => h.elim) HB6.out).mono ?_
  rintro e w7 ⟨vv, rfl, hb, hv⟩
  have HB67 := Lib.hid hb
  have HB7 := Lib.hid (HB6.out.trans (hb.mono HB6.out.size))
  have HV7 := Lib.hid hv
  clear hb hv
  obtain ⟨vz, hvz⟩ : ∃ vz, vz = vv := ⟨_, rfl⟩
  rcases HV7.out with ⟨h9, rfl⟩ | ⟨hS, g1, rfl, hg1, hv1⟩
  · go_wp2_with fail
    refine (NW.out (fun _ => False) w7 (fun _ h => h.elim) HB7.out).mono ?_
    rintro e w8 ⟨vw, rfl, hb, hv⟩
    have HB8 := Lib.hid (HB7.out.trans (hb.mono HB7.out.size))
    rcases hv with ⟨_, rfl⟩ | ⟨h8, _⟩
    · have q0 : ((errS (colsL cs) : Int) != 0) = true := by rw [bne_iff_ne]; omega
      have HN9 := Lib.hid h9
      clear h9 hb
      by_cases z1 : E1 = 0
      · subst z1
        by_cases z2 : E2 = 0
        · subst z2
          by_cases z3 : E3 = 0
          · subst z3
            go_wp2
            go_ret
            exact ⟨rfl, HB8.out⟩
          · have q3 : ((E3 : Int) != 0) = true := by rw [bne_iff_ne]; omega
            go_wp2
            go_ret
            exact ⟨rfl, HB8.out⟩
        · have q2 : ((E2 : Int) != 0) = true := by rw [bne_iff_ne]; omega
          go_wp2
          go_ret
          exact ⟨rfl, HB8.out⟩
      · have q1 : ((E1 : Int) != 0) = true := by rw [bne_iff_ne]; omega
        go_wp2
        go_ret
        exact ⟨rfl, HB8.out⟩
    · exact absurd h8 h9
  have hg1l := hv1.lt
  rw [hS]
  go_wp2_with fail
  refine (NW.out (fun j => j = g1) w7 (fun j hj => by rw [hj]; exact hg1l) HB7.out).mono ?_
  rintro e w8 ⟨vw, rfl, hb, hv⟩
  have HB8 := Lib.hid (HB7.out.trans (hb.mono HB7.out.size))
  rcases hv with ⟨h9, _⟩ | ⟨_, g2, rfl, hg2, hv2⟩
  · exact absurd hS h9
  rw [hS]
  have hpr := HPR.out hS
  rw [← hpr] at hv1 hv2
  have HV8 := Lib.hid ((hv1.fresh.later hb).more (Q' := fun j => j = g2) fun j hj h => by rw [h]; exact .inr hg2)
  have HU8 := Lib.hid hv2
  have hb68 := HB67.out.trans (hb.mono HB67.out.size)
  have HP8 := Lib.hid (HP6.out.later hb68)
  have HQ8 := Lib.hid (HQ6.out.later hb68)
  have HR8 := Lib.hid (HR6.out.later hb68)
  have HG := Lib.hid (show w6.heap.size ≤ g1 ∧ w6.heap.size ≤ g2 ∧ g1 < w8.heap.size ∧ g2 < w8.heap.size ∧ g1 ≠ g2 from ⟨hg1, by have := HB67.out.size; omega, by have := hb.size; omega, hv2.lt, by omega⟩)
  clear hb hb68 hv1 hv2 hg1 hg2 hg1l HV7 hvz NW HP6 HQ6 HR6 HB67 hpr
  by_cases z1 : E1 = 0
  case neg =>
    have q1 : ((E1 : Int) != 0) = true := by rw [bne_iff_ne]; omega
    go_wp2
    go_ret
    exact ⟨rfl, HB8.out⟩
  subst z1
  by_cases z2 : E2 = 0
  case neg =>
    have q2 : ((E2 : Int) != 0) = true := by rw [bne_iff_ne]; omega
    go_wp2
    go_ret
    exact ⟨rfl, HB8.out⟩
  subst z2
  by_cases z3 : E3 = 0
  case neg =>
    have q3 : ((E3 : Int) != 0) = true := by rw [bne_iff_ne]; omega
    go_wp2
    go_ret
    exact ⟨rfl, HB8.out⟩
  subst z3
  have HZ := Lib.hid (OK.out rfl rfl rfl)
  clear OK hS
  obtain ⟨M0, M1, M2⟩ := new1 w8 (.cells #[.int .i64 1, .int .i64 9, .int .u32 pr] 30)
  obtain ⟨w0, hw0⟩ : ∃ w0, w0 = w8.alloc (.cells #[.int .i64 1, .int .i64 9, .int .u32 pr] 30) := ⟨_, rfl⟩
  rw [← hw0] at M0 M1 M2
  obtain ⟨L0, L1, L2⟩ := new1 w0 (.cells #[.int .i64 2, .int .i64 18, .int .u32 pr] 30)
  obtain ⟨w9, hw9⟩ : ∃ w9, w9 = w0.alloc (.cells #[.int .i64 2, .int .i64 18, .int .u32 pr] 30) := ⟨_, rfl⟩
  rw [← hw9] at L0 L1 L2
  have HW0 := Lib.hid (And.intro hw0 hw9)
  obtain ⟨ba, hba⟩ : ∃ ba, ba = w8.heap.size := ⟨_, rfl⟩
  rw [← hba] at M0 M1
  rw [M0] at L1
  have hbl := M2.trans (L2.mono M2.size)
  have HB9 := Lib.hid (HB8.out.trans (hbl.mono HB8.out.size))
  have HV9 := Lib.hid (HV8.out.later hbl)
  have HU9 := Lib.hid (HU8.out.later hbl)
  have HP9 := Lib.hid (HP8.out.later hbl)
  have HQ9 := Lib.hid (HQ8.out.later hbl)
  have HR9 := Lib.hid (HR8.out.later hbl)
  have HC9 := Lib.hid (And.intro (show C17 w9 ba (1, 9, pr) from C17.later M1 L2) (show C17 w9 (ba + 1) (2, 18, pr) from L1))
  have HD := Lib.hid (show (ba ≠ g1 ∧ ba ≠ g2) ∧ (ba + 1 ≠ g1 ∧ ba + 1 ≠ g2) from by have := HG.out; omega)
  have HBA := Lib.hid hba
  have h6 : w.heap.size ≤ w6.heap.size := HB6.out.size
  have HZ1 := Lib.hid (sum_nil HZ.out.1)
  have HZ3 := Lib.hid (sum_nil HZ.out.2.2.1)
  clear M0 M1 M2 L0 L1 L2 hw0 hw9 hba hbl HV8 HU8 HP8 HQ8 HR8
  have T1 := Lib.hid (take_changeQ (d := (1, 9, pr)) (k := 1) HV9.out (fun j hj => by rw [hj]; exact HU9.out.lt) HP9.out.rd HZ.out.1.1 HZ1.out.1 HZ1.out.2 rfl (by dsimp only; omega) (by dsimp only; omega) (by omega) rfl HC.out (HT.out _ HB9.out))
  go_wp2_with fail
  rw [← HW0.out.1, ← HW0.out.2]
  refine T1.out.mono ?_
  rintro e w10 ⟨rfl, hv, hO⟩
  have HB10 := Lib.hid (HB9.out.trans ((HV9.out.below hO).mono h6))
  have HV10 := Lib.hid hv
  have HU10 := Lib.hid (HU9.out.only hO fun j _ h => h)
  have hO6 := hO.mono fun j h => show w6.heap.size ≤ j by rw [h]; exact HG.out.1
  have HP10 := Lib.hid (HQ9.out.only17 hO6)
  have HR10 := Lib.hid (HR9.out.only17 hO6)
  have HC10 := Lib.hid (And.intro (HC9.out.1.only hO HD.out.1.1) (HC9.out.2.only hO HD.out.2.1))
  obtain ⟨c0, c1, c2⟩ := HC10.out.2.cells
  have T2 := Lib.hid (take_changeQ (d := (2, 18, pr)) (k := 2) hv (fun j hj => by rw [hj]; exact HU10.out.lt) HP10.out.rd HZ.out.2.1.1 HZ.out.2.2.2.1 HZ.out.2.2.2.2 rfl (by dsimp only; omega) (by dsimp only; omega) (by omega) rfl HC.out (HT.out _ HB10.out))
  clear hv hO hO6 T1 HB9 HV9 HU9 HP9 HQ9 HR9 HC9
  rw [← HBA.out]
  go_wp2_with fail
  refine T2.out.mono ?_
  rintro e w11 ⟨rfl, hv, hO⟩
  have HB11 := Lib.hid (HB10.out.trans ((HV10.out.below hO).mono h6))
  have HV11 := Lib.hid hv
  have HU11 := Lib.hid (HU10.out.only hO fun j _ h => h)
  have hO6 := hO.mono fun j h => show w6.heap.size ≤ j by rw [h]; exact HG.out.1
  have HR11 := Lib.hid (HR10.out.only17 hO6)
  have HC11 := Lib.hid (HC10.out.2.only hO HD.out.2.1)
  clear c0 c1 c2
  obtain ⟨c0, c1, c2⟩ := HC11.out.cells
  have T3 := Lib.hid (take_changeQ (d := (2, 18, pr)) (k := 1) HU11.out (fun j hj => by rw [hj]; exact HV11.out.lt) HR11.out.rd HZ.out.2.2.1.1 HZ3.out.1 HZ3.out.2 rfl (by dsimp only; omega) (by dsimp only; omega) (by omega) rfl HC.out (HT.out _ HB11.out))
  clear hv hO hO6 T2 HB10 HV10 HU10 HP10 HR10 HC10
  go_wp2_with fail
  refine T3.out.mono ?_
  rintro e w12 ⟨rfl, hv, hO⟩
  have HB12 := Lib.hid (HB11.out.trans ((HU11.out.below hO).mono (by have := HG.out; have := HB7.out.size; omega)))
  have HU12 := Lib.hid hv
  have HV12 := Lib.hid (HV11.out.only hO fun j _ h => h)
  clear hv hO T3 HB11 HV11 HU11 HR11 HC11 c0 c1 c2
  go_wp2_with fail
  refine (view_Pairs HV12.out).mono ?_
  rintro e w13 ⟨xv, rfl, ho, hb⟩
  have hx := ho.1.rd (by have := HZ.out.2.2.1.few; omega)
  obtain ⟨ax, nx, kx, rfl⟩ := RdP.lit17 hx
  have HB13 := Lib.hid (HB12.out.trans (hb.mono HB12.out.size))
  have HV13 := Lib.hid (HV12.out.later hb)
  have HU13 := Lib.hid (HU12.out.later hb)
  have HX13 := Lib.hid hx
  clear hx ho hb HB12 HV12 HU12
  go_wp2_with fail
  refine (view_Pairs HU13.out).mono ?_
  rintro e w14 ⟨xv, rfl, ho, hb⟩
  have hx := ho.1.rd (by have := HZ.out.2.2.1.few; omega)
  obtain ⟨ay, ny, ky, rfl⟩ := RdP.lit17 hx
  have HB14 := Lib.hid (HB13.out.trans (hb.mono HB13.out.size))
  have HV14 := Lib.hid (HV13.out.later hb)
  have HU14 := Lib.hid (HU13.out.later hb)
  have SM := Lib.hid (same17 (HX13.out.later hb (Nat.le_refl _)) hx)
  clear hx ho hb HB13 HV13 HU13 HX13
  go_wp2_with fail
  refine SM.out.mono ?_
  rintro e w15 ⟨rfl, hb⟩
  have HB15 := Lib.hid (HB14.out.trans (hb.mono HB14.out.size))
  have HV15 := Lib.hid (HV14.out.later hb)
  have HU15 := Lib.hid (HU14.out.later hb)
  clear hb HB14 HV14 HU14 SM
  go_wp2_with fail
  refine (view_Cursor HV15.out).mono ?_
  rintro e w16 ⟨rfl, hb⟩
  have HB16 := Lib.hid (HB15.out.trans (hb.mono HB15.out.size))
  have HV16 := Lib.hid (HV15.out.later hb)
  have HU16 := Lib.hid (HU15.out.later hb)
  clear hb HB15 HV15 HU15
  go_wp2_with fail
  refine (view_Cursor HU16.out).mono ?_
  rintro e w17 ⟨rfl, hb⟩
  have HB17 := Lib.hid (HB16.out.trans (hb.mono HB16.out.size))
  have HV17 := Lib.hid (HV16.out.later hb)
  have HU17 := Lib.hid (HU16.out.later hb)
  clear hb HB16 HV16 HU16
  go_wp2_with fail
  refine (view_Taken HV17.out).mono ?_
  rintro e w18 ⟨rfl, rfl⟩
  go_wp2_with fail
  refine (view_Taken HU17.out).mono ?_
  rintro e w19 ⟨rfl, rfl⟩
  go_wp2
  go_ret
  exact ⟨rfl, HB17.out⟩

end Go.Proofs.YtokpphhmmcoeaaaGreatDoor
