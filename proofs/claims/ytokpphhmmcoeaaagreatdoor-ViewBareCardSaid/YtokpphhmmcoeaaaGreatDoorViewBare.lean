/-
  ViewBare: the law's own walk.
-/
import Derived.Test.YtokpphhmmcoeaaaGreatDoorVwKit
set_option linter.unusedVariables false
set_option linter.unusedSimpArgs false
set_option maxRecDepth 1000000
namespace Go.Proofs.YtokpphhmmcoeaaaGreatDoor
open Go.RowKit Go.Shelf

set_option maxHeartbeats 16000000 in
theorem viewBare_walk (v1 : Value) (cs : List ColB) (v2 : Value) (ps : List PairB) (y0 y1 : Int) (w : World) (hR : RdC w v1 cs) (hC : CS cs) (hA : RdP w v2 ps ∧ PSO ps ∧ ps.length * 32 ≤ 140737488351232) (h0 : 0 ≤ y0 ∧ y0 ≤ 65535) (h1 : 0 ≤ y1 ∧ y1 ≤ 65535) (hT : Tabs w) :
    Calls Tryz.prog 7 #[v1, v2, .agg #[.int .u16 y0, .int .u16 y1]] w fun e w' => e = .returned (.bool true) ∧ Below w.heap.size w w' := by
  have AL := Lib.hid (fun wz (hz : Below w.heap.size w wz) => law17_alive wz (hT.later hz))
  have CA := Lib.hid (fun wz (hz : Below w.heap.size w wz) => zset_CollectN v1 v2 cs ps wz (hR.later hz (Nat.le_refl _)) (hA.1.later hz (Nat.le_refl _)) hC hA.2.1 (hT.later hz) (by have := hA.2.2; omega))
  obtain ⟨pr, hpr, hPR⟩ := print17 v1 cs w hR hC hT
  have PR := Lib.hid hPR
  have HPR := Lib.hid hpr
  have NW := Lib.hid (fun wz (hz : Below w.heap.size w wz) => view_New v1 cs (fun _ => False) wz (hR.later hz (Nat.le_refl _)) hC (fun _ h => h.elim) (hT.later hz))
  have hl1 := hR.len
  have hsm1 := hR.small
  have hl2 := hA.1.len
  have hsm2 := hA.1.small
  obtain ⟨ac, nc, cc, rfl⟩ := RdC.lit17 hR
  obtain ⟨ap, np, kp, rfl⟩ := RdP.lit17 hA.1
  have GR := Lib.hid (fun wz (hz : Below w.heap.size w wz) => great_one17 (.slice ap np kp) ps wz (hA.1.later hz (Nat.le_refl _)) rfl)
  have OK := Lib.hid (fun h => (clc_ok (cs := cs) hA.2.1 h).1)
  have HT := Lib.hid (fun wz (hz : Below w.heap.size w wz) => hT.later hz)
  have HC := Lib.hid hC
  obtain ⟨E1, hE1⟩ : ∃ E1, E1 = clcE cs ps := ⟨_, rfl⟩
  rw [← hE1] at CA OK
  generalize clcO cs ps = P at *
  obtain ⟨n1, hn1⟩ : ∃ n1, n1 = cs.length := ⟨_, rfl⟩
  obtain ⟨n2, hn2⟩ : ∃ n2, n2 = ps.length := ⟨_, rfl⟩
  rw [← hn1] at hl1 hsm1
  rw [← hn2] at hl2 hsm2
  obtain ⟨N0, N1, N2⟩ := new1 w (.cells #[.int .u16 y0, .int .u16 y1] 57)
  obtain ⟨w0, hw0⟩ : ∃ w0, w0 = w.alloc (.cells #[.int .u16 y0, .int .u16 y1] 57) := ⟨_, rfl⟩
  rw [← hw0] at N0 N1 N2
  have HW0 := Lib.hid hw0
  have HB0 := Lib.hid N2
  obtain ⟨gy, hgy⟩ : ∃ gy, gy = w.heap.size := ⟨_, rfl⟩
  rw [← hgy] at N0 N1
  have HGZ := Lib.hid (show gy < w0.heap.size from by omega)
  have HY := Lib.hid (fun wz (hz : Below w0.heap.size w0 wz) => (hz.block gy (Array.getElem?_eq_some_iff.1 N1).1).trans N1)
  have HGY := Lib.hid hgy
  clear hR hC hA hT hE1 hn1 hn2 N0 N1 N2 hw0 hgy hpr hPR
  go_enter Tryz.func7, Tryz.ntmps7
  go_wp2_with fail
  rw [← HW0.out, ← HGY.out]
  refine (AL.out w0 HB0.out).mono ?_
  rintro e w1 ⟨rfl, hb⟩
  have HB1 := Lib.hid (HB0.out.trans (hb.mono HB0.out.size))
  have HY1 := Lib.hid hb
  clear hb HB0
  by_cases hx1 : 30 < n1
  · have d1 : decide ((n1 : Int) > 30) = true := decide_eq_true (by omega)
    go_wp2_with fail
    refine (AL.out w1 HB1.out).mono ?_
    rintro e w2 ⟨rfl, hb⟩
    have HB2 := Lib.hid (HB1.out.trans (hb.mono HB1.out.size))
    clear hb
    go_wp2
    go_ret
    exact ⟨rfl, HB2.out⟩
  have d1 : decide ((n1 : Int) > 30) = false := decide_eq_false (by omega)
  by_cases hx2 : 100 < n2
  · have d2 : decide ((n2 : Int) > 100) = true := decide_eq_true (by omega)
    go_wp2_with fail
    refine (AL.out w1 HB1.out).mono ?_
    rintro e w2 ⟨rfl, hb⟩
    have HB2 := Lib.hid (HB1.out.trans (hb.mono HB1.out.size))
    clear hb
    go_wp2
    go_ret
    exact ⟨rfl, HB2.out⟩
  have d2 : decide ((n2 : Int) > 100) = false := decide_eq_false (by omega)
  go_wp2_with fail
  refine (GR.out w1 HB1.out).mono ?_
  rintro e w2 ⟨x, rfl, hx, hb⟩
  have HB2 := Lib.hid (HB1.out.trans (hb.mono HB1.out.size))
  have HY2 := Lib.hid (HY1.out.trans (hb.mono HY1.out.size))
  clear hb GR HB1 HY1
  rcases hx with rfl | rfl
  case inr =>
    go_wp2_with fail
    refine (AL.out w2 HB2.out).mono ?_
    rintro e w3 ⟨rfl, hb⟩
    have HB3 := Lib.hid (HB2.out.trans (hb.mono HB2.out.size))
    clear hb
    go_wp2
    go_ret
    exact ⟨rfl, HB3.out⟩
  clear AL
  go_wp2_with fail
  refine (CA.out w2 HB2.out).mono ?_
  rintro e w3 ⟨av, rfl, ha, hb⟩
  obtain ⟨aa, na, ka, rfl⟩ := RdP.lit17 ha.rd
  have HB3 := Lib.hid (HB2.out.trans (hb.mono HB2.out.size))
  have HY3 := Lib.hid (HY2.out.trans (hb.mono HY2.out.size))
  have HP3 := Lib.hid ha
  clear hb ha CA
  go_wp2_with fail
  refine (PR.out w3 HB3.out).mono ?_
  rintro e w4 ⟨rfl, hb⟩
  have HB4 := Lib.hid (HB3.out.trans (hb.mono HB3.out.size))
  have HY4 := Lib.hid (HY3.out.trans (hb.mono HY3.out.size))
  have HP4 := Lib.hid (HP3.out.later hb (Nat.le_refl _))
  clear hb PR HB3 HY3 HP3
  go_wp2_with fail
  refine (NW.out w4 HB4.out).mono ?_
  rintro e w5 ⟨vv, rfl, hb, hv⟩
  have HB5 := Lib.hid (HB4.out.trans (hb.mono HB4.out.size))
  have HY5 := Lib.hid (HY4.out.trans (hb.mono HY4.out.size))
  have HP5 := Lib.hid (HP4.out.later hb (Nat.le_refl _))
  have hz45 := hb.size
  have HY45 := Lib.hid hb
  clear hb NW
  by_cases hE : E1 = 0
  case neg =>
    have q : ((E1 : Int) != 0) = true := by rw [bne_iff_ne]; omega
    rcases hv with ⟨h0, rfl⟩ | ⟨h0, g, rfl, _, _⟩
    all_goals
      go_wp2
      go_ret
      exact ⟨rfl, HB5.out⟩
  subst hE
  have HZ := Lib.hid (OK.out rfl)
  rcases hv with ⟨h9, _⟩ | ⟨hS, g, rfl, hg, hv⟩
  · exact absurd HZ.out.schema h9
  rw [hS]
  have hpr := HPR.out hS
  have HV5 := Lib.hid (show Vw 65 w5 w4.heap.size g cs [] (0, 0, pr) 0 (fun _ => False) from by rw [hpr]; exact hv)
  have HG := Lib.hid (show g ≠ gy ∧ g < w5.heap.size ∧ w4.heap.size ≤ g from ⟨by have := hg; have := HGZ.out; have := HY4.out.size; omega, hv.lt, hg⟩)
  clear hv hg hpr hS
  obtain ⟨M0, M1, M2⟩ := new1 w5 (.cells #[.int .i64 3, .int .i64 7, .int .u32 pr] 30)
  obtain ⟨w6, hw6⟩ : ∃ w6, w6 = w5.alloc (.cells #[.int .i64 3, .int .i64 7, .int .u32 pr] 30) := ⟨_, rfl⟩
  rw [← hw6] at M0 M1 M2
  have HW6 := Lib.hid hw6
  have e0 := cell_of_row _ _ 0 _ _ _ (HY.out w6 (HY5.out.trans (M2.mono HY5.out.size)))
  have e1 := cell_of_row _ _ 1 _ _ _ (HY.out w6 (HY5.out.trans (M2.mono HY5.out.size)))
  simp at e0 e1
  obtain ⟨L0, L1, L2⟩ := new1 w6 (.cells #[.int .i64 (3 + y0), .int .i64 (7 + y1), .int .u32 pr] 30)
  obtain ⟨w7, hw7⟩ : ∃ w7, w7 = w6.alloc (.cells #[.int .i64 (3 + y0), .int .i64 (7 + y1), .int .u32 pr] 30) := ⟨_, rfl⟩
  rw [← hw7] at L0 L1 L2
  have HW7 := Lib.hid hw7
  obtain ⟨ba, hba⟩ : ∃ ba, ba = w5.heap.size := ⟨_, rfl⟩
  rw [← hba] at M0 M1
  rw [M0] at L1
  have hbl := M2.trans (L2.mono M2.size)
  have HB7 := Lib.hid (HB5.out.trans (hbl.mono HB5.out.size))
  have HV7 := Lib.hid (HV5.out.later hbl)
  have HP7 := Lib.hid ((offS_old (Q := fun j => j = g) HP4.out.rd (fun j hj e => by have := HG.out; omega)).later (HY45.out.trans (hbl.mono hz45)))
  have HD7 := Lib.hid (show D17 w7 ba (ba + 1) g (3, 7, pr) (3 + y0, 7 + y1, pr) from ⟨C17.later M1 L2, L1, by have := HG.out; omega, by have := HG.out; omega⟩)
  have HBA := Lib.hid hba
  rw [hw6] at e0 e1
  clear M0 M1 M2 L0 L1 L2 hw6 hw7 hba hbl HV5 HP5 HP4
  have HZn := Lib.hid (sum_nil HZ.out)
  have HZs := Lib.hid (sum_none HZ.out)
  have HY47 := Lib.hid (show w4.heap.size ≤ w7.heap.size from by have := HV7.out.lt; have := HG.out; omega)
  have hdr := (Below.refl w7.heap.size w7).drew
  have T1 := Lib.hid (take_change (d := (3, 7, pr)) (k := 1) (HV7.out.later hdr) (HP7.out.later hdr).rd HZ.out.1 HZn.out.1 HZn.out.2 rfl (by dsimp only; omega) (by dsimp only; omega) (by omega) rfl HC.out (HT.out _ (HB7.out.trans (hdr.mono HB7.out.size))))
  have T2 := Lib.hid (fun wz (hv : Vw 65 wz w4.heap.size g cs P (3, 7, pr) 1 (fun _ => False)) (hb : Below w.heap.size w wz) => take_change (d := (3 + y0, 7 + y1, pr)) (k := 2) hv (RdP.nil wz) (fun p hp => absurd hp (by simp)) HZs.out.1 HZs.out.2 rfl (by dsimp only; omega) (by dsimp only; omega) (by omega) rfl HC.out (HT.out wz hb))
  have k0 := HD7.out.cells
  go_wp2_with fail
  rw [← HW6.out, ← HW7.out, ← HBA.out]
  go_region_held3 (fun z => z.cell? ⟨ba, 0, none⟩ = some (.int .i64 3) ∧ z.cell? ⟨ba, 1, none⟩ = some (.int .i64 7) ∧ z.cell? ⟨ba, 2, none⟩ = some (.int .u32 pr) ∧ z.cell? ⟨ba + 1, 0, none⟩ = some (.int .i64 (3 + y0)) ∧ z.cell? ⟨ba + 1, 1, none⟩ = some (.int .i64 (7 + y1)) ∧ z.cell? ⟨ba + 1, 2, none⟩ = some (.int .u32 pr)) (first | exact k0 | exact (HD7.out.later hdr).cells)
    ((first
      | (go_at_call 8; refine (T2.out _ hv8 HB8.out).mono ?_; rintro e w9 ⟨rfl, hv9, hO9⟩; have HB9 := Lib.hid (HB8.out.trans ((hv8.below hO9).mono h48)); have hd9 := hd8.only hO9; have k0 := hd9.cells; have HP9 := Lib.hid (HP8.out.only17 hO9))
      | (go_at_call 8; refine T1.out.mono ?_; rintro e w8 ⟨rfl, hv8, hO8⟩; have h48 := HB4.out.size; have HB8 := Lib.hid (HB7.out.trans ((hdr.mono HB7.out.size).trans (((HV7.out.later hdr).below hO8).mono h48))); have hd8 := (HD7.out.later hdr).only hO8; have k0 := hd8.cells; have HP8 := Lib.hid ((HP7.out.later hdr).only17 hO8))
      | (go_at_call 9; refine (view_Pairs hv9).mono ?_; rintro e w10 ⟨xv, rfl, ho, hb10⟩; have hv10 := hv9.later hb10; have hd10 := hd9.later hb10; have k0 := hd10.cells; have hx := ho.1.rd (by have := HZ.out.few; omega); obtain ⟨ax, nx, kx, rfl⟩ := RdP.lit17 hx; clear ho)
      | (go_at_call 21; refine (same17 hx (HP9.out.later hb10).rd).mono ?_; rintro e w11 ⟨rfl, hb11⟩; have hv11 := hv10.later hb11; have hd11 := hd10.later hb11; have k0 := hd11.cells)
      | (go_at_call 10; refine (view_Cursor hv11).mono ?_; rintro e w12 ⟨rfl, hb12⟩; have hv12 := hv11.later hb12; have hd12 := hd11.later hb12; have k0 := hd12.cells)))
  have HB12 := Lib.hid (HB9.out.trans (((hb10.trans (hb11.mono hb10.size)).trans (hb12.mono (Nat.le_trans hb10.size hb11.size))).mono HB9.out.size))
  have HV12 := Lib.hid hv12
  have HD12 := Lib.hid hd12
  clear k0 hv8 hv9 hv10 hv11 hv12 hd8 hd9 hd10 hd11 hd12 hO8 hO9 hb10 hb11 hb12 HP8 HP9 hx T1 T2 hdr HV7 HP7 HD7 HB8 e0 e1
  have hdr := (Below.refl w12.heap.size w12).drew
  have T3 := Lib.hid (take_reset (a := []) (d := (3 + y0, 7 + y1, pr)) (k := 3) (HV12.out.later hdr) (RdP.nil _) (fun p hp => absurd hp (by simp)) (chk_nil HZ.out.schema) rfl (Int.le_refl _) (Int.le_refl _) (by omega) rfl HC.out (HT.out _ (HB12.out.trans (hdr.mono HB12.out.size))))
  have k0 := HD12.out.cells.2.2.2
  have h48 := HB4.out.size
  go_wp2_with fail
  go_region_held3 (fun z => z.cell? ⟨ba + 1, 0, none⟩ = some (.int .i64 (3 + y0)) ∧ z.cell? ⟨ba + 1, 1, none⟩ = some (.int .i64 (7 + y1)) ∧ z.cell? ⟨ba + 1, 2, none⟩ = some (.int .u32 pr)) (first | exact k0 | exact (HD12.out.later hdr).cells.2.2.2)
    ((first
      | (go_at_call 8; refine T3.out.mono ?_; rintro e w13 ⟨rfl, hv13, hO13⟩; have HB13 := Lib.hid (HB12.out.trans ((hdr.mono HB12.out.size).trans (((HV12.out.later hdr).below hO13).mono h48))); have hd13 := (HD12.out.later hdr).only hO13; have k0 := hd13.cells.2.2.2)
      | (go_at_call 9; refine (view_Pairs hv13).mono ?_; rintro e w14 ⟨xv, rfl, ho, hb14⟩; have hv14 := hv13.later hb14; have hd14 := hd13.later hb14; have k0 := hd14.cells.2.2.2; have hx := (ho.1.rd (by simp)).len; obtain ⟨ax, nx, kx, rfl⟩ := RdP.lit17 (ho.1.rd (by simp)); clear ho)
      | (go_at_call 10; refine (view_Cursor hv14).mono ?_; rintro e w15 ⟨rfl, hb15⟩; have hv15 := hv14.later hb15; have hd15 := hd14.later hb15; have k0 := hd15.cells.2.2.2)
      | (go_at_call 11; refine (view_Taken hv15).mono ?_; rintro e w16 ⟨rfl, rfl⟩)))
  all_goals
    have HB16 := Lib.hid (HB13.out.trans ((hb14.trans (hb15.mono hb14.size)).mono HB13.out.size))
    clear k0 hv13 hv14 hv15 hd13 hd14 hd15 hO13 hb14 hb15 HB13 HV12 HD12 hdr
    go_wp2
    go_ret
    exact ⟨rfl, HB16.out⟩

end Go.Proofs.YtokpphhmmcoeaaaGreatDoor
