/-
  ViewOrder: the law's own walk.
-/
import Derived.Test.YtokpphhmmcoeaaaGreatDoorVwKit
import Derived.Test.YtokpphhmmcoeaaaGreatDoorChg
set_option linter.unusedVariables false
set_option linter.unusedSimpArgs false
set_option maxRecDepth 1000000
namespace Go.Proofs.YtokpphhmmcoeaaaGreatDoor
open Go.RowKit Go.Shelf

set_option maxHeartbeats 32000000 in
theorem viewOrder_walk (sv : Value) (cs : List ColB) (v : Value) (vals : List Value) (pss : List (List PairB)) (w : World) (hR : RdC w sv cs) (hC : CS cs) (hV : Chg w v vals pss) (hU : pss.flatten.length ≤ 1048576) (hT : Tabs w) :
    Calls Tryz.prog 5 #[sv, v] w fun e w' => e = .returned (.bool true) ∧ Below w.heap.size w w' := by
  obtain ⟨ac, nc, cc, rfl⟩ := RdC.lit17 hR
  obtain ⟨al, nl, cl, rfl⟩ := hV.lit
  have hlc := hR.len
  have hsc := hR.small
  have hlen := hV.size
  have hsm := hV.small
  have AL := Lib.hid (fun wz (hz : Below w.heap.size w wz) => law17_alive wz (hT.later hz))
  have HRC := Lib.hid (fun wz (hz : Below w.heap.size w wz) => hR.later hz (Nat.le_refl _))
  have HV := Lib.hid (fun wz (hz : Below w.heap.size w wz) => hV.later hz)
  have HT := Lib.hid (fun wz (hz : Below w.heap.size w wz) => hT.later hz)
  obtain ⟨pr, hpr, hPR⟩ := print17 (.slice ac nc cc) cs w hR hC hT
  have PR := Lib.hid hPR
  have HPR := Lib.hid hpr
  have NW := Lib.hid (fun wz (hz : Below w.heap.size w wz) => view_New (.slice ac nc cc) cs (fun _ => False) wz (hR.later hz (Nat.le_refl _)) hC (fun _ h => h.elim) (hT.later hz))
  have CO := Lib.hid (fun wz xv ps (hz : Below w.heap.size w wz) (hx : RdP wz xv ps) (hp : PSO ps) (hn : ps.length * 32 ≤ 140737488351360) => zset_CollectN (.slice ac nc cc) xv cs ps wz (hR.later hz (Nat.le_refl _)) hx hC hp (hT.later hz) hn)
  have HC := Lib.hid hC
  have HU := Lib.hid (fun k => Nat.le_trans (flatten_take pss k) hU)
  obtain ⟨n, hn⟩ : ∃ n, n = pss.length := ⟨_, rfl⟩
  obtain ⟨n1, hn1⟩ : ∃ n1, n1 = cs.length := ⟨_, rfl⟩
  rw [← hn] at hlen hsm
  rw [← hn1] at hlc hsc
  have HN := Lib.hid hn
  clear hR hC hV hU hT hn hn1 hpr hPR
  go_enter Tryz.func5, Tryz.ntmps5
  go_wp2
  go_loopw [5, 25] (fun a i wr => ∃ k : Nat, k ≤ n ∧ i = .int .i64 k ∧ Hid (OwnP wr w.heap.size a (pss.take k).flatten) ∧ Hid (Below w.heap.size w wr)) (fun _ i _ => n - (intOf i).toNat)
  case atStart => exact ⟨0, by omega, rfl, Lib.hid (OwnP.nil _ _), Lib.hid (Below.refl _ _)⟩
  case round =>
    obtain ⟨k, hk, rfl, HO, HB⟩ := hrel
    by_cases hlt : k < n
    · have hkn : k < pss.length := by rw [← HN.out]; exact hlt
      obtain ⟨b9, o9, lv, hidx, y0, hpv, _⟩ := (HV.out w (Below.refl _ _)).get hkn
      have e0 := keep_cell HB.out y0
      have hfs := flatten_snoc hkn
      have hfl := HU.out (k + 1)
      obtain ⟨ps, hx⟩ : ∃ x, x = pss.getD k [] := ⟨_, rfl⟩
      rw [← hx] at hpv hfs
      rw [hfs, List.length_append] at hfl
      have HFS := Lib.hid hfs
      have HFL := Lib.hid hfl
      obtain ⟨ap, np, cp, rfl⟩ := RdP.lit17 hpv
      obtain ⟨us, hu1, hu2, hu3⟩ := hpv.app
      obtain ⟨hu4, hu5⟩ := hu3 wr HB.out
      have hu6 := hu5 u5 (fun g hg => (HO.out.lt hg).1)
      have ha7 := HO.out
      have hb7 := HB.out
      clear hx hfs hfl hu3 hu5 hpv hkn y0
      go_wp2_with (with_reducible refine wplP_appendAll w.heap.size u5 ?hs ha7 (.slice ap np cp) ?hx us hu4 hu6 ?hn ?hbase w.heap.size w hb7 (Nat.le_refl _) ?_)
      case hs => rfl
      case hx => rfl
      case hn => have := HFL.out; rw [hu2]; omega
      case hbase => exact hb7.size
      intro v8 w8 ho8 hb8 hg8 _
      have HA8 := Lib.hid (show OwnP w8 w.heap.size v8 (pss.take (k + 1)).flatten from by rw [HFS.out, ← hu1]; exact ho8)
      have HB8 := Lib.hid hb8
      clear ho8 hb8 hg8 ha7 hb7 hu4 hu6 hu1 hu2 e0 HO HB
      go_wp2
      go_roundw
      case rel => exact ⟨k + 1, by omega, by go_num, HA8, HB8⟩
      case measure => simp [intOf]; omega
    · obtain rfl : k = n := by omega
      have ha : OwnP wr w.heap.size u5 pss.flatten := by
        have := HO.out
        rwa [List.take_of_length_le (by rw [HN.out]; exact Nat.le_refl _)] at this
      have hfl : pss.flatten.length ≤ 1048576 := by have := HU.out pss.length; rwa [List.take_length] at this
      have hr := ha.rd (by omega)
      have hlf := hr.len
      obtain ⟨ar, nr, cr, rfl⟩ := RdP.lit17 hr
      have GR := Lib.hid (fun wz (hz : Below wr.heap.size wr wz) => great_one17 (.slice ar nr cr) pss.flatten wz (hr.later hz (Nat.le_refl _)) rfl)
      obtain ⟨m, hm⟩ : ∃ m, m = pss.flatten.length := ⟨_, rfl⟩
      rw [← hm] at hlf hfl
      have HM := Lib.hid hm
      clear ha hr HO hm hlt
      go_wp2_with fail
      refine (AL.out wr HB.out).mono ?_
      rintro e w1 ⟨rfl, hb⟩
      have HB1 := Lib.hid (HB.out.trans (hb.mono HB.out.size))
      have HB01 := Lib.hid hb
      clear hb HB
      by_cases h20 : 20 < k
      · have d1 : decide ((k : Int) > 20) = true := decide_eq_true (by omega)
        go_wp2_with fail
        refine (AL.out w1 HB1.out).mono ?_
        rintro e w2 ⟨rfl, hb⟩
        have HB2 := Lib.hid (HB1.out.trans (hb.mono HB1.out.size))
        clear hb
        go_wp2
        go_ret
        exact ⟨rfl, HB2.out⟩
      have d1 : decide ((k : Int) > 20) = false := decide_eq_false (by omega)
      by_cases h150 : 150 < m
      · have d2 : decide ((m : Int) > 150) = true := decide_eq_true (by omega)
        go_wp2_with fail
        refine (AL.out w1 HB1.out).mono ?_
        rintro e w2 ⟨rfl, hb⟩
        have HB2 := Lib.hid (HB1.out.trans (hb.mono HB1.out.size))
        clear hb
        go_wp2
        go_ret
        exact ⟨rfl, HB2.out⟩
      have d2 : decide ((m : Int) > 150) = false := decide_eq_false (by omega)
      by_cases h30 : 30 < n1
      · have d3 : decide ((n1 : Int) > 30) = true := decide_eq_true (by omega)
        go_wp2_with fail
        refine (AL.out w1 HB1.out).mono ?_
        rintro e w2 ⟨rfl, hb⟩
        have HB2 := Lib.hid (HB1.out.trans (hb.mono HB1.out.size))
        clear hb
        go_wp2
        go_ret
        exact ⟨rfl, HB2.out⟩
      have d3 : decide ((n1 : Int) > 30) = false := decide_eq_false (by omega)
      go_wp2_with fail
      refine (GR.out w1 HB01.out).mono ?_
      rintro e w2 ⟨x, rfl, hx, hb⟩
      have HB2 := Lib.hid (HB1.out.trans (hb.mono HB1.out.size))
      clear hb GR HB1 HB01
      rcases hx with rfl | rfl
      case inr =>
        go_wp2_with fail
        refine (AL.out w2 HB2.out).mono ?_
        rintro e w3 ⟨rfl, hb⟩
        have HB3 := Lib.hid (HB2.out.trans (hb.mono HB2.out.size))
        clear hb
        go_wp2
        go_ret
        exact ⟨rfl, HB3.out⟩
      clear AL
      go_wp2_with fail
      refine (NW.out w2 HB2.out).mono ?_
      rintro e w3 ⟨vv, rfl, hb, hv⟩
      have HB3 := Lib.hid (HB2.out.trans (hb.mono HB2.out.size))
      clear hb NW
      rcases hv with ⟨h9, rfl⟩ | ⟨hS, g, rfl, hg, hv⟩
      · have q0 : ((errS (colsL cs) : Int) != 0) = true := by rw [bne_iff_ne]; omega
        have HN9 := Lib.hid h9
        clear h9
        go_wp2_with fail
        refine (PR.out w3 HB3.out).mono ?_
        rintro e w4 ⟨rfl, hb⟩
        have HB4 := Lib.hid (HB3.out.trans (hb.mono HB3.out.size))
        clear hb
        go_wp2
        go_ret
        exact ⟨rfl, HB4.out⟩
      rw [hS]
      have hpr := HPR.out hS
      rw [← hpr] at hv
      have HV3 := Lib.hid hv
      have HGW := Lib.hid (show w.heap.size ≤ g ∧ w.heap.size ≤ w2.heap.size from ⟨by have := HB2.out.size; omega, HB2.out.size⟩)
      have HSS := Lib.hid hS
      clear hv hg hpr hS
      go_wp2_with fail
      refine (PR.out w3 HB3.out).mono ?_
      rintro e w4 ⟨rfl, hb⟩
      rw [HSS.out]
      have HB4 := Lib.hid (HB3.out.trans (hb.mono HB3.out.size))
      have HV4 := Lib.hid ((HV3.out.later hb).more (Q' := fun j => (Value.slice none 0 0).ownBlock = some j) fun j _ h => by cases h)
      clear hb HB3 HV3 PR HB2
      have HK := Lib.hid (show k ≤ 20 from by omega)
      clear d1 d2 d3 h20 h150 h30 hlf hfl HM hlc hsc
      go_wp2
      go_loopw [12, 13, 79] (fun tk nn i wz => ∃ (j c : Nat) (qs ts : List PairB), j ≤ k ∧ i = .int .i64 j ∧ nn = .int .i64 c ∧ c ≤ j ∧ Hid (OwnPO w wz tk ts) ∧ Hid (Vw 65 wz w2.heap.size g cs qs ((c : Int), 10 * (c : Int), pr) (c : Int) (fun q => tk.ownBlock = some q)) ∧ Hid (Fold cs qs ts) ∧ Hid (ts.length ≤ (pss.take j).flatten.length) ∧ Hid (Below w.heap.size w wz)) (fun _ _ i _ => k - (intOf i).toNat)
      case atStart => exact ⟨0, 0, [], [], by omega, rfl, rfl, Nat.le_refl _, Lib.hid (OwnPO.nil _ _), HV4, Lib.hid Fold.nil, Lib.hid (Nat.zero_le _), HB4⟩
      case round =>
        clear HV4 HB4
        obtain ⟨j, c, qs, ts, hj, rfl, rfl, hcj, HO, HVW, HFO, HLE, HB⟩ := hrel
        by_cases hlt : j < k
        · have hkn : j < pss.length := by rw [← HN.out]; exact hlt
          obtain ⟨b9, o9, lv, hidx, y0, hpv, hpo⟩ := (HV.out w (Below.refl _ _)).get hkn
          have e0 := keep_cell HB.out y0
          have hfs := flatten_snoc hkn
          have hfl := HU.out (j + 1)
          obtain ⟨ps, hx⟩ : ∃ x, x = pss.getD j [] := ⟨_, rfl⟩
          rw [← hx] at hpv hpo hfs
          rw [hfs, List.length_append] at hfl
          have HFS := Lib.hid hfs
          have HFL := Lib.hid hfl
          obtain ⟨ap, np, cp, rfl⟩ := RdP.lit17 hpv
          have HPO := Lib.hid hpo
          have HPV := Lib.hid hpv
          have hk20 := HK.out
          have hc20 : (c : Int) ≤ 20 := by omega
          have CA := Lib.hid (CO.out _ (.slice ap np cp) ps HB.out (hpv.later HB.out (Nat.le_refl _)) hpo (by omega))
          have OK := Lib.hid (fun h => (clc_ok (cs := cs) hpo h).1)
          have NX := Lib.hid (fun h1 h2 => HFO.out.next hpo h1 h2)
          clear hfs hfl hkn y0 hx hpv hpo
          obtain ⟨E, hE⟩ : ∃ E, E = clcE cs ps := ⟨_, rfl⟩
          rw [← hE] at CA OK NX
          obtain ⟨P, hP⟩ : ∃ P, P = clcO cs ps := ⟨_, rfl⟩
          rw [← hP] at CA OK NX
          clear hE hP
          go_wp2_with fail
          refine CA.out.mono ?_
          rintro e w5 ⟨xv, rfl, ha, hb⟩
          obtain ⟨aa, na, ka, rfl⟩ := RdP.lit17 ha.rd
          have HB5 := Lib.hid (HB.out.trans (hb.mono HB.out.size))
          have HV5 := Lib.hid (HVW.out.later hb)
          have HO5 := Lib.hid (HO.out.later hb)
          have HP5 := Lib.hid ha.rd
          clear ha hb CA e0 HB HVW HO
          by_cases hE0 : E = 0
          case neg =>
            have q0 : ((E : Int) != 0) = true := by rw [bne_iff_ne]; omega
            have HL := Lib.hid (show ts.length ≤ (pss.take (j + 1)).flatten.length from by rw [HFS.out, List.length_append]; have := HLE.out; omega)
            clear hE0
            go_wp2
            go_roundw
            case rel => exact ⟨j + 1, c, qs, ts, by omega, by go_num, rfl, by omega, HO5, HV5, HFO, HL, HB5⟩
            case measure => simp [intOf]; omega
          subst hE0
          have HZ := Lib.hid (OK.out rfl)
          clear OK
          go_wp2_with fail
          refine (view_Cursor HV5.out).mono ?_
          rintro e w6 ⟨rfl, hb⟩
          have HB6 := Lib.hid (HB5.out.trans (hb.mono HB5.out.size))
          have HV6 := Lib.hid (HV5.out.later hb)
          have HO6 := Lib.hid (HO5.out.later hb)
          have HP6 := Lib.hid (HP5.out.later hb (Nat.le_refl _))
          clear hb HB5 HV5 HO5 HP5
          obtain ⟨M0, M1, M2⟩ := new1 w6 (.cells #[.int .i64 (c : Int), .int .i64 (10 * (c : Int)), .int .u32 pr] 30)
          obtain ⟨w7, hw7⟩ : ∃ w7, w7 = w6.alloc (.cells #[.int .i64 (c : Int), .int .i64 (10 * (c : Int)), .int .u32 pr] 30) := ⟨_, rfl⟩
          rw [← hw7] at M0 M1 M2
          have HW7 := Lib.hid hw7
          obtain ⟨ba, hba⟩ : ∃ ba, ba = w6.heap.size := ⟨_, rfl⟩
          rw [← hba] at M0 M1
          have HBA := Lib.hid hba
          have HB7 := Lib.hid (HB6.out.trans (M2.mono HB6.out.size))
          have HV7 := Lib.hid (HV6.out.later M2)
          have HO7 := Lib.hid (HO6.out.later M2)
          have HP7 := Lib.hid (HP6.out.later M2 (Nat.le_refl _))
          have HC7 := Lib.hid (show C17 w7 ba ((c : Int), 10 * (c : Int), pr) from M1)
          have HBG := Lib.hid (show ba ≠ g from by have := HV6.out.lt; omega)
          clear M0 M1 M2 hw7 hba HB6 HV6 HO6 HP6
          obtain ⟨S, hS⟩ : ∃ S, S = sumE cs qs P := ⟨_, rfl⟩
          have HS := Lib.hid hS
          clear hS
          go_wp2_with fail
          rw [← HW7.out, ← HBA.out]
          have hQ7 : ∀ q, u12.ownBlock = some q → q < w7.heap.size := fun q hq => (HO7.out.lt hq).2
          by_cases hS0 : S = 0
          · subst hS0
            have TK := Lib.hid (take_changeQ (d := ((c : Int) + 1, 10 * ((c : Int) + 1), pr)) (k := (c : Int) + 1) HV7.out hQ7 HP7.out HZ.out.1 HS.out.symm rfl rfl (by dsimp only; omega) (by dsimp only; omega) (by omega) rfl HC.out (HT.out _ HB7.out))
            clear hQ7
            refine TK.out.mono ?_
            rintro e w8 ⟨rfl, hv, hO⟩
            have HB8 := Lib.hid (HB7.out.trans ((HV7.out.below hO).mono HGW.out.2))
            have HV8 := Lib.hid hv
            have HO8 := Lib.hid (HO7.out.beside hO fun h9 => HV7.out.free h9)
            have HC8 := Lib.hid (HC7.out.only hO HBG.out)
            clear hv hO TK HB7 HV7 HO7 HP7 HC7
            go_wp2_with fail
            refine (view_Cursor HV8.out).mono ?_
            rintro e w9 ⟨rfl, hb⟩
            have HB9 := Lib.hid (HB8.out.trans (hb.mono HB8.out.size))
            have HV9 := Lib.hid (HV8.out.later hb)
            have HO9 := Lib.hid (HO8.out.later hb)
            have HC9 := Lib.hid (HC8.out.later hb)
            clear hb HB8 HV8 HO8 HC8
            obtain ⟨L0, L1, L2⟩ := new1 w9 (.cells #[.int .i64 ((c : Int) + 1), .int .i64 (10 * ((c : Int) + 1)), .int .u32 pr] 30)
            obtain ⟨e0, e1, e2⟩ := (HC9.out.later L2).cells
            have ho9 := HO9.out
            have hb9 := HB9.out.trans (L2.mono HB9.out.size)
            have hv9 := HV9.out.later L2
            have ho9' := ho9.later L2
            clear L0 L1
            go_wp2_with (with_reducible refine wplPO_append ?hs ho9' ?hx HPV.out ?hn hb9 ?_)
            case hs => rfl
            case hx => rfl
            case hn => have := HLE.out; have := HFL.out; omega
            intro v10 w10 ho10 hb10 hg10 hp10
            have HV10 := Lib.hid (hv9.grow hg10 hp10)
            have HO10 := Lib.hid ho10
            have HB10 := Lib.hid hb10
            have HF := Lib.hid (NX.out (by first | trivial | rfl) HS.out.symm)
            have HL := Lib.hid (show (ts ++ ps).length ≤ (pss.take (j + 1)).flatten.length from by rw [HFS.out, List.length_append, List.length_append]; have := HLE.out; omega)
            clear ho9 hb9 hv9 ho9' ho10 hb10 hg10 hp10 L2 HO9 HV9 HB9
            go_wp2
            go_roundw
            case rel => exact ⟨j + 1, c + 1, _, ts ++ ps, by omega, by go_num, by go_num, by omega, HO10, Lib.hid (by have h9 := HV10.out; rw [show (((c + 1 : Nat) : Int)) = (c : Int) + 1 from by omega]; exact h9), HF, HL, HB10⟩
            case measure => simp [intOf]; omega
          · have q0 : ((S : Int) == 0) = false := by rw [beq_eq_false_iff_ne]; omega
            have TK := Lib.hid (take_fail (d := ((c : Int) + 1, 10 * ((c : Int) + 1), pr)) HV7.out hQ7 HP7.out HZ.out.1 HS.out.symm hS0 rfl (by dsimp only; omega) (by dsimp only; omega) (by omega) HC.out (HT.out _ HB7.out))
            clear hQ7 hS0
            refine TK.out.mono ?_
            rintro e w8 ⟨rfl, hv, hO⟩
            have HB8 := Lib.hid (HB7.out.trans ((HV7.out.below hO).mono HGW.out.2))
            have HV8 := Lib.hid hv
            have HO8 := Lib.hid (HO7.out.beside hO fun h9 => HV7.out.free h9)
            have HC8 := Lib.hid (HC7.out.only hO HBG.out)
            clear hv hO TK HB7 HV7 HO7 HP7 HC7
            go_wp2_with fail
            refine (view_Cursor HV8.out).mono ?_
            rintro e w9 ⟨rfl, hb⟩
            have HB9 := Lib.hid (HB8.out.trans (hb.mono HB8.out.size))
            have HV9 := Lib.hid (HV8.out.later hb)
            have HO9 := Lib.hid (HO8.out.later hb)
            have HC9 := Lib.hid (HC8.out.later hb)
            clear hb HB8 HV8 HO8 HC8
            obtain ⟨L0, L1, L2⟩ := new1 w9 (.cells #[.int .i64 (c : Int), .int .i64 (10 * (c : Int)), .int .u32 pr] 30)
            obtain ⟨e0, e1, e2⟩ := (HC9.out.later L2).cells
            have HB10 := Lib.hid (HB9.out.trans (L2.mono HB9.out.size))
            have HV10 := Lib.hid (HV9.out.later L2)
            have HO10 := Lib.hid (HO9.out.later L2)
            have HL := Lib.hid (show ts.length ≤ (pss.take (j + 1)).flatten.length from by rw [HFS.out, List.length_append]; have := HLE.out; omega)
            clear L0 L1 L2 HB9 HV9 HO9 HC9
            go_wp2
            go_roundw
            case rel => exact ⟨j + 1, c, qs, ts, by omega, by go_num, rfl, by omega, HO10, HV10, HFO, HL, HB10⟩
            case measure => simp [intOf]; omega
        · obtain rfl : j = k := by omega
          have hts : ts.length ≤ 1048576 := Nat.le_trans HLE.out (HU.out _)
          have hrd := HO.out.rd HB.out (by omega)
          obtain ⟨at_, nt, kt, rfl⟩ := RdP.lit17 hrd
          have CA := Lib.hid (CO.out _ (.slice at_ nt kt) ts HB.out hrd HFO.out.1 (by omega))
          obtain ⟨l1, l2⟩ := HFO.out.last17 HSS.out
          rw [l1, l2] at CA
          clear hrd hlt hts l1 l2
          go_wp2_with fail
          refine CA.out.mono ?_
          rintro e w5 ⟨xv, rfl, ha, hb⟩
          obtain ⟨aa, na, ka, rfl⟩ := RdP.lit17 ha.rd
          have HB5 := Lib.hid (HB.out.trans (hb.mono HB.out.size))
          have HV5 := Lib.hid (HVW.out.later hb)
          have HP5 := Lib.hid ha.rd
          clear ha hb CA HB HVW HO
          go_wp2_with fail
          refine (view_Pairs HV5.out).mono ?_
          rintro e w6 ⟨xv, rfl, ho, hb⟩
          have hx := ho.1.rd (by have := HV5.out.set.few; omega)
          obtain ⟨ax, nx, kx, rfl⟩ := RdP.lit17 hx
          have HB6 := Lib.hid (HB5.out.trans (hb.mono HB5.out.size))
          have HV6 := Lib.hid (HV5.out.later hb)
          have SM := Lib.hid (same17 hx (HP5.out.later hb (Nat.le_refl _)))
          clear hx ho hb HB5 HV5 HP5
          go_wp2_with fail
          refine SM.out.mono ?_
          rintro e w7 ⟨rfl, hb⟩
          have HB7 := Lib.hid (HB6.out.trans (hb.mono HB6.out.size))
          have HV7 := Lib.hid (HV6.out.later hb)
          clear hb HB6 HV6 SM
          go_wp2_with fail
          refine (view_Taken HV7.out).mono ?_
          rintro e w8 ⟨rfl, rfl⟩
          go_wp2
          go_ret
          exact ⟨rfl, HB7.out⟩

end Go.Proofs.YtokpphhmmcoeaaaGreatDoor
