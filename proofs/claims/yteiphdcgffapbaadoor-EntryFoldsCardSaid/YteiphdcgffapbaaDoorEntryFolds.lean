/-
  EntryFolds: the law's own walk.
-/
import Derived.Test.YteiphdcgffapbaaDoorGEntL
import Derived.Test.YteiphdcgffapbaaDoorEntMath
import Derived.Test.YteiphdcgffapbaaDoorEntApplyN
set_option linter.unusedVariables false
set_option linter.unusedSimpArgs false
set_option maxRecDepth 1000000
namespace Go.Proofs.YteiphdcgffapbaaDoor
open Go.RowKit Go.Shelf

set_option maxHeartbeats 32000000 in
theorem entryFolds_walk (v1 : Value) (cs : List ColB) (v : Value) (vals : List Value) (pss : List (List PairB)) (w : World) (hR : RdC w v1 cs) (hC : CS cs) (hV : RdPs w v vals) (hl : pss.length = vals.length)
    (hP : ∀ i, i < vals.length → RdP w (vals.getD i undef) (pss.getD i []) ∧ PSO (pss.getD i []) ∧ (pss.getD i []).length * 32 ≤ 140737488351232) (hT : Tabs w) :
    Calls Tryd.prog 3 #[v1, v] w fun e w' => e = .returned (.bool true) ∧ Below w.heap.size w w' := by
  have AL := Lib.hid (fun wz (hz : Below w.heap.size w wz) => law12_alive wz (hT.later hz))
  have CL := Lib.hid (fun wz v ps (hz : Below w.heap.size w wz) (hr : RdP wz v ps) (hp : PSO ps) (hs : ps.length * 32 ≤ 140737488351360) => zset_CollectN v1 v cs ps wz (hR.later hz (Nat.le_refl _)) hr hC hp (hT.later hz) hs)
  have SU := Lib.hid (fun wz va vb a b (hz : Below w.heap.size w wz) (ha : RdP wz va a) (hb : RdP wz vb b) (hA : PSO a) (hB : PSO b) => zset_Sum v1 va vb cs a b wz (hR.later hz (Nat.le_refl _)) ha hb hC hA hB (hT.later hz))
  have AP := Lib.hid (fun wz vv ev seq view x (hz : Below w.heap.size w wz) (hV : RdP wz vv view) (hE : RdN wz ev x) (hVO : PSO view) (hX : EnO x) (hq : inW seq) => entry_ApplyN v1 vv ev cs seq view x wz (hR.later hz (Nat.le_refl _)) hV hE hC hVO hX hq (hT.later hz))
  have GR := Lib.hid (fun (hn : vals.length ≤ 12) wz (hz : Below w.heap.size w wz) => law12_great v1 v cs vals pss wz (hR.later hz (Nat.le_refl _)) (RdG.later hV pairsOk hz (Nat.le_refl _)) hn hl (fun i hi wy hy => (hP i hi).1.later (hz.trans (hy.mono hz.size)) (Nat.le_refl _)))
  have hlen := RdG.len hV pairsOk
  rw [List.length_map] at hlen
  have hsmN := hV.small
  rw [List.length_map] at hsmN
  have HV := Lib.hid (fun wz (hz : Below w.heap.size w wz) => RdG.later hV pairsOk hz (Nat.le_refl _))
  have HP := Lib.hid hP
  obtain ⟨n, hn⟩ : ∃ n, n = vals.length := ⟨_, rfl⟩
  rw [← hn] at hlen hsmN GR
  have hlen : ∀ u, (Builtin.len_ #[23] 3 #[v]).run Tryd.prog u = .ok (.int .i64 (n : Int)) u := hlen
  have HN := Lib.hid hn
  have HL := Lib.hid hl
  have HB := Lib.hid (Below.refl w.heap.size w)
  clear hR hC hV hP hT hn hl
  go_enter Tryd.func3, Tryd.ntmps3
  go_wp2_with fail
  refine (AL.out w HB.out).mono ?_
  rintro e w1 ⟨rfl, hb⟩
  replace HB := Lib.hid (HB.out.trans (hb.mono HB.out.size))
  clear hb
  by_cases h12 : 12 < n
  · have d1 : decide ((n : Int) > 12) = true := decide_eq_true (by omega)
    go_wp2_with fail
    refine (AL.out w1 HB.out).mono ?_
    rintro e w2 ⟨rfl, hb⟩
    replace HB := Lib.hid (HB.out.trans (hb.mono HB.out.size))
    clear hb
    go_wp2
    go_ret
    exact ⟨rfl, HB.out⟩
  · have d1 : decide ((n : Int) > 12) = false := decide_eq_false (by omega)
    go_wp2_with fail
    refine (GR.out (by omega) w1 HB.out).mono ?_
    rintro e w2 ⟨bb, rfl, hgr, hb⟩
    replace HB := Lib.hid (HB.out.trans (hb.mono HB.out.size))
    clear hb GR
    cases bb with
    | true =>
      go_wp2_with fail
      refine (AL.out w2 HB.out).mono ?_
      rintro e w3 ⟨rfl, hb⟩
      replace HB := Lib.hid (HB.out.trans (hb.mono HB.out.size))
      clear hb
      go_wp2
      go_ret
      exact ⟨rfl, HB.out⟩
    | false =>
      have HGr := Lib.hid (hgr rfl).2
      clear AL hgr
      have HR0 := Lib.hid (RdP.nil w2)
      have HO0 := Lib.hid (OwnP.nil w2 w.heap.size)
      have HF0 := Lib.hid (Fold.nil (cs := cs))
      go_wp2
      go_loopw [5, 6, 7, 40] (fun view all sq i wr => ∃ (k q : Nat) (vl al : List PairB), k ≤ n ∧ q ≤ k ∧ i = .int .i64 k ∧ sq = .int .i64 q ∧ Hid (Fold cs vl al) ∧ Hid (al.length ≤ 100 * k) ∧ Hid (Below w.heap.size w wr) ∧ Hid (RdP wr view vl) ∧ Hid (OwnP wr w.heap.size all al)) (fun _ _ _ i _ => n - (intOf i).toNat)
      case atStart => exact ⟨0, 0, [], [], by omega, by omega, rfl, rfl, HF0, Lib.hid (by simp), HB, HR0, HO0⟩
      case round =>
        clear HB HR0 HO0 HF0
        obtain ⟨k, q, vl, al, hk, hq, rfl, rfl, HF, HAl, HB, HRv, HO⟩ := hrel
        by_cases hlt : k < n
        · have hl2 : k < (vals.map fun x => [x]).length := by rw [List.length_map, ← HN.out]; exact hlt
          have hr := HV.out wr HB.out
          have hidx := RdG.idx hr pairsOk k hl2
          obtain ⟨b, o, ha, hc⟩ := RdG.at hr hl2
          rw [ha] at hidx
          rw [getD_map (fun x => [x]) vals k (by rw [← HN.out]; exact hlt) undef] at hc
          have hc0 := hc 0 _ rfl
          rw [Nat.add_zero] at hc0
          obtain ⟨p1, p2, p3⟩ := HP.out k (by rw [← HN.out]; exact hlt)
          have hg9 := HGr.out k (by rw [HL.out, ← HN.out]; exact hlt)
          obtain ⟨rv, hrv⟩ : ∃ rv, rv = vals.getD k undef := ⟨_, rfl⟩
          rw [← hrv] at hc0 p1
          obtain ⟨ps, hps⟩ : ∃ ps, ps = pss.getD k [] := ⟨_, rfl⟩
          rw [← hps] at p1 p2 p3 hg9
          obtain ⟨po, pn, pc, rfl⟩ := p1.lit12
          have HP1 := Lib.hid p1
          have HP2 := Lib.hid p2
          have HG9 := Lib.hid hg9
          have hidx : ∀ u, (Instr.indexAt 23 v (.int .i64 (k : Int))).run Tryd.prog u = .ok (.pointer (some ⟨b, o, none⟩)) u := hidx
          have C1 := Lib.hid (CL.out wr _ ps HB.out (p1.later HB.out (Nat.le_refl _)) p2 (by omega))
          obtain ⟨E1, hE1⟩ : ∃ E1, E1 = clcE cs ps := ⟨_, rfl⟩
          rw [← hE1] at C1
          have HE1 := Lib.hid hE1
          clear hl2 hr ha hc p1 p2 p3 hg9 hrv hps hE1
          go_wp2_with fail
          refine C1.out.mono ?_
          rintro e w4 ⟨av, rfl, hra, hb⟩
          have HB4 := Lib.hid (HB.out.trans (hb.mono HB.out.size))
          have HR4 := Lib.hid (HRv.out.later hb (Nat.le_refl _))
          have HO4 := Lib.hid (HO.out.later hb (Nat.le_refl _))
          have HNa := Lib.hid hra
          have HA4 := Lib.hid hra.rd
          have hal6 := fun g hg => (HO.out.lt (k := g) hg).2
          have HS4 := Lib.hid hb.size
          have HL6 := Lib.hid hal6
          clear hb hra C1 HB HRv HO hal6
          by_cases h1 : E1 = 0
          · subst h1
            obtain ⟨a, haa⟩ : ∃ a, a = clcO cs ps := ⟨_, rfl⟩
            rw [← haa] at HA4 HNa
            have hza := (clc_ok (cs := cs) HP2.out HE1.out.symm).1
            rw [← haa] at hza
            have hzv := HF.out.set hza.schema
            obtain ⟨e4, e5, e6⟩ := ap_delta (s := (q : Int)) hzv hza (by omega)
            have hnx := fun h => HF.out.next (p := ps) HP2.out HE1.out.symm h
            rw [← haa] at hnx
            have hns := fun h => (sum_ok hzv hza h).1
            obtain ⟨E2, hE2⟩ : ∃ E2, E2 = sumE cs vl a := ⟨_, rfl⟩
            obtain ⟨R, hRr⟩ : ∃ R, R = sumO cs vl a := ⟨_, rfl⟩
            rw [← hE2] at e4 e5 hnx hns
            rw [← hRr] at e6 hnx hns
            obtain ⟨va, vn, vc, hvl⟩ := HR4.out.lit12
            obtain ⟨aa, an, ac, hal⟩ := HA4.out.lit12
            subst hvl
            subst hal
            have A1 := Lib.hid (show Calls Tryd.prog 8 #[v1, .int .i64 (q : Int), .slice va vn vc, .agg #[.int .i64 0, .int .i64 ((q : Int) + 1), .slice aa an ac]] w4 fun e w' => ∃ v m, e = .returned (.tuple #[.int .i64 m, v, .int .i64 (E2 : Int)]) ∧ (E2 = 0 → m = (q : Int) + 1) ∧ NewP w' w4.heap.size v R ∧ Below w4.heap.size w4 w' from by
              refine (AP.out w4 _ _ (q : Int) vl (0, (q : Int) + 1, a) HB4.out HR4.out ⟨_, rfl, HA4.out⟩ hzv.1 ⟨by unfold inW; dsimp only; omega, by unfold inW; dsimp only; omega, hza.1⟩ (by unfold inW; omega)).mono ?_
              rintro e w' ⟨v, he, hr, hb⟩
              rw [e4] at he
              rw [e6] at hr
              exact ⟨v, _, he, e5, hr, hb⟩)
            have S1 := Lib.hid (fun wz (hz : Below w.heap.size w wz) (h1 : RdP wz (.slice va vn vc) vl) (h2 : RdP wz (.slice aa an ac) a) => show Calls Tryd.prog 9 #[v1, .slice va vn vc, .slice aa an ac] wz fun e w' => ∃ v, e = .returned (.tuple #[v, .int .i64 (E2 : Int)]) ∧ RdP w' v R ∧ Below wz.heap.size wz w' from by
              have := SU.out wz _ _ vl a hz h1 h2 hzv.1 hza.1
              rw [← hE2, ← hRr] at this
              exact this)
            have HZa := Lib.hid hza
            have HNx := Lib.hid hnx
            have HNs := Lib.hid hns
            clear hza hzv hnx hns e4 e5 e6 hE2 hRr haa
            go_wp2_with fail
            refine A1.out.mono ?_
            rintro e w5 ⟨rv5, m5, rfl, hm5, hr5, hb⟩
            have HB5 := Lib.hid (HB4.out.trans (hb.mono HB4.out.size))
            have HR5 := Lib.hid (HR4.out.later hb (Nat.le_refl _))
            have HA5 := Lib.hid (HA4.out.later hb (Nat.le_refl _))
            have HO5 := Lib.hid (HO4.out.later hb (Nat.le_refl _))
            have HV5 := Lib.hid hr5.rd
            have HNv := Lib.hid hr5
            replace HNa := Lib.hid (HNa.out.later hb (Nat.le_refl _))
            have HM5 := Lib.hid hm5
            clear hb hr5 hm5 A1 HB4 HR4 HA4 HO4
            go_wp2_with fail
            refine (S1.out w5 HB5.out HR5.out HA5.out).mono ?_
            rintro e w6 ⟨sv6, rfl, hr6, hb⟩
            have HB6 := Lib.hid (HB5.out.trans (hb.mono HB5.out.size))
            have HR6 := Lib.hid (HR5.out.later hb (Nat.le_refl _))
            have HA6 := Lib.hid (HA5.out.later hb (Nat.le_refl _))
            have HO6 := Lib.hid (HO5.out.later hb (Nat.le_refl _))
            have HV6 := Lib.hid (HV5.out.later hb (Nat.le_refl _))
            replace HNa := Lib.hid (HNa.out.later hb (Nat.le_refl _))
            replace HNv := Lib.hid (HNv.out.later hb (Nat.le_refl _))
            have SM := Lib.hid (zset_Same rv5 sv6 R R w6 HV6.out hr6)
            rw [decide_eq_true rfl] at SM
            clear hb hr6 S1 HB5 HR5 HA5 HO5 HV5
            by_cases h2 : E2 = 0
            · obtain rfl := HM5.out h2
              have hF9 := HNx.out h2
              have hZ9 := HNs.out h2
              subst h2
              have d2 : ((q : Int) + 1 != (q : Int) + 1) = false := by simp
              go_wp2_with fail
              refine SM.out.mono ?_
              rintro e w7 ⟨rfl, hb⟩
              have HB7 := Lib.hid (HB6.out.trans (hb.mono HB6.out.size))
              have HA7 := Lib.hid (HA6.out.later hb (Nat.le_refl _))
              have HO7 := Lib.hid (HO6.out.later hb (Nat.le_refl _))
              have HV7 := Lib.hid (HV6.out.later hb (Nat.le_refl _))
              replace HNa := Lib.hid (HNa.out.later hb (Nat.le_refl _))
              replace HNv := Lib.hid (HNv.out.later hb (Nat.le_refl _))
              have HF9 := Lib.hid hF9
              have HZ9 := Lib.hid hZ9
              clear hb SM HB6 HR6 HA6 HO6 HV6 HNx HNs hF9 hZ9 HM5 HF
              obtain ⟨ra, rn, rc, hrl⟩ := HV7.out.lit12
              subst hrl
              obtain ⟨ts, hts, ht1, ht2, ht3⟩ := HP1.out.parts
              obtain ⟨g1, g2⟩ := ht3 w7 0 HB7.out u6 (fun g hg => (HO7.out.lt hg).1)
              have HG1 := Lib.hid g1
              have HG2 := Lib.hid g2
              have HTs := Lib.hid hts
              have hlt9 : ts.length ≤ 100 := by have h9 := congrArg List.length hts; rw [List.length_map] at h9; have := HG9.out; omega
              have HLt := Lib.hid hlt9
              clear ht1 ht2 ht3 g1 g2 hts hlt9
              go_wp2_with (with_reducible refine wplP_appendAll w.heap.size _ ?hs HO7.out (.slice po pn pc) ?hx ts HG1.out HG2.out ?hn ?hbase w.heap.size w HB7.out (Nat.le_refl _) ?_)
              case hs => rfl
              case hx => rfl
              case hn => have := HAl.out; have := HLt.out; omega
              case hbase => exact HB7.out.size
              intro v8 w8 ho8 hb8 hg8 _
              rw [← HTs.out] at ho8
              have hO8 : Only (fun j => u6.ownBlock = some j) w7 w8 := ⟨hg8.os, hg8.tape, hg8.output, hg8.size, fun j hj hn => hg8.block j hj (fun e => hn e.symm)⟩
              have hv8 := (HNv.out.only hO8 (fun q hq e => by have := HL6.out q e; have := HS4.out; omega)).rd
              have ha8 := (HNa.out.only hO8 (fun q hq e => by have := HL6.out q e; omega)).rd
              obtain ⟨s1, s2⟩ := ap_snap (s := (q : Int) + 1) HZ9.out HZ9.out (by omega)
              rw [if_pos rfl] at s1
              obtain ⟨s3, s4⟩ := s2 rfl
              obtain ⟨t1, t2⟩ := ap_snap (s := (q : Int) + 1) HZ9.out HZa.out (by omega)
              have A2 := Lib.hid (show Calls Tryd.prog 8 #[v1, .int .i64 ((q : Int) + 1), .slice ra rn rc, .agg #[.int .i64 1, .int .i64 ((q : Int) + 1), .slice ra rn rc]] w8 fun e w' => ∃ v, e = .returned (.tuple #[.int .i64 ((q : Int) + 1), v, .int .i64 0]) ∧ RdP w' v R ∧ Below w8.heap.size w8 w' from by
                refine (AP.out w8 _ _ ((q : Int) + 1) R (1, (q : Int) + 1, R) hb8 hv8 ⟨_, rfl, hv8⟩ HZ9.out.1 ⟨by unfold inW; dsimp only; omega, by unfold inW; dsimp only; omega, HZ9.out.1⟩ (by unfold inW; omega)).mono ?_
                rintro e w' ⟨v, he, hr, hb⟩
                rw [s1, s3] at he
                rw [s4] at hr
                exact ⟨v, he, hr.rd, hb⟩)
              have A3 := Lib.hid (fun wz (hz : Below w.heap.size w wz) (h1 : RdP wz (.slice ra rn rc) R) (h2 : RdP wz (.slice aa an ac) a) => show Calls Tryd.prog 8 #[v1, .int .i64 ((q : Int) + 1), .slice ra rn rc, .agg #[.int .i64 1, .int .i64 ((q : Int) + 1), .slice aa an ac]] wz fun e w' => ∃ v m, e = .returned (.tuple #[.int .i64 m, v, .int .i64 ((if a = R then 0 else 15 : Nat) : Int)]) ∧ Below wz.heap.size wz w' from by
                refine (AP.out wz _ _ ((q : Int) + 1) R (1, (q : Int) + 1, a) hz h1 ⟨_, rfl, h2⟩ HZ9.out.1 ⟨by unfold inW; dsimp only; omega, by unfold inW; dsimp only; omega, HZa.out.1⟩ (by unfold inW; omega)).mono ?_
                rintro e w' ⟨v, he, hr, hb⟩
                rw [t1] at he
                exact ⟨v, _, he, hb⟩)
              have HB8 := Lib.hid hb8
              have HO8 := Lib.hid ho8
              have HV8 := Lib.hid hv8
              have HA8 := Lib.hid ha8
              have HAl8 := Lib.hid (show (al ++ ps).length ≤ 100 * (k + 1) from by rw [List.length_append]; have := HAl.out; have := HG9.out; omega)
              clear ho8 hb8 hg8 hO8 hv8 ha8 s1 s2 s3 s4 t1 t2 HB7 HO7 HA7 HV7 HG1 HG2 HTs HLt HNa HNv HAl
              go_wp2_with fail
              refine A2.out.mono ?_
              rintro e w9 ⟨xv, rfl, hr, hb⟩
              have HB9 := Lib.hid (HB8.out.trans (hb.mono HB8.out.size))
              have HO9 := Lib.hid (HO8.out.later hb (Nat.le_refl _))
              have HV9 := Lib.hid (HV8.out.later hb (Nat.le_refl _))
              have HA9 := Lib.hid (HA8.out.later hb (Nat.le_refl _))
              have SM := Lib.hid (zset_Same xv (.slice ra rn rc) R R w9 hr HV9.out)
              rw [decide_eq_true rfl] at SM
              clear hb hr A2 HB8 HO8 HV8 HA8
              go_wp2_with fail
              refine SM.out.mono ?_
              rintro e wa ⟨rfl, hb⟩
              have HBa := Lib.hid (HB9.out.trans (hb.mono HB9.out.size))
              have HOa := Lib.hid (HO9.out.later hb (Nat.le_refl _))
              have HVa := Lib.hid (HV9.out.later hb (Nat.le_refl _))
              have HAa := Lib.hid (HA9.out.later hb (Nat.le_refl _))
              have hla := HAa.out.len
              have hsa := HAa.out.small
              obtain ⟨z, hz⟩ : ∃ z, z = a.length := ⟨_, rfl⟩
              rw [← hz] at hla hsa
              clear hb SM HB9 HO9 HV9 HA9 d2 hz
              by_cases hz0 : 0 < z
              · go_wp2_with fail
                refine (A3.out wa HBa.out HVa.out HAa.out).mono ?_
                rintro e wb ⟨yv, m9, rfl, hb⟩
                have HBb := Lib.hid (HBa.out.trans (hb.mono HBa.out.size))
                have HOb := Lib.hid (HOa.out.later hb (Nat.le_refl _))
                have HVb := Lib.hid (HVa.out.later hb (Nat.le_refl _))
                have SM := Lib.hid (zset_Same (.slice aa an ac) (.slice ra rn rc) a R wb (HAa.out.later hb (Nat.le_refl _)) HVb.out)
                clear hb A3 HBa HOa HVa HAa
                by_cases har : a = R
                · rw [decide_eq_true har] at SM
                  rw [if_pos har, show ((0 : Nat) : Int) = 0 from rfl]
                  clear har
                  go_wp2_with fail
                  refine SM.out.mono ?_
                  rintro e wc ⟨rfl, hb⟩
                  have HBc := Lib.hid (HBb.out.trans (hb.mono HBb.out.size))
                  have HOc := Lib.hid (HOb.out.later hb (Nat.le_refl _))
                  have HVc := Lib.hid (HVb.out.later hb (Nat.le_refl _))
                  clear hb SM HBb HOb HVb
                  go_wp2
                  go_roundw
                  case rel => exact ⟨k + 1, q + 1, R, al ++ ps, by omega, by omega, by go_num, by go_num, HF9, HAl8, HBc, HVc, HOc⟩
                  case measure => simp [intOf]; omega
                · rw [decide_eq_false har] at SM
                  rw [if_neg har, show ((15 : Nat) : Int) = 15 from rfl]
                  clear har
                  go_wp2_with fail
                  refine SM.out.mono ?_
                  rintro e wc ⟨rfl, hb⟩
                  have HBc := Lib.hid (HBb.out.trans (hb.mono HBb.out.size))
                  have HOc := Lib.hid (HOb.out.later hb (Nat.le_refl _))
                  have HVc := Lib.hid (HVb.out.later hb (Nat.le_refl _))
                  clear hb SM HBb HOb HVb
                  go_wp2
                  go_roundw
                  case rel => exact ⟨k + 1, q + 1, R, al ++ ps, by omega, by omega, by go_num, by go_num, HF9, HAl8, HBc, HVc, HOc⟩
                  case measure => simp [intOf]; omega
              · clear A3 HAa
                go_wp2
                go_roundw
                case rel => exact ⟨k + 1, q + 1, R, al ++ ps, by omega, by omega, by go_num, by go_num, HF9, HAl8, HBa, HVa, HOa⟩
                case measure => simp [intOf]; omega
            · have q1 : ((E2 : Int) != E2) = false := by simp
              have q2 : ((E2 : Int) == 0) = false := by rw [beq_eq_false_iff_ne]; omega
              have q3 : ((E2 : Int) != 0) = true := by rw [bne_iff_ne]; omega
              have HAl2 := Lib.hid (show al.length ≤ 100 * (k + 1) from by have := HAl.out; omega)
              clear SM HNx HNs HM5 h2 HNa HNv HAl HA6 HV6
              go_wp2
              go_roundw
              case rel => exact ⟨k + 1, q, vl, al, by omega, by omega, by go_num, rfl, HF, HAl2, HB6, HR6, HO6⟩
              case measure => simp [intOf]; omega
          · have q3 : ((E1 : Int) != 0) = true := by rw [bne_iff_ne]; omega
            have HAl2 := Lib.hid (show al.length ≤ 100 * (k + 1) from by have := HAl.out; omega)
            clear h1 HNa HAl HA4 HE1
            go_wp2
            go_roundw
            case rel => exact ⟨k + 1, q, vl, al, by omega, by omega, by go_num, rfl, HF, HAl2, HB4, HR4, HO4⟩
            case measure => simp [intOf]; omega
        · obtain rfl : k = n := by omega
          have hend := HF.out.end
          have hpal := HF.out.1
          have hals : al.length ≤ 1200 := by have := HAl.out; omega
          have HRa := Lib.hid (HO.out.rd (by omega))
          have C9 := Lib.hid (CL.out wr _ al HB.out HRa.out hpal (by omega))
          have hl6 := HRa.out.len
          have hl5 := HRv.out.len
          have hs5 := HRv.out.small
          obtain ⟨E9, hE9⟩ : ∃ E9, E9 = clcE cs al := ⟨_, rfl⟩
          rw [← hE9] at C9 hend
          obtain ⟨O9, hO9⟩ : ∃ O9, O9 = clcO cs al := ⟨_, rfl⟩
          rw [← hO9] at C9 hend
          obtain ⟨m1, hm1⟩ : ∃ m1, m1 = al.length := ⟨_, rfl⟩
          obtain ⟨m2, hm2⟩ : ∃ m2, m2 = vl.length := ⟨_, rfl⟩
          rw [← hm1] at hl6 hals hend
          rw [← hm2] at hl5 hs5 hend
          have HEnd := Lib.hid hend
          clear hend hpal hE9 hO9 hm1 hm2 HF HAl HO HGr HP HV AP SU CL
          go_wp2_with fail
          refine C9.out.mono ?_
          rintro e w9 ⟨xv, rfl, hr, hb⟩
          have HB9 := Lib.hid (HB.out.trans (hb.mono HB.out.size))
          have SM := Lib.hid (zset_Same u5 xv vl O9 w9 (HRv.out.later hb (Nat.le_refl _)) hr.rd)
          clear hb hr C9 HB HRv HRa
          by_cases hm1 : m1 = 0
          · subst hm1
            by_cases hm2 : m2 = 0
            · subst hm2
              go_wp2
              go_ret
              exact ⟨by simp, HB9.out⟩
            · have hx : E9 = 0 ∧ O9 = vl := by
                rcases HEnd.out with ⟨_, h⟩ | h
                · exact absurd h hm2
                · exact h
              obtain ⟨rfl, rfl⟩ := hx
              rw [decide_eq_true rfl] at SM
              have d2 : ((m2 : Int) == 0) = false := by rw [beq_eq_false_iff_ne]; omega
              clear HEnd hm2
              go_wp2_with fail
              refine SM.out.mono ?_
              rintro e wa ⟨rfl, hb⟩
              have HBa := Lib.hid (HB9.out.trans (hb.mono HB9.out.size))
              clear hb SM HB9
              go_wp2
              go_ret
              exact ⟨by simp, HBa.out⟩
          · have hx : E9 = 0 ∧ O9 = vl := by
              rcases HEnd.out with ⟨h, _⟩ | h
              · exact absurd h hm1
              · exact h
            obtain ⟨rfl, rfl⟩ := hx
            rw [decide_eq_true rfl] at SM
            have d2 : ((m1 : Int) == 0) = false := by rw [beq_eq_false_iff_ne]; omega
            clear HEnd hm1
            go_wp2_with fail
            refine SM.out.mono ?_
            rintro e wa ⟨rfl, hb⟩
            have HBa := Lib.hid (HB9.out.trans (hb.mono HB9.out.size))
            clear hb SM HB9
            go_wp2
            go_ret
            exact ⟨by simp, HBa.out⟩

end Go.Proofs.YteiphdcgffapbaaDoor
