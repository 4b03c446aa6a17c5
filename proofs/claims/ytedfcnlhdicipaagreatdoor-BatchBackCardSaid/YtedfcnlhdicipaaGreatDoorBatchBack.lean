/-
  BatchBack: the law's own walk.
-/
import Derived.Test.YtedfcnlhdicipaaGreatDoorBatBackB
set_option linter.unusedVariables false
set_option linter.unusedSimpArgs false
set_option maxRecDepth 1000000
namespace Go.Proofs.YtedfcnlhdicipaaGreatDoor
open Go.RowKit Go.Shelf

set_option maxHeartbeats 16000000 in
theorem batchBack_walk (v1 : Value) (cs : List ColB) (x0 : Value) (a : List PairB) (w : World) (hR : RdC w v1 cs) (hC : CS cs) (hA : RdP w x0 a ∧ PSO a ∧ a.length * 32 ≤ 140737488351232) (hT : Tabs w) :
    Calls Tryz.prog 5 #[v1, x0] w fun e w' => e = .returned (.bool true) ∧ Below w.heap.size w w' := by
  have K := Lib.hid (batK v1 cs w hR hC hT)
  have hl1 := hR.len
  have hsm1 := hR.small
  have hla := hA.1.len
  have hsma := hA.1.small
  have RA := Lib.hid (fun wz (hz : Below w.heap.size w wz) => hA.1.later hz (Nat.le_refl _))
  have PA := Lib.hid hA.2.1
  have CL := Lib.hid (fun wz (hz : Below w.heap.size w wz) => zset_Collect v1 x0 cs a wz (hR.later hz (Nat.le_refl _)) (hA.1.later hz (Nat.le_refl _)) hC hA.2.1 (hT.later hz) (by have := hA.2.2; omega))
  obtain ⟨ao0, no0, co0, rfl⟩ := hA.1.litN
  obtain ⟨n, hn⟩ : ∃ n, n = cs.length := ⟨_, rfl⟩
  obtain ⟨m, hm⟩ : ∃ m, m = a.length := ⟨_, rfl⟩
  rw [← hn] at hl1 hsm1
  rw [← hm] at hla hsma
  have HNn := Lib.hid hn
  have GR := Lib.hid (fun wz (hz : Below w.heap.size w wz) => great_one10 (.slice ao0 no0 co0) a wz (RA.out wz hz))
  obtain ⟨x, hx⟩ : ∃ x, x = clcE cs a := ⟨_, rfl⟩
  have hset := fun h => clc_set (cs := cs) PA.out h
  have hcl := clc_len cs a
  rw [← hm] at hcl
  have HCl := Lib.hid hcl
  rw [← hx] at CL hset
  have HSet := Lib.hid hset
  clear hR hA hn hm hx hT hset hcl
  have HB := Lib.hid (Below.refl w.heap.size w)
  go_enter Tryz.func5, Tryz.ntmps5
  go_wp2_with fail
  refine (K.out.alive w HB.out).mono ?_
  rintro e w1 ⟨rfl, hb⟩
  replace HB := Lib.hid (HB.out.trans (hb.mono HB.out.size))
  clear hb
  go_wp2_with fail
  refine (GR.out w1 HB.out).mono ?_
  rintro e w2 ⟨g, rfl, hg, hb⟩
  replace HB := Lib.hid (HB.out.trans (hb.mono HB.out.size))
  clear hb GR
  have hcase : (g = 0 ∧ n ≤ 30 ∧ m ≤ 100) ∨ (g = 1 ∨ (g = 0 ∧ 30 < n) ∨ (g = 0 ∧ n ≤ 30 ∧ 100 < m)) := by omega
  rcases hcase with ⟨rfl, hn, hm⟩ | hcase
  · have d1 : decide ((30 : Int) < (n : Int)) = false := decide_eq_false (by omega)
    have d2 : decide ((100 : Int) < (m : Int)) = false := decide_eq_false (by omega)
    have hcl : (clcO cs a).length ≤ 100 := by have := HCl.out; omega
    clear hg hm HCl
    by_cases hx0 : x = 0
    · subst hx0
      obtain ⟨hP, h0⟩ := HSet.out rfl
      obtain ⟨ps, hps⟩ : ∃ ps, ps = clcO cs a := ⟨_, rfl⟩
      rw [← hps] at CL hP h0 hcl
      obtain ⟨hS, hfew, hset⟩ := (chkZ_zero hP).1 h0
      have hwl := wr_le hP h0
      have hws := wr_small hP h0
      have hwp := wr_pos cs ps
      obtain ⟨L, hL⟩ : ∃ L, L = btWr (kindsL cs) (psL ps) := ⟨_, rfl⟩
      rw [← hL] at hwl hws hwp
      have KB := Lib.hid (fun wz u hb hu => read_back K.out hP h0 hL wz u hb hu)
      have KG := Lib.hid (fun wz u hb hu => read_long K.out hP h0 hL 0 wz u hb hu)
      have KL := Lib.hid (fun n (hn : n < L.length) wz u hb hu => read_less K.out hP h0 hL hn wz u hb hu)
      have KW := Lib.hid (fun wz v (hz : Below w.heap.size w wz) (hr : RdP wz v ps) => show Calls Tryz.prog 10 #[v1, v] wz fun e w' => ∃ b, e = .returned (.tuple #[b, .int .i64 0]) ∧ Rd w' b L ∧ Below wz.heap.size wz w' from by
        refine (K.out.write wz v ps hz hr hP).mono ?_
        rintro e w' ⟨b, rfl, hO, hb⟩
        rw [h0, if_pos rfl, ← hL] at hO
        rw [h0]
        exact ⟨b, rfl, hO.rd (by omega), hb⟩)
      obtain ⟨M, hM⟩ : ∃ M, M = L.length := ⟨_, rfl⟩
      rw [← hM] at hwl hws hwp KB KG KL
      have HMl := Lib.hid hM
      obtain ⟨z, hz⟩ : ∃ z, z = ps.length := ⟨_, rfl⟩
      rw [← hz, ← HNn.out] at hwl
      rw [← hz] at hcl
      have HZ := Lib.hid hz
      have HV := Lib.hid (fun p (hp : p ∈ ps) => hset.all p hp)
      have HPs := Lib.hid hP
      obtain ⟨T, hTt⟩ : ∃ T, T = btText (rowsL ps) := ⟨_, rfl⟩
      have htl := text_small (cs := cs) (ps := ps) (fun p hp => hset.all p hp)
      rw [← hTt] at hwl htl
      rw [← hz] at htl
      have HTt := Lib.hid hTt
      clear hps hP h0 hS hset hL hM hz hTt HSet hfew
      go_wp2_with fail
      refine (CL.out w2 HB.out).mono ?_
      rintro e w3 ⟨av, rfl, hr, hb⟩
      have hrl := hr.len
      rw [← HZ.out] at hrl
      have RV := Lib.hid hr
      replace HB := Lib.hid (HB.out.trans (hb.mono HB.out.size))
      clear hb hr CL
      go_wp2_with fail
      refine (KW.out w3 av HB.out RV.out).mono ?_
      rintro e w4 ⟨bv, rfl, hRb, hb⟩
      have hlb := hRb.len
      rw [← HMl.out] at hlb
      have HRb := Lib.hid hRb
      replace RV := Lib.hid (RV.out.later hb (Nat.le_refl _))
      replace HB := Lib.hid (HB.out.trans (hb.mono HB.out.size))
      clear hb hRb KW
      go_wp2_with fail
      refine (KB.out w4 bv HB.out HRb.out).mono ?_
      rintro e w5 ⟨tv, rfl, hO, hb⟩
      have HTv := Lib.hid hO
      replace HRb := Lib.hid (HRb.out.later hb (Nat.le_refl _))
      replace RV := Lib.hid (RV.out.later hb (Nat.le_refl _))
      replace HB := Lib.hid (HB.out.trans (hb.mono HB.out.size))
      clear hb hO KB
      go_wp2
      go_loopw [12, 63] (fun a i wr => ∃ k q : Nat, k ≤ z ∧ i = .int .i64 k ∧ a = .int .i64 (q : Int) ∧ Hid (q = btText (rowsL (ps.take k))) ∧ Hid (q ≤ 2048 * k) ∧ Hid (Below w.heap.size w wr) ∧ Hid (Rd wr bv L) ∧ Hid (RdP wr av ps) ∧ Hid (RdP wr tv ps)) (fun _ i _ => z - (intOf i).toNat)
      case atStart => exact ⟨0, 0, by omega, rfl, rfl, Lib.hid (by simp [rowsL, btText]), Lib.hid (by omega), HB, HRb, RV, HTv⟩
      case round =>
        clear HB HRb RV HTv
        obtain ⟨k, q, hk, rfl, rfl, HQ, HQl, HB, HRb, RV, HTv⟩ := hrel
        by_cases hlt : k < z
        · have d3 : decide ((k : Int) < (z : Int)) = true := decide_eq_true (by omega)
          have k2 : k < ps.length := by rw [← HZ.out]; exact hlt
          obtain ⟨b, o, rv, hi, c0, c1, hre, _⟩ := RV.out.get k2
          obtain ⟨ao, nn, cap, rfl⟩ := hre.lit
          have hmem : ps.getD k default ∈ ps := by
            have e : ps.getD k default = ps[k] := by simp [List.getD, k2]
            rw [e]; exact List.getElem_mem _
          obtain ⟨s1, s2⟩ := size_text (HV.out _ hmem).1
          have hnx := text_next k2
          rw [← HQ.out] at hnx
          obtain ⟨y, hy⟩ : ∃ y, y = (ps.getD k default).2 := ⟨_, rfl⟩
          rw [← hy] at c1
          obtain ⟨r, hr⟩ : ∃ r, r = (ps.getD k default).1 := ⟨_, rfl⟩
          rw [← hr] at hre s1 s2 hnx
          obtain ⟨t, ht⟩ : ∃ t, t = sumT (cesL r) := ⟨_, rfl⟩
          rw [← ht] at s1 s2 hnx
          have HQ2 := Lib.hid (show q + t = btText (rowsL (ps.take (k + 1))) from hnx.symm)
          have hqb : q + t ≤ 2048 * (k + 1) := by have := HQl.out; omega
          have HQ3 := Lib.hid hqb
          have HVq := Lib.hid (show Value.int .i64 ((q : Int) + (t : Int)) = .int .i64 ((q + t : Nat) : Int) by push_cast; rfl)
          have hqs : q + t ≤ 2048 * 100 := by omega
          obtain ⟨N1, N2⟩ := new_one10 wr (.cells #[.slice ao nn cap, .int .i64 y] 45)
          have SZ := Lib.hid (row_Size (.slice ao nn cap) r _ (hre.later N2 (Nat.le_refl _)))
          rw [s1] at SZ
          have HB1 := Lib.hid (HB.out.trans (N2.mono HB.out.size))
          have HRb1 := Lib.hid (HRb.out.later N2 (Nat.le_refl _))
          have RV1 := Lib.hid (RV.out.later N2 (Nat.le_refl _))
          have HTv1 := Lib.hid (HTv.out.later N2 (Nat.le_refl _))
          clear k2 hre hmem hy hr ht hnx s1 N1 N2 HB HRb RV HTv hqb
          go_wp2_with fail
          refine SZ.out.mono ?_
          rintro e w6 ⟨rfl, hb⟩
          have HB2 := Lib.hid (HB1.out.trans (hb.mono HB1.out.size))
          have HRb2 := Lib.hid (HRb1.out.later hb (Nat.le_refl _))
          have RV2 := Lib.hid (RV1.out.later hb (Nat.le_refl _))
          have HTv2 := Lib.hid (HTv1.out.later hb (Nat.le_refl _))
          clear hb SZ HB1 HRb1 RV1 HTv1 c0 c1 hi
          go_wp2
          go_roundw
          case rel => exact ⟨k + 1, q + t, by omega, by go_num, HVq.out, HQ2, HQ3, HB2, HRb2, RV2, HTv2⟩
          case measure => simp [intOf]; omega
        · obtain rfl : k = z := by omega
          have d3 : decide ((k : Int) < (k : Int)) = false := decide_eq_false (by omega)
          have hqs : q ≤ 204800 := by have := HQl.out; omega
          have hqT : q = T := by rw [HQ.out, HTt.out, List.take_of_length_le (by rw [← HZ.out]; exact Nat.le_refl _)]
          subst hqT
          have hne : ((M : Int) != (M : Int)) = false := by simp
          have SM6 := Lib.hid (zset_Same av tv ps ps wr RV.out HTv.out)
          rw [decide_eq_true rfl] at SM6
          clear hlt
          go_wp2_with fail
          refine SM6.out.mono ?_
          rintro e w6 ⟨rfl, hb⟩
          replace HRb := Lib.hid (HRb.out.later hb (Nat.le_refl _))
          replace HB := Lib.hid (HB.out.trans (hb.mono HB.out.size))
          clear hb SM6 RV HTv
          go_wp2_with fail
          refine (batch_Bound (k : Int) (n : Int) (q : Int) w6 ⟨by omega, by omega⟩ ⟨by omega, by omega⟩ ⟨by omega, by omega⟩).mono ?_
          rintro e w7 ⟨rfl, rfl⟩
          rw [bound10_ok (r := (k : Int)) (c := (n : Int)) (b := (q : Int)) (by unfold bad10; omega) (by unfold bad10; omega) (by unfold bad10; omega)]
          obtain ⟨BD, hBD⟩ : ∃ BD : Nat, BD = 12 + 10 * k * (n + 1) + q := ⟨_, rfl⟩
          rw [show (12 : Int) + 10 * (k : Int) * ((n : Int) + 1) + (q : Int) = (BD : Int) from by rw [hBD]; push_cast; rfl]
          rw [← hBD] at hwl
          have d5 : decide ((M : Int) > (BD : Int)) = false := decide_eq_false (by omega)
          have d6 : decide (BD < M) = false := decide_eq_false (by omega)
          have d7 : ((M : Int) == 0) = false := by rw [beq_eq_false_iff_ne]; omega
          obtain ⟨cv, hcut, hcv⟩ := HRb.out.upto (M - 1) (by rw [← HMl.out]; omega)
          rw [show ((M - 1 : Nat) : Int) = (M : Int) - 1 from by omega] at hcut
          have HCv := Lib.hid (hcv w6 HRb.out)
          clear hBD hcv
          go_wp2_with fail
          refine (KL.out (M - 1) (by omega) w6 cv HB.out HCv.out).mono ?_
          rintro e w8 ⟨tv2, kk, rfl, hb⟩
          have HB9 := Lib.hid (HB.out.trans (hb.mono HB.out.size))
          have HRb9 := Lib.hid (HRb.out.later hb (Nat.le_refl _))
          clear hb HB HRb hcut HCv
          have HA := Lib.hid (show Below w.heap.size w (w8.alloc (.cells #[] 5)) from HB9.out.alloc HB9.out.size _)
          have HO0 := Lib.hid (own_empty w8 w8.heap.size (Nat.le_refl _))
          have HLA := Lib.hid (HRb9.out.alloc (.cells #[] 5))
          have hws0 : w.heap.size ≤ w8.heap.size := HB9.out.size
          have hws1 : w8.heap.size ≤ (w8.alloc (.cells #[] 5)).heap.size := by simp
          have hz1 : ([] : List UInt8).length + L.length ≤ 140737488355328 := by rw [← HMl.out]; simp; omega
          have hz2 : L.length + [(0 : UInt8)].length ≤ 140737488355328 := by rw [← HMl.out]; simp; omega
          have HZ3 := Lib.hid (show (L ++ [(0 : UInt8)]).length ≤ 140737488351232 by rw [List.length_append, ← HMl.out]; simp; omega)
          go_wp2_with (with_reducible refine wpl_append w8.heap.size _ [] ?hs1 HO0.out bv L ?hx1 HLA.out hz1 hws1 w.heap.size w HA.out hws0 ?_)
          all_goals (try rfl)
          intro va wa hOa hBa hga
          rw [List.nil_append] at hOa
          have HBa := Lib.hid hBa
          have HO7 := Lib.hid (hOa.alloc (.cells #[.int .u8 0] 5))
          have HB7 := Lib.hid (hBa.alloc hBa.size (.cells #[.int .u8 0] 5))
          have HR7 := Lib.hid (rd_one wa 0 (by decide) (by decide))
          have hs6 : w8.heap.size ≤ wa.heap.size := by have := hga.size; simp at this; omega
          clear hOa hBa hga hws1
          have hs7 : w8.heap.size ≤ (wa.alloc (.cells #[.int .u8 0] 5)).heap.size := by simp; omega
          go_wp2_with (with_reducible refine wpl_append w8.heap.size _ L ?hs2 HO7.out _ [(0 : UInt8)] ?hx2 HR7.out hz2 hs7 w.heap.size w HB7.out hws0 ?_)
          all_goals (try rfl)
          intro vb wb hOb hBb hgb
          have HBb := Lib.hid hBb
          have HRb := Lib.hid (hOb.rd HZ3.out)
          clear hOb hBb hgb
          go_wp2_with fail
          refine (KG.out wb vb HBb.out HRb.out).mono ?_
          rintro e wc ⟨tv4, rfl, hb⟩
          have HBc := Lib.hid (HBb.out.trans (hb.mono HBb.out.size))
          clear hb
          go_wp2
          go_ret
          exact ⟨by simp, HBc.out⟩
    · have hq : ((x : Int) != 0) = true := by rw [bne_iff_ne]; omega
      clear HSet hx0
      go_wp2_with fail
      refine (CL.out w2 HB.out).mono ?_
      rintro e w3 ⟨av, rfl, hr, hb⟩
      replace HB := Lib.hid (HB.out.trans (hb.mono HB.out.size))
      clear hb hr CL
      go_wp2
      go_ret
      exact ⟨rfl, HB.out⟩
  · rcases hcase with rfl | ⟨rfl, h⟩ | ⟨rfl, h, h'⟩
    · clear hg
      go_wp2_with fail
      refine (K.out.alive w2 HB.out).mono ?_
      rintro e w3 ⟨rfl, hb⟩
      replace HB := Lib.hid (HB.out.trans (hb.mono HB.out.size))
      clear hb
      go_wp2
      go_ret
      exact ⟨rfl, HB.out⟩
    · have d1 : decide ((30 : Int) < (n : Int)) = true := decide_eq_true (by omega)
      clear hg h
      go_wp2_with fail
      refine (K.out.alive w2 HB.out).mono ?_
      rintro e w3 ⟨rfl, hb⟩
      replace HB := Lib.hid (HB.out.trans (hb.mono HB.out.size))
      clear hb
      go_wp2
      go_ret
      exact ⟨rfl, HB.out⟩
    · have d1 : decide ((30 : Int) < (n : Int)) = false := decide_eq_false (by omega)
      have d2 : decide ((100 : Int) < (m : Int)) = true := decide_eq_true (by omega)
      clear hg h h'
      go_wp2_with fail
      refine (K.out.alive w2 HB.out).mono ?_
      rintro e w3 ⟨rfl, hb⟩
      replace HB := Lib.hid (HB.out.trans (hb.mono HB.out.size))
      clear hb
      go_wp2
      go_ret
      exact ⟨rfl, HB.out⟩

end Go.Proofs.YtedfcnlhdicipaaGreatDoor
