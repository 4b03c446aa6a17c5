/-
  zset.Neg, zset.Weight.
-/
import Derived.Test.YtfpidkcdgebnpaaGreatDoorGZProgA
import Derived.Test.YtfpidkcdgebnpaaGreatDoorGZRef
import Derived.Test.YtfpidkcdgebnpaaGreatDoorGBaseB
import Derived.Test.YtfpidkcdgebnpaaGreatDoorGRow
set_option linter.unusedVariables false
set_option linter.unusedSimpArgs false
set_option maxRecDepth 1000000
namespace Go.Proofs.YtfpidkcdgebnpaaGreatDoor
open Go.RowKit Go.Shelf

set_option maxHeartbeats 4000000 in
theorem zset_Neg (v1 v2 : Value) (cs : List ColB) (ps : List PairB) (w : World) (h1 : RdC w v1 cs) (h2 : RdP w v2 ps) (hC : CS cs) (hP : PSO ps) (hT : Tabs w) :
    Calls Tryz.prog 20 #[v1, v2] w fun e w' => ∃ v, e = .returned (.tuple #[v, .int .i64 (negE cs ps : Nat)]) ∧ RdP w' v (negO cs ps) ∧ Below w.heap.size w w' := by
  have CK := Lib.hid (zset_Check v1 v2 cs ps w h1 h2 hC hP hT)
  have hl2 := h2.len
  have hs2 := h2.small
  have H2 := Lib.hid h2
  clear h1 h2
  obtain ⟨c, hc⟩ : ∃ c, c = chkZ cs ps := ⟨_, rfl⟩
  rw [← hc] at CK
  by_cases hcz : c = 0
  · subst hcz
    have HE := Lib.hid (show negE cs ps = if minB ps = true then 12 else 0 from by unfold negE; rw [if_neg (by omega)])
    have HS := Lib.hid ((chkZ_zero hP).1 hc.symm)
    have hlen : ps.length ≤ 1024 := HS.out.2.1
    obtain ⟨n, hn⟩ : ∃ n, n = ps.length := ⟨_, rfl⟩
    rw [← hn] at hl2 hs2 hlen
    have HN := Lib.hid hn
    clear hc hn
    go_enter Tryz.func20, Tryz.ntmps20
    go_wp2_with fail
    refine CK.out.mono ?_
    rintro e w1 ⟨rfl, hb⟩
    have HB1 := Lib.hid hb
    have hsz1 := hb.size
    clear hb CK
    go_wp2
    go_loopw [7, 20] (fun tv i wr => ∃ (k : Nat) (tx : Value), tx = tv ∧ k ≤ n ∧ i = .int .i64 k ∧ Hid (minB (ps.take k) = false) ∧ Hid (OwnP wr w1.heap.size tx (Z.negs (ps.take k))) ∧ Hid (Below w1.heap.size w1 wr)) (fun _ i _ => n - (intOf i).toNat)
    case atStart => exact ⟨0, _, rfl, by omega, rfl, Lib.hid rfl, Lib.hid (OwnP.nil _ _), Lib.hid (Below.refl _ _)⟩
    case round =>
      obtain ⟨k, tx, rfl, hk, rfl, HM, HO, HB⟩ := hrel
      by_cases hlt : k < n
      · have k2 : k < ps.length := by rw [← HN.out]; exact hlt
        obtain ⟨b, o, rv, hi, c0, c1, re, hbl⟩ := ((H2.out.later HB1.out (Nat.le_refl _)).later HB.out (Nat.le_refl _)).get k2
        obtain ⟨hce, hww⟩ := hP.get k2
        obtain ⟨ao, nn, cap, rfl⟩ := re.lit
        have HMS := Lib.hid (minB_snoc ps k k2 HM.out)
        have HNS := Lib.hid (negs_snoc ps k k2)
        have hvl : (ps.getD k default).1.length ≤ 8 := by
          have := HS.out.2.2.all (ps.getD k default) (by simp [List.getD, k2])
          obtain ⟨h1, h2, _⟩ := errRow_len this.1
          have := ((errS_iffR (colsL cs)).1 h1).1.2
          unfold colsL at this; rw [List.length_map] at this; omega
        obtain ⟨p, hp⟩ : ∃ p, p = ps.getD k default := ⟨_, rfl⟩
        rw [← hp] at c1 re hce hww HMS HNS hvl
        clear hp k2
        rcases p with ⟨r, x⟩
        dsimp only at c1 re hce hww hvl
        have NN := Lib.hid (new1 wr (.cells #[.slice ao nn cap, .int .i64 x] 51))
        have HBN := Lib.hid (HB.out.trans (NN.out.2.2.mono HB.out.size))
        by_cases hmin : x = -9223372036854775808
        · have HF := Lib.hid (show minB ps = true from minB_take (k := k + 1) (by rw [HMS.out]; simp [hmin]))
          subst hmin
          have HX := Lib.hid (show negO cs ps = [] from by unfold negO; rw [if_neg (by rw [HE.out, HF.out]; simp)])
          go_wp2_with fail
          refine (weight_Neg (-9223372036854775808) (by exact hww) _).mono ?_
          rintro e w3 ⟨rfl, rfl⟩
          rw [show ngV (-9223372036854775808) = 0 from rfl, show ngE (-9223372036854775808) = 12 from rfl]
          go_wp2
          go_ret2
          exact ⟨_, by rw [HE.out, HF.out]; rfl, by rw [HX.out]; exact RdP.nil _, HB1.out.trans (HBN.out.mono hsz1)⟩
        · have HM2 := Lib.hid (show minB (ps.take (k + 1)) = false from by rw [HMS.out, beq_eq_false_iff_ne]; exact hmin)
          have hszr : w1.heap.size ≤ wr.heap.size := HB.out.size
          have HOa := Lib.hid (HO.out.later NN.out.2.2 (Nat.le_refl _))
          have HCL := Lib.hid (cells_Clone _ r _ (re.later NN.out.2.2 (Nat.le_refl _)) (by omega))
          have hsa := NN.out.1
          obtain ⟨wa, hwa⟩ : ∃ wa, wa = wr.alloc (.cells #[.slice ao nn cap, .int .i64 x] 51) := ⟨_, rfl⟩
          rw [← hwa] at HOa HCL hsa HBN
          go_wp2_with fail
          refine (weight_Neg x hww _).mono ?_
          rintro e w3 ⟨rfl, rfl⟩
          rw [show ngV x = -x from if_neg hmin, show ngE x = 0 from if_neg hmin]
          obtain ⟨y, hy⟩ : ∃ y, y = -x := ⟨_, rfl⟩
          rw [← hy]
          have HY := Lib.hid hy
          clear hy hmin re HO
          go_wp2_with fail
          rw [← hwa]
          clear hwa c0 c1 NN
          refine HCL.out.mono ?_
          rintro e w4 ⟨v4, rfl, ho4, hb4⟩
          obtain ⟨ao4, n4, cap4, rfl⟩ := (ho4.rd (by omega)).lit
          have hsz4 : wa.heap.size ≤ w4.heap.size := hb4.size
          have HO4 := Lib.hid (((HOa.out.later hb4 (Nat.le_refl _))).alloc (.cells #[.slice ao4 n4 cap4, .int .i64 y] 51))
          have HR4 := Lib.hid ((ho4.rd (by omega)).later ((Below.refl w4.heap.size w4).alloc (Nat.le_refl _) (.cells #[.slice ao4 n4 cap4, .int .i64 y] 51)) (Nat.le_refl _))
          have HF4 := Lib.hid (fun g (hg : tx.ownBlock = some g) => ho4.offB (HOa.out.lt hg).2)
          have HB4 := Lib.hid ((HBN.out.trans (hb4.mono (by omega))).alloc (by omega) (.cells #[.slice ao4 n4 cap4, .int .i64 y] 51))
          have HG4 := Lib.hid (heap_alloc_new w4 (.cells #[.slice ao4 n4 cap4, .int .i64 y] 51))
          clear ho4 hb4 HOa HCL HBN
          go_wp2_with (with_reducible refine wplP_append w1.heap.size _ ?hs HO4.out w4.heap.size (.slice ao4 n4 cap4) (r, y) ?hx HG4.out HR4.out HF4.out ?hn ?hbase w1.heap.size w1 HB4.out (Nat.le_refl _) ?_)
          case hs => rfl
          case hx => rfl
          case hn => simp [Z.negs]; omega
          case hbase => simp; omega
          intro v5 w5 ho5 hb5 _ _
          have HO5 := Lib.hid (show OwnP w5 w1.heap.size v5 (Z.negs (ps.take (k + 1))) from by rw [HNS.out, ← HY.out]; exact ho5)
          have HB5 := Lib.hid hb5
          clear ho5 hb5 HO4 HR4 HF4 HB4 HG4
          go_wp2
          go_roundw
          case rel => exact ⟨k + 1, _, rfl, by omega, by go_num, HM2, HO5, HB5⟩
          case measure => simp [intOf]; omega
      · obtain rfl : k = n := by omega
        have htk : ps.take k = ps := List.take_of_length_le (by rw [← HN.out]; exact Nat.le_refl _)
        rw [htk] at HM HO
        have HE2 := Lib.hid (show negE cs ps = 0 from by rw [HE.out, HM.out]; rfl)
        have HX := Lib.hid (show negO cs ps = Z.negs ps from by unfold negO; rw [if_pos HE2.out])
        clear htk
        go_wp2
        go_ret2
        exact ⟨_, by rw [HE2.out]; rfl, by rw [HX.out]; exact HO.out.rd (by have := HN.out; simp [Z.negs]; omega), HB1.out.trans (HB.out.mono hsz1)⟩
  · have HE := Lib.hid (show negE cs ps = c from by unfold negE; rw [if_pos (by omega), hc])
    have HX := Lib.hid (show negO cs ps = [] from by unfold negO; rw [if_neg (by rw [HE.out]; exact hcz)])
    have q : ((c : Int) != 0) = true := by rw [bne_iff_ne]; omega
    clear hc
    go_enter Tryz.func20, Tryz.ntmps20
    go_wp2_with fail
    refine CK.out.mono ?_
    rintro e w1 ⟨rfl, hb⟩
    have HB1 := Lib.hid hb
    clear hb CK
    go_wp2
    go_ret2
    exact ⟨_, by rw [HE.out]; rfl, by rw [HX.out]; exact RdP.nil _, HB1.out⟩

end Go.Proofs.YtfpidkcdgebnpaaGreatDoor


/-
  zset.Same, zset.Weight.
-/
namespace Go.Proofs.YtfpidkcdgebnpaaGreatDoor
open Go.RowKit Go.Shelf

set_option maxHeartbeats 4000000 in
theorem zset_Weight (v1 v2 v3 : Value) (cs : List ColB) (ps : List PairB) (r : List CellB) (w : World) (h1 : RdC w v1 cs) (h2 : RdP w v2 ps) (h3 : RdE w v3 r) (hC : CS cs) (hP : PSO ps) (hR : CES r) (hT : Tabs w) :
    Calls Tryz.prog 22 #[v1, v2, v3] w fun e w' => e = .returned (.int .i64 (wgt cs ps r)) ∧ Below w.heap.size w w' := by
  have CK := Lib.hid (zset_Check v1 v2 cs ps w h1 h2 hC hP hT)
  have hl2 := h2.len
  have hs2 := h2.small
  have H2 := Lib.hid h2
  have H3 := Lib.hid h3
  clear h1 h2 h3
  obtain ⟨c, hc⟩ : ∃ c, c = chkZ cs ps := ⟨_, rfl⟩
  rw [← hc] at CK
  by_cases hcz : c = 0
  · have HS := Lib.hid ((chkZ_zero hP).1 (show chkZ cs ps = 0 by omega)).2.2
    have HE := Lib.hid (show wgt cs ps r = Z.sumW ps r from by
      unfold wgt
      by_cases hd : errRow cs r = 0
      · rw [if_neg (by omega)]
      · rw [if_pos (.inr hd), Z.sumW_no fun p hp e => hd (by rw [← e]; exact (HS.out.all p hp).1)])
    subst hcz
    obtain ⟨n, hn⟩ : ∃ n, n = ps.length := ⟨_, rfl⟩
    rw [← hn] at hl2 hs2
    have HN := Lib.hid hn
    clear hc hn
    go_enter Tryz.func22, Tryz.ntmps22
    go_wp2_with fail
    refine CK.out.mono ?_
    rintro e w1 ⟨rfl, hb⟩
    have HB1 := Lib.hid hb
    clear hb CK
    go_wp2
    go_loopw [15] (fun i wr => ∃ k : Nat, k ≤ n ∧ i = .int .i64 k ∧ Hid (∀ p ∈ ps.take k, p.1 ≠ r) ∧ Hid (Below w.heap.size w wr)) (fun i _ => n - (intOf i).toNat)
    case atStart => exact ⟨0, by omega, rfl, Lib.hid (by simp), HB1⟩
    case round =>
      clear HB1
      obtain ⟨k, hk, rfl, HT, HB⟩ := hrel
      by_cases hlt : k < n
      · have k2 : k < ps.length := by rw [← HN.out]; exact hlt
        obtain ⟨b, o, rv, hi, c0, c1, re, hbl⟩ := H2.out.get k2
        obtain ⟨ao, nn, cap, rfl⟩ := re.lit
        have HK := Lib.hid k2
        have HG := Lib.hid (show ps.getD k default ∈ ps from by simp [List.getD, k2])
        obtain ⟨p, hp⟩ : ∃ p, p = ps.getD k default := ⟨_, rfl⟩
        rw [← hp] at c1 re HG
        have HP' := Lib.hid hp
        rcases p with ⟨r1, y⟩
        dsimp only at c1 re
        have hc0 := (HB.out.cell (p := ⟨b, o, none⟩) hbl).trans c0
        have hc1 := (HB.out.cell (p := ⟨b, o + 1, none⟩) hbl).trans c1
        have NN := Lib.hid (new1 wr (.cells #[.slice ao nn cap, .int .i64 y] 51))
        have HBN := Lib.hid (HB.out.trans (NN.out.2.2.mono HB.out.size))
        have SS := Lib.hid (row_Same _ v3 r1 r _ (re.later HBN.out (Nat.le_refl _)) (H3.out.later HBN.out (Nat.le_refl _)))
        clear hp k2 re c0 c1
        by_cases hpr : r1 = r
        · have hdd : decide (r1 = r) = true := decide_eq_true hpr
          rw [hdd] at SS
          have HF := Lib.hid (show wgt cs ps r = y from by rw [HE.out, ← hpr]; exact Z.sumW_mem (to_row cs) HS.out.srt HS.out.all _ HG.out)
          clear hdd hpr
          go_wp2_with fail
          refine SS.out.mono ?_
          rintro e w3 ⟨rfl, hb⟩
          have HB4 := Lib.hid (HBN.out.trans (hb.mono HBN.out.size))
          have hnb := (hb.block _ (by rw [NN.out.1]; omega)).trans NN.out.2.1
          have d0 := cell_of_row _ _ 0 _ _ _ hnb
          have d1 := cell_of_row _ _ 1 _ _ _ hnb
          simp at d0 d1
          clear hb SS hc0 hc1 hnb NN HBN
          go_wp2
          go_ret
          exact ⟨by rw [HF.out]; rfl, HB4.out⟩
        · have hdd : decide (r1 = r) = false := decide_eq_false hpr
          rw [hdd] at SS
          have HT2 := Lib.hid (show ∀ q ∈ ps.take (k + 1), q.1 ≠ r from by
            intro q hq
            have e : ps.take (k + 1) = ps.take k ++ [ps.getD k default] := by
              rw [List.take_add_one]; simp [List.getD, HK.out]
            rw [e, ← HP'.out] at hq
            rcases List.mem_append.1 hq with hq | hq
            · exact HT.out q hq
            · rw [List.mem_singleton.1 hq]; exact hpr)
          clear hdd hpr
          go_wp2_with fail
          refine SS.out.mono ?_
          rintro e w3 ⟨rfl, hb⟩
          have HB4 := Lib.hid (HBN.out.trans (hb.mono HBN.out.size))
          clear hb SS hc0 hc1 NN HBN
          go_wp2
          go_roundw
          case rel => exact ⟨k + 1, by omega, by go_num, HT2, HB4⟩
          case measure => simp [intOf]; omega
      · obtain rfl : k = n := by omega
        have HF := Lib.hid (show wgt cs ps r = 0 from by
          rw [HE.out]
          refine Z.sumW_no fun p hp => HT.out p ?_
          rwa [List.take_of_length_le (by rw [← HN.out]; exact Nat.le_refl _)])
        go_wp2
        go_ret
        exact ⟨by rw [HF.out]; rfl, HB.out⟩
  · have HE := Lib.hid (show wgt cs ps r = 0 from by unfold wgt; rw [if_pos (by omega)])
    have q : ((c : Int) != 0) = true := by rw [bne_iff_ne]; omega
    clear hc
    go_enter Tryz.func22, Tryz.ntmps22
    go_wp2_with fail
    refine CK.out.mono ?_
    rintro e w1 ⟨rfl, hb⟩
    have HB1 := Lib.hid hb
    clear hb CK
    go_wp2
    go_ret
    exact ⟨by rw [HE.out]; rfl, HB1.out⟩

set_option maxHeartbeats 2000000 in
/-- What is asked of two pairs. -/
theorem same_pair (r1 r2 : Value) (a b : List CellB) (x y : Int) (W : World) (h2 : RdE W r1 a) (h3 : RdE W r2 b) :
    Calls Tryz.prog 52 #[.agg #[r1, .int .i64 x], .agg #[r2, .int .i64 y]] W fun e w' => e = .returned (.bool (decide ((a, x) = (b, y)))) ∧ Below W.heap.size W w' := by
  obtain ⟨ao, n, cap, rfl⟩ := h2.lit
  obtain ⟨ao', n', cap', rfl⟩ := h3.lit
  obtain ⟨N0, N1, N2, N3⟩ := new2 W (.cells #[.slice ao n cap, .int .i64 x] 51) (.cells #[.slice ao' n' cap', .int .i64 y] 51)
  have CK := Lib.hid (row_Same _ _ a b _ (h2.later N3 (Nat.le_refl _)) (h3.later N3 (Nat.le_refl _)))
  have NB := Lib.hid N3
  clear N0 N1 N2 N3 h2 h3
  by_cases hxy : x = y
  · subst hxy
    have hd : decide ((a, x) = (b, x)) = decide (a = b) := by
      by_cases e : a = b
      · subst e; simp
      · rw [decide_eq_false e, decide_eq_false (fun h => e (Prod.mk.inj h).1)]
    rw [hd]
    obtain ⟨c, hcc⟩ : ∃ c, c = decide (a = b) := ⟨_, rfl⟩
    rw [← hcc] at CK ⊢
    have hq : (x == x) = true := by simp
    clear hcc hd
    go_enter Tryz.func52, Tryz.ntmps52
    go_wp2_with fail
    refine CK.out.mono ?_
    rintro e w1 ⟨rfl, hb⟩
    have HB := Lib.hid (NB.out.trans (hb.mono NB.out.size))
    clear hb CK
    go_wp2
    go_ret
    exact ⟨rfl, HB.out⟩
  · have hq : (x == y) = false := by rw [beq_eq_false_iff_ne]; exact hxy
    rw [decide_eq_false (fun h : (a, x) = (b, y) => hxy (Prod.mk.inj h).2)]
    clear CK hxy
    go_enter Tryz.func52, Tryz.ntmps52
    go_wp2
    go_ret
    exact ⟨rfl, NB.out⟩

set_option maxHeartbeats 4000000 in
theorem pairs_EqualFunc (v1 v2 : Value) (ps qs : List PairB) (w : World) (h1 : RdP w v1 ps) (h2 : RdP w v2 qs) :
    Calls Tryz.prog 51 #[v1, v2, .func (.func 52) #[] #[]] w fun e w' => e = .returned (.bool (decide (ps = qs))) ∧ Below w.heap.size w w' := by
  have hl1 := h1.len
  have hl2 := h2.len
  have hs1 := h1.small
  have hs2 := h2.small
  have H1 := Lib.hid h1
  have H2 := Lib.hid h2
  clear h1 h2
  by_cases hln : ps.length = qs.length
  · obtain ⟨n, hn⟩ : ∃ n, n = ps.length := ⟨_, rfl⟩
    rw [← hln] at hl2 hs2
    rw [← hn] at hl1 hl2 hs1 hs2
    have HN := Lib.hid hn
    have HL := Lib.hid hln
    clear hln hn
    go_enter Tryz.func51, Tryz.ntmps51
    go_wp2
    go_loopw [17] (fun i wr => ∃ k : Nat, k ≤ n ∧ i = .int .i64 k ∧ Hid (ps.take k = qs.take k) ∧ Hid (Below w.heap.size w wr)) (fun i _ => n - (intOf i).toNat)
    case atStart => exact ⟨0, by omega, rfl, Lib.hid (by simp), Lib.hid (Below.refl _ _)⟩
    case round =>
      obtain ⟨k, hk, rfl, HE, HB⟩ := hrel
      by_cases hlt : k < n
      · have k1 : k < ps.length := by rw [← HN.out]; exact hlt
        have k2 : k < qs.length := by rw [← HL.out]; exact k1
        obtain ⟨b, o, rv, hi, c0, c1, re, hbl⟩ := H1.out.get k1
        obtain ⟨b', o', rv', hi', c0', c1', re', hbl'⟩ := H2.out.get k2
        obtain ⟨ao, nn, cap, rfl⟩ := re.lit
        obtain ⟨ao', nn', cap', rfl⟩ := re'.lit
        have HT := Lib.hid (show ps.take (k + 1) = ps.take k ++ [ps.getD k default] from by rw [List.take_add_one]; simp [List.getD, k1])
        have HT' := Lib.hid (show qs.take (k + 1) = qs.take k ++ [qs.getD k default] from by rw [List.take_add_one]; simp [List.getD, k2])
        have HNE := Lib.hid (fun e : ps = qs => show ps.getD k default = qs.getD k default by rw [e])
        obtain ⟨p, hp⟩ : ∃ p, p = ps.getD k default := ⟨_, rfl⟩
        obtain ⟨p', hp'⟩ : ∃ p', p' = qs.getD k default := ⟨_, rfl⟩
        rw [← hp] at c1 re HT HNE
        rw [← hp'] at c1' re' HT' HNE
        rcases p with ⟨r1, x⟩
        rcases p' with ⟨r2, y⟩
        dsimp only at c1 re c1' re'
        have hc0 := (HB.out.cell (p := ⟨b, o, none⟩) hbl).trans c0
        have hc1 := (HB.out.cell (p := ⟨b, o + 1, none⟩) hbl).trans c1
        have hc0' := (HB.out.cell (p := ⟨b', o', none⟩) hbl').trans c0'
        have hc1' := (HB.out.cell (p := ⟨b', o' + 1, none⟩) hbl').trans c1'
        have hbw : b' < wr.heap.size := Nat.lt_of_lt_of_le hbl' HB.out.size
        have NN := Lib.hid (new2 wr (.cells #[.slice ao nn cap, .int .i64 x] 51) (.cells #[.slice ao' nn' cap', .int .i64 y] 51))
        have HBN := Lib.hid (HB.out.trans (NN.out.2.2.2.mono HB.out.size))
        have SS := Lib.hid (same_pair _ _ r1 r2 x y _ (re.later HBN.out (Nat.le_refl _)) (re'.later HBN.out (Nat.le_refl _)))
        clear hp hp' k1 k2 re re' c0 c1 c0' c1'
        by_cases hpq : (r1, x) = (r2, y)
        · have hdd : decide ((r1, x) = (r2, y)) = true := decide_eq_true hpq
          rw [hdd] at SS
          have HE2 := Lib.hid (show ps.take (k + 1) = qs.take (k + 1) from by rw [HT.out, HT'.out, HE.out, hpq])
          clear hdd hpq HNE
          go_wp2_with fail
          refine SS.out.mono ?_
          rintro e w3 ⟨rfl, hb⟩
          have HB4 := Lib.hid (HBN.out.trans (hb.mono HBN.out.size))
          clear hb SS hc0 hc1 hc0' hc1' NN HBN
          go_wp2
          go_roundw
          case rel => exact ⟨k + 1, by omega, by go_num, HE2, HB4⟩
          case measure => simp [intOf]; omega
        · have hdd : decide ((r1, x) = (r2, y)) = false := decide_eq_false hpq
          rw [hdd] at SS
          have HF := Lib.hid (show decide (ps = qs) = false from decide_eq_false (fun e => hpq (HNE.out e)))
          clear hdd hpq HNE
          go_wp2_with fail
          refine SS.out.mono ?_
          rintro e w3 ⟨rfl, hb⟩
          have HB4 := Lib.hid (HBN.out.trans (hb.mono HBN.out.size))
          clear hb SS hc0 hc1 hc0' hc1' NN HBN
          go_wp2
          go_ret
          exact ⟨by rw [HF.out]; rfl, HB4.out⟩
      · obtain rfl : k = n := by omega
        have HF := Lib.hid (show decide (ps = qs) = true from decide_eq_true (by
          have h := HE.out
          rwa [List.take_of_length_le (by rw [← HN.out]; exact Nat.le_refl _), List.take_of_length_le (by rw [← HL.out, ← HN.out]; exact Nat.le_refl _)] at h))
        go_wp2
        go_ret
        exact ⟨by rw [HF.out]; rfl, HB.out⟩
  · have HF := Lib.hid (show decide (ps = qs) = false from decide_eq_false (fun e => hln (by rw [e])))
    obtain ⟨n, hn⟩ : ∃ n, n = ps.length := ⟨_, rfl⟩
    obtain ⟨m, hm⟩ : ∃ m, m = qs.length := ⟨_, rfl⟩
    rw [← hn] at hl1 hs1 hln
    rw [← hm] at hl2 hs2 hln
    have hne : ((n : Int) != (m : Int)) = true := by rw [bne_iff_ne]; omega
    clear hn hm H1 H2
    go_enter Tryz.func51, Tryz.ntmps51
    go_wp2
    go_ret
    exact ⟨by rw [HF.out]; rfl, Below.refl _ _⟩

theorem zset_Same (v1 v2 : Value) (ps qs : List PairB) (w : World) (h1 : RdP w v1 ps) (h2 : RdP w v2 qs) :
    Calls Tryz.prog 24 #[v1, v2] w fun e w' => e = .returned (.bool (decide (ps = qs))) ∧ Below w.heap.size w w' := by
  have CK := Lib.hid (pairs_EqualFunc v1 v2 ps qs w h1 h2)
  obtain ⟨c, hc⟩ : ∃ c, c = decide (ps = qs) := ⟨_, rfl⟩
  rw [← hc] at CK ⊢
  clear hc h1 h2
  go_enter Tryz.func24, Tryz.ntmps24
  go_wp2_with fail
  refine CK.out.mono ?_
  rintro e w1 ⟨rfl, hb⟩
  have HB := Lib.hid hb
  clear hb CK
  go_wp2
  go_ret
  exact ⟨rfl, HB.out⟩

end Go.Proofs.YtfpidkcdgebnpaaGreatDoor

