/-
  ZsetOver: weights that go over, and come back, don't matter; such that stay over are told, whatever else there is. For every input.
-/
import Derived.Test.YtfpidkcdgebnpaaGreatDoorGZEnd
import Derived.Test.YtfpidkcdgebnpaaGreatDoorGBaseA
import Derived.IntWalk
set_option linter.unusedVariables false
set_option linter.unusedSimpArgs false
set_option maxRecDepth 1000000
namespace Go.Proofs.YtfpidkcdgebnpaaGreatDoor
open Go.RowKit Go.Shelf

def overP (a : List PairB) (q : Nat) (y : Int) : List PairB := a.take q ++ [(row7, 9223372036854775807), (row7, y)] ++ a.drop q
def backP (a : List PairB) (q : Nat) (y : Int) : List PairB := overP a q y ++ [(row7, -y), (row7, -9223372036854775807)]
theorem over_sum (a : List PairB) (q : Nat) (y : Int) (r : List CellB) : Z.sumW (overP a q y) r = Z.sumW a r + if row7 = r then 9223372036854775807 + y else 0 := by
  unfold overP
  have e : Z.sumW a r = Z.sumW (a.take q) r + Z.sumW (a.drop q) r := by rw [← Z.sumW_append, List.take_append_drop]
  rw [Z.sumW_append, Z.sumW_append, e]
  simp only [Z.sumW]
  split <;> omega
theorem over_pso {a : List PairB} {q : Nat} {y : Int} (hP : PSO a) (hy : inW y) : PSO (overP a q y) := by
  unfold overP
  refine PSO.append (PSO.append (hP.sub fun p hp => List.mem_of_mem_take hp) fun p hp => ?_) (hP.sub fun p hp => List.mem_of_mem_drop hp)
  simp at hp
  rcases hp with rfl | rfl
  · exact ⟨row7_ok, by show -9223372036854775808 ≤ (9223372036854775807 : Int); omega, by show (9223372036854775807 : Int) ≤ 9223372036854775807; omega⟩
  · exact ⟨row7_ok, hy⟩
theorem over_all {a : List PairB} {q : Nat} {y : Int} (hV : Z.AllV (Vr exCB) a) : Z.AllV (Vr exCB) (overP a q y) := by
  unfold overP
  refine allV_app (allV_app (fun p hp => hV p (List.mem_of_mem_take hp)) fun p hp => ?_) (fun p hp => hV p (List.mem_of_mem_drop hp))
  simp at hp
  rcases hp with rfl | rfl
  · exact ⟨row7_row, row7_ok⟩
  · exact ⟨row7_row, row7_ok⟩
theorem back_pso {a : List PairB} {q : Nat} {y : Int} (hP : PSO a) (hy : 0 < y ∧ y ≤ 9223372036854775807) : PSO (backP a q y) := by
  refine PSO.append (over_pso hP ⟨by omega, by omega⟩) fun p hp => ?_
  simp at hp
  rcases hp with rfl | rfl
  · exact ⟨row7_ok, by show -9223372036854775808 ≤ -y; omega, by show -y ≤ 9223372036854775807; omega⟩
  · exact ⟨row7_ok, by show -9223372036854775808 ≤ (-9223372036854775807 : Int); omega, by show (-9223372036854775807 : Int) ≤ 9223372036854775807; omega⟩
theorem back_as {a A : List PairB} {q : Nat} {y : Int} (hP : PSO a) (hy : 0 < y ∧ y ≤ 9223372036854775807) (hV : Z.AllV (Vr exCB) a) (hA : Zs exCB A) (hs : ∀ r, Z.sumW A r = Z.sumW a r) : clcE exCB (backP a q y) = 0 ∧ clcO exCB (backP a q y) = A := by
  refine clc_as (back_pso hP hy) (allV_app (over_all hV) fun p hp => ?_) hA fun r => ?_
  · simp at hp
    rcases hp with rfl | rfl
    · exact ⟨row7_row, row7_ok⟩
    · exact ⟨row7_row, row7_ok⟩
  · unfold backP
    rw [Z.sumW_append, over_sum, hs]
    simp only [Z.sumW]
    split <;> omega
theorem over_as {a A : List PairB} {q : Nat} {y : Int} (hP : PSO a) (hy : 0 < y ∧ y ≤ 9223372036854775807) (hV : Z.AllV (Vr exCB) a) (hA : Zs exCB A) (hs : ∀ r, Z.sumW A r = Z.sumW a r) (h0 : wgt exCB A row7 = 0) : clcE exCB (overP a q y) = 12 ∧ clcO exCB (overP a q y) = [] := by
  have w0 : Z.sumW A row7 = 0 := by
    unfold wgt at h0; rw [if_neg (by rintro (h9 | h9); exact h9 hA.2; exact h9 row7_row)] at h0; exact h0
  have hVo := over_all (q := q) (y := y) hV
  have f1 : firstE exCB (overP a q y) = 0 := firstE_zero.2 fun p hp => (hVo p hp).1
  have ho : overB (partsC exCB (overP a q y)) = true := by
    cases h9 : overB (partsC exCB (overP a q y)) with
    | true => rfl
    | false =>
      have := (Z.parts_all (to_row exCB) hVo (I := i64) i64_zero).1 (overB_false.1 h9) row7
      rw [over_sum, ← hs, w0, if_pos rfl] at this
      unfold i64 at this
      omega
  have e : clcE exCB (overP a q y) = 12 := by
    unfold clcE
    rw [if_neg (fun h => h hA.schema), if_neg (fun h => h f1), if_pos ho]
  exact ⟨e, by unfold clcO; rw [if_neg (by rw [e]; decide)]⟩

set_option maxHeartbeats 16000000 in
theorem zsetOver_walk (x0 : Value) (a : List PairB) (m y : Int) (w : World) (hA : RdP w x0 a ∧ PSO a ∧ a.length * 32 ≤ 140737488351232) (hm : 0 ≤ m ∧ m ≤ 255) (hy : -9223372036854775808 ≤ y ∧ y ≤ 9223372036854775807) (hT : Tabs w) (hL : Lib4 w) (hX : Mx w) :
    Calls Tryz.prog 8 #[x0, .int .u8 m, .int .i64 y] w fun e w' => e = .returned (.bool true) ∧ Below w.heap.size w w' := by
  have KA := Lib.hid (fun wz (hz : Below w.heap.size w wz) => law08_alive wz (hL.later hz) (hX.later hz))
  have TT := Lib.hid (fun wz (hz : Below w.heap.size w wz) => hT.later hz)
  have hla := hA.1.len
  have hsa := hA.1.small
  have RA := Lib.hid (fun wz (hz : Below w.heap.size w wz) => hA.1.later hz (Nat.le_refl _))
  have PA := Lib.hid hA.2
  obtain ⟨ao0, no0, co0, rfl⟩ := hA.1.lit
  obtain ⟨n, hn⟩ : ∃ n, n = a.length := ⟨_, rfl⟩
  rw [← hn] at hla hsa
  have HN := Lib.hid hn
  obtain ⟨m0, m1⟩ := hm
  obtain ⟨y0, y1⟩ := hy
  have GR := Lib.hid (great_one8 (.slice ao0 no0 co0) a w hA.1)
  clear hA hT hL hX hn
  have HB := Lib.hid (Below.refl w.heap.size w)
  obtain ⟨x, hx⟩ : ∃ x, x = clcE exCB a := ⟨_, rfl⟩
  have CA := Lib.hid (fun wz ve h hr => zset_Collect ve (.slice ao0 no0 co0) exCB a wz hr (RA.out wz h) exCB_ok PA.out.1 (TT.out wz h) (by have := PA.out.2; omega))
  rw [← hx] at CA
  have HX := Lib.hid hx
  clear hx
  have hL7 : ((7 : Int) % 18446744073709551616) = ((7 : Nat) : Int) := rfl
  go_enter Tryz.func8, Tryz.ntmps8
  go_wp2_with fail
  refine (GR.out).mono ?_
  rintro e w2 ⟨q0, rfl, hq, hb⟩
  replace HB := Lib.hid (HB.out.trans (hb.mono HB.out.size))
  clear hb GR
  rcases hq with rfl | rfl
  · go_wp2_with fail
    refine (law08_example _).mono ?_
    rintro e w3 ⟨ve, rfl, hve, hb⟩
    replace HB := Lib.hid (HB.out.trans (hb.mono HB.out.size))
    have FE := Lib.hid hve
    clear hb hve
    go_wp2_with fail
    refine (CA.out _ ve HB.out FE.out).mono ?_
    rintro e w4 ⟨va, rfl, hra, hb⟩
    replace HB := Lib.hid (HB.out.trans (hb.mono HB.out.size))
    replace FE := Lib.hid (FE.out.later hb (Nat.le_refl _))
    have FA := Lib.hid hra
    clear hb hra CA
    clear FE
    go_wp2_with fail
    refine (KA.out _ HB.out).mono ?_
    rintro e w5 ⟨rfl, hb⟩
    replace HB := Lib.hid (HB.out.trans (hb.mono HB.out.size))
    replace FA := Lib.hid (FA.out.later hb (Nat.le_refl _))
    clear hb
    by_cases hx0 : x = 0
    · subst hx0
      by_cases hyn : y ≤ 0
      · go_wp2_with fail
        refine (KA.out _ HB.out).mono ?_
        rintro e w6 ⟨rfl, hb⟩
        replace HB := Lib.hid (HB.out.trans (hb.mono HB.out.size))
        replace FA := Lib.hid (FA.out.later hb (Nat.le_refl _))
        clear hb
        go_wp2
        go_ret
        exact ⟨rfl, HB.out⟩
      · obtain ⟨ZA, SA, VA⟩ := clc_ok PA.out.1 HX.out.symm
        obtain ⟨A, hAA⟩ : ∃ A, A = clcO exCB a := ⟨_, rfl⟩
        rw [← hAA] at ZA SA FA
        have hyy : 0 < y ∧ y ≤ 9223372036854775807 := ⟨by omega, y1⟩
        have hneg : IntKind.i64.wrap (-y) = -y := IntWalk.i64_in _ ⟨by omega, by omega⟩
        obtain ⟨q, hq⟩ : ∃ q : Nat, m % ((n : Int) + 1) = (q : Int) ∧ q ≤ n := by
          have h0 := Int.emod_nonneg m (b := (n : Int) + 1) (by omega)
          have h1 := Int.emod_lt_of_pos m (b := (n : Int) + 1) (by omega)
          exact ⟨(m % ((n : Int) + 1)).toNat, by omega, by omega⟩
        obtain ⟨hq, hqn⟩ := hq
        have BA := Lib.hid (back_as (q := q) PA.out.1 hyy VA ZA SA)
        have OA := Lib.hid (over_as (q := q) PA.out.1 hyy VA ZA SA)
        have PB := Lib.hid (back_pso (a := a) (q := q) PA.out.1 hyy)
        have PO := Lib.hid (over_pso (a := a) (q := q) (y := y) PA.out.1 ⟨by omega, by omega⟩)
        have ZA' := Lib.hid ZA
        clear SA VA ZA hAA hyy
        go_wp2_with fail
        refine (law08_pair 7 7 hL7 ⟨#[116, 111, 112]⟩ 9223372036854775807 _).mono ?_
        rintro e w6 ⟨g1, rfl, hr1, hg1, hb⟩
        replace HB := Lib.hid (HB.out.trans (hb.mono HB.out.size))
        replace FA := Lib.hid (FA.out.later hb (Nat.le_refl _))
        have F1 := Lib.hid hr1
        clear hb hr1 hg1
        go_wp2_with fail
        refine (law08_pair 7 7 hL7 ⟨#[116, 111, 112]⟩ y _).mono ?_
        rintro e w7 ⟨g2, rfl, hr2, hg2, hb⟩
        replace HB := Lib.hid (HB.out.trans (hb.mono HB.out.size))
        replace FA := Lib.hid (FA.out.later hb (Nat.le_refl _))
        replace F1 := Lib.hid (F1.out.later hb (Nat.le_refl _))
        have F2 := Lib.hid hr2
        clear hb hr2 hg2
        have RT0 := rdP_two w7 (.slice (some ⟨g1, 0, none⟩) 2 2, (row7, 9223372036854775807)) (.slice (some ⟨g2, 0, none⟩) 2 2, (row7, y)) F1.out F2.out
        have hbt := (Below.refl w7.heap.size w7).alloc (Nat.le_refl _) (.cells #[.slice (some ⟨g1, 0, none⟩) 2 2, .int .i64 9223372036854775807, .slice (some ⟨g2, 0, none⟩) 2 2, .int .i64 y] 51)
        have FT := Lib.hid RT0
        replace HB := Lib.hid (HB.out.trans (hbt.mono HB.out.size))
        replace FA := Lib.hid (FA.out.later hbt (Nat.le_refl _))
        clear RT0 hbt F1 F2
        go_wp2
        rw [hq]
        try rw [show w7.alloc (.cells #[.slice (some ⟨g1, 0, none⟩) 2 2, .int .i64 9223372036854775807, .slice (some ⟨g2, 0, none⟩) 2 2, .int .i64 y] 51) = w7.alloc (.cells #[.slice (some ⟨g1, 0, none⟩) 2 2, .int .i64 9223372036854775807, .slice (some ⟨g2, 0, none⟩) 2 2, .int .i64 y] 51) from rfl]
        generalize w7.alloc (.cells #[.slice (some ⟨g1, 0, none⟩) 2 2, .int .i64 9223372036854775807, .slice (some ⟨g2, 0, none⟩) 2 2, .int .i64 y] 51) = wt at *
        have FL := Lib.hid (RA.out wt HB.out)
        obtain ⟨vt, hvt, hvt2⟩ := FL.out.upto q (by rw [← HN.out]; omega)
        obtain ⟨vd, hvd, hvd2⟩ := FL.out.from q (by rw [← HN.out]; omega)
        obtain ⟨us, hu1, hu2, hu3⟩ := (hvt2 wt (Below.refl _ _)).app
        obtain ⟨ps, hp1, hp2, hp3⟩ := FT.out.app
        obtain ⟨ts, ht1, ht2, ht3⟩ := (hvd2 wt (Below.refl _ _)).app
        have hl32 : n * 32 ≤ 140737488351232 := by rw [HN.out]; exact PA.out.2
        have hlu : us.length = q := by rw [hu2, List.length_take]; have := HN.out; omega
        have hlp : ps.length = 2 := hp2
        have hlt : ts.length + q = n := by rw [ht2, List.length_drop]; have := HN.out; omega
        have HU3 := Lib.hid hu3
        have HP3 := Lib.hid hp3
        have HT3 := Lib.hid ht3
        have HEQ := Lib.hid (show us.map (·.2) ++ ps.map (·.2) ++ ts.map (·.2) = overP a q y from by rw [hu1, hp1, ht1]; rfl)
        clear hvt2 hvd2 hu1 hu3 hp1 hp3 ht1 ht3 hu2 hp2 ht2
        have HO0 := Lib.hid (ownP_empty wt.drew wt.heap.size (Nat.le_refl _))
        have HBd := Lib.hid ((Below.refl wt.heap.size wt).drew.alloc (Nat.le_refl _) (.cells #[] 51))
        refine OrdR.wp_region_ord (R := Below wt.heap.size) below_way [(1, false), (2, false), (3, false), (5, false), (7, false), (8, false), (9, false), (0, true), (4, true), (6, true), (10, true), (11, false)] (by kernel_rfl) rfl (by kernel_rfl) (by kernel_rfl) (fun _ _ _ d _ h => by cases d <;> exact h) ?_
        refine OrdR.ord_still rfl rfl (by kernel_rfl) (fun K hK => ?_)
        go_big_quiet_op
        first | (refine hK _ ?_; clear hK K) | (refine ⟨_, fun _ => rfl, hK _ ?_⟩; clear hK K)
        refine OrdR.ord_still rfl rfl (by kernel_rfl) (fun K hK => ?_)
        go_big_quiet_op
        first | (refine hK _ ?_; clear hK K) | (refine ⟨_, fun _ => rfl, hK _ ?_⟩; clear hK K)
        refine OrdR.ord_still rfl rfl (by kernel_rfl) (fun K hK => ?_)
        go_big_quiet_op
        first | (refine hK _ ?_; clear hK K) | (refine ⟨_, fun _ => rfl, hK _ ?_⟩; clear hK K)
        refine OrdR.ord_still rfl rfl (by kernel_rfl) (fun K hK => ?_)
        go_big_quiet_op
        first | (refine hK _ ?_; clear hK K) | (refine ⟨_, fun _ => rfl, hK _ ?_⟩; clear hK K)
        refine OrdR.ord_still rfl rfl (by kernel_rfl) (fun K hK => ?_)
        go_big_quiet_op
        first | (refine hK _ ?_; clear hK K) | (refine ⟨_, fun _ => rfl, hK _ ?_⟩; clear hK K)
        refine OrdR.ord_still rfl rfl (by kernel_rfl) (fun K hK => ?_)
        go_big_quiet_op
        first | (refine hK _ ?_; clear hK K) | (refine ⟨_, fun _ => rfl, hK _ ?_⟩; clear hK K)
        refine OrdR.ord_still rfl rfl (by kernel_rfl) (fun K hK => ?_)
        go_big_quiet_op
        first | (refine hK _ ?_; clear hK K) | (refine ⟨_, fun _ => rfl, hK _ ?_⟩; clear hK K)
        refine OrdR.ord_loud rfl (by kernel_rfl) (fun K hK => ?_)
        go_big_op
        refine hK _ _ (by exact (Below.refl wt.heap.size wt.drew).alloc (Nat.le_refl _) _) ?_
        clear hK K
        refine OrdR.ord_loud rfl (by kernel_rfl) (fun K hK => ?_)
        refine wpP_appendAll wt.heap.size _ rfl HO0.out vt rfl us (HU3.out _ HBd.out).1 ((HU3.out _ HBd.out).2 _ (fun g hg => by injection hg with hg; exact Nat.le_of_eq hg)) (by simp; omega) (by simp) wt.heap.size wt HBd.out (Nat.le_refl _) ?_
        intro v50 w50 ho hb hg _
        refine hK _ _ ((Below.refl wt.heap.size _).grown hg (by simp) (fun g hg => by injection hg with hg; exact Nat.le_of_eq hg)) ?_
        have HP50 := Lib.hid ho
        have HBHP50 := Lib.hid hb
        clear ho hb hg
        go_simp
        clear hK K
        refine OrdR.ord_loud rfl (by kernel_rfl) (fun K hK => ?_)
        refine wpP_appendAll wt.heap.size _ rfl HP50.out (.slice (some ⟨_, 0, none⟩) 2 2) rfl ps (HP3.out _ HBHP50.out).1 ((HP3.out _ HBHP50.out).2 _ (fun g hg => (HP50.out.lt hg).1)) (by simp; omega) (by exact HBHP50.out.size) wt.heap.size wt HBHP50.out (Nat.le_refl _) ?_
        intro v51 w51 ho hb hg _
        refine hK _ _ ((Below.refl wt.heap.size _).grown hg (by exact HBHP50.out.size) (fun g hg => (HP50.out.lt hg).1)) ?_
        have HP51 := Lib.hid ho
        have HBHP51 := Lib.hid hb
        clear ho hb hg
        go_simp
        clear hK K
        refine OrdR.ord_loud rfl (by kernel_rfl) (fun K hK => ?_)
        refine wpP_appendAll wt.heap.size _ rfl HP51.out vd rfl ts (HT3.out _ HBHP51.out).1 ((HT3.out _ HBHP51.out).2 _ (fun g hg => (HP51.out.lt hg).1)) (by simp; omega) (by exact HBHP51.out.size) wt.heap.size wt HBHP51.out (Nat.le_refl _) ?_
        intro v52 w52 ho hb hg _
        refine hK _ _ ((Below.refl wt.heap.size _).grown hg (by exact HBHP51.out.size) (fun g hg => (HP51.out.lt hg).1)) ?_
        have HP52 := Lib.hid ho
        have HBHP52 := Lib.hid hb
        clear ho hb hg
        go_simp
        clear hK K
        refine OrdR.ord_still rfl rfl (by kernel_rfl) (fun K hK => ?_)
        go_big_quiet_op
        first | (refine hK _ ?_; clear hK K) | (refine ⟨_, fun _ => rfl, hK _ ?_⟩; clear hK K)
        refine OrdR.ord_nil ?_
        have FO := Lib.hid (show RdP w52 v52 (overP a q y) from by
          have h9 := HP52.out.rd (by simp; omega)
          rw [List.nil_append, HEQ.out] at h9
          exact h9)
        replace HB := Lib.hid (HB.out.trans (HBHP52.out.mono HB.out.size))
        replace FA := Lib.hid (FA.out.later HBHP52.out (Nat.le_refl _))
        have HLO := Lib.hid (show (overP a q y).length = n + 2 from by rw [← HEQ.out]; simp; omega)
        clear HP50 HBHP50 HP51 HBHP51 HP52 HBHP52 HEQ HU3 HP3 HT3 HO0 HBd FT FL hvt hvd
        obtain ⟨oo, on, oc, rfl⟩ := FO.out.lit
        obtain ⟨os, ho1, ho2, ho3⟩ := FO.out.app
        obtain ⟨g1, g2⟩ := ho3 _ ((Below.refl w52.heap.size w52).alloc (Nat.le_refl _) (.cells #[] 51))
        have HG1 := Lib.hid g1
        have HG2 := Lib.hid (g2 (.slice (some ⟨w52.heap.size, 0, none⟩) 0 0) (fun g hg => by injection hg with hg; exact Nat.le_of_eq hg))
        have HO := Lib.hid (ownP_empty w52 w52.heap.size (Nat.le_refl _))
        have HO2 := Lib.hid ho1
        have hlo : os.length = n + 2 := ho2.trans HLO.out
        clear g1 g2 ho1 ho2 ho3
        go_wp2_with (with_reducible refine wplP_appendAll w52.heap.size _ ?hs HO.out (.slice oo on oc) ?hx os HG1.out HG2.out ?hn ?hbase w52.heap.size w52 ((Below.refl _ _).alloc (Nat.le_refl _) _) (Nat.le_refl _) ?_)
        case hs => rfl
        case hx => rfl
        case hn => simp; omega
        case hbase => simp
        intro v60 w60 ho hb _ _
        rw [List.nil_append, HO2.out] at ho
        have HC1 := Lib.hid ho
        have V60 := Lib.hid (show ∀ g, v60.ownBlock = some g → w52.heap.size ≤ g ∧ g < w60.heap.size from fun g hg => ho.lt hg)
        have HW1 := Lib.hid hb
        have S52 := Lib.hid HB.out.size
        have HB52 := HB
        replace HB := Lib.hid (HB.out.trans (hb.mono HB.out.size))
        clear ho hb HG1 HG2 HO HO2
        go_wp2_with fail
        refine (law08_pair 7 7 hL7 ⟨#[116, 111, 112]⟩ (-y) _).mono ?_
        rintro e w61 ⟨g3, rfl, hr3, hg3, hb⟩
        replace HB := Lib.hid (HB.out.trans (hb.mono HB.out.size))
        replace HC1 := Lib.hid (HC1.out.later hb (Nat.le_refl _))
        have F3 := Lib.hid hr3
        have S61 := Lib.hid hb.size
        replace HW1 := Lib.hid (HW1.out.trans (hb.mono HW1.out.size))
        clear hb hr3
        go_wp2_with fail
        refine (law08_pair 7 7 hL7 ⟨#[116, 111, 112]⟩ (-9223372036854775807) _).mono ?_
        rintro e w62 ⟨g4, rfl, hr4, hg4, hb⟩
        replace HB := Lib.hid (HB.out.trans (hb.mono HB.out.size))
        replace HC1 := Lib.hid (HC1.out.later hb (Nat.le_refl _))
        replace F3 := Lib.hid (F3.out.later hb (Nat.le_refl _))
        have F4 := Lib.hid hr4
        replace HW1 := Lib.hid (HW1.out.trans (hb.mono HW1.out.size))
        clear hb hr4
        have hw61 : w60.heap.size ≤ w61.heap.size := by have := HB.out.size; exact S61.out
        have hv60 : ∀ g, v60.ownBlock = some g → w52.heap.size ≤ g ∧ g < w60.heap.size := fun g hg => V60.out g hg
        have hbt := (Below.refl w62.heap.size w62).alloc (Nat.le_refl _) (.cells #[.slice (some ⟨g3, 0, none⟩) 2 2, .int .i64 (-y), .slice (some ⟨g4, 0, none⟩) 2 2, .int .i64 (-9223372036854775807)] 51)
        have RT1 := Lib.hid (rdG_two w62 (.slice (some ⟨g3, 0, none⟩) 2 2, (row7, -y)) (.slice (some ⟨g4, 0, none⟩) 2 2, (row7, -9223372036854775807)) F3.out F4.out)
        have HG2 := Lib.hid (show ∀ t ∈ [((.slice (some ⟨g3, 0, none⟩) 2 2, (row7, -y)) : TriB), (.slice (some ⟨g4, 0, none⟩) 2 2, (row7, -9223372036854775807))], RdE (w62.alloc (.cells #[.slice (some ⟨g3, 0, none⟩) 2 2, .int .i64 (-y), .slice (some ⟨g4, 0, none⟩) 2 2, .int .i64 (-9223372036854775807)] 51)) t.1 t.2.1 ∧ ∀ g, v60.ownBlock = some g → offB t.1 t.2.1.length g from by
          intro t ht
          simp at ht
          rcases ht with rfl | rfl
          · refine ⟨F3.out.later hbt (Nat.le_refl _), fun g hg i _ => ?_⟩
            have := hv60 g hg
            show (adr (.slice (some ⟨g3, 0, none⟩) 2 2) (i * 2)).block ≠ g
            rw [adr_lit]
            show g3 ≠ g
            omega
          · refine ⟨F4.out.later hbt (Nat.le_refl _), fun g hg i _ => ?_⟩
            have := hv60 g hg
            show (adr (.slice (some ⟨g4, 0, none⟩) 2 2) (i * 2)).block ≠ g
            rw [adr_lit]
            show g4 ≠ g
            omega)
        replace HC1 := Lib.hid (HC1.out.later hbt (Nat.le_refl _))
        replace HW1 := Lib.hid (HW1.out.trans (hbt.mono HW1.out.size))
        have HSZ := Lib.hid (show w52.heap.size ≤ (w62.alloc (.cells #[.slice (some ⟨g3, 0, none⟩) 2 2, .int .i64 (-y), .slice (some ⟨g4, 0, none⟩) 2 2, .int .i64 (-9223372036854775807)] 51)).heap.size from HW1.out.size)
        clear F3 F4 hbt hw61 hv60 V60 S61
        go_wp2_with (with_reducible refine wplP_appendAll w52.heap.size _ ?hs HC1.out (.slice (some ⟨w62.heap.size, 0, none⟩) 2 2) ?hx [((.slice (some ⟨g3, 0, none⟩) 2 2, (row7, -y)) : TriB), (.slice (some ⟨g4, 0, none⟩) 2 2, (row7, -9223372036854775807))] RT1.out HG2.out ?hn ?hbase w52.heap.size w52 HW1.out (Nat.le_refl _) ?_)
        case hs => rfl
        case hx => rfl
        case hn => rw [HLO.out]; simp; omega
        case hbase => exact HSZ.out
        intro v63 w63 ho hb _ _
        have FBK := Lib.hid (show RdP w63 v63 (backP a q y) from ho.rd (by rw [List.length_append, HLO.out]; simp; omega))
        replace FO := Lib.hid (FO.out.later hb (Nat.le_refl _))
        replace FA := Lib.hid (FA.out.later hb (Nat.le_refl _))
        have HLB := Lib.hid (show (backP a q y).length = n + 4 from by unfold backP; rw [List.length_append, HLO.out]; rfl)
        have HBZ : Below w.heap.size w w63 := HB52.out.trans (hb.mono S52.out)
        replace HB := Lib.hid HBZ
        clear ho hb HC1 HW1 HSZ RT1 HG2 HBZ HB52 S52
        obtain ⟨ko, kn, kc, rfl⟩ := FBK.out.lit
        have KK := Lib.hid (fun wz ve (h : Below w.heap.size w wz) hr (hz : RdP wz (.slice ko kn kc) (backP a q y)) => zset_Collect ve (.slice ko kn kc) exCB (backP a q y) wz hr hz exCB_ok PB.out (TT.out wz h) (by rw [HLB.out]; omega))
        rw [BA.out.1, BA.out.2] at KK
        have KO := Lib.hid (fun wz ve (h : Below w.heap.size w wz) hr (hz : RdP wz (.slice oo on oc) (overP a q y)) => zset_Collect ve (.slice oo on oc) exCB (overP a q y) wz hr hz exCB_ok PO.out (TT.out wz h) (by rw [HLO.out]; omega))
        go_wp2_with fail
        refine (law08_example _).mono ?_
        rintro e w64 ⟨ve2, rfl, hve, hb⟩
        replace HB := Lib.hid (HB.out.trans (hb.mono HB.out.size))
        replace FA := Lib.hid (FA.out.later hb (Nat.le_refl _))
        replace FO := Lib.hid (FO.out.later hb (Nat.le_refl _))
        replace FBK := Lib.hid (FBK.out.later hb (Nat.le_refl _))
        have FE := Lib.hid hve
        clear hb hve
        go_wp2_with fail
        refine (KK.out _ ve2 HB.out FE.out FBK.out).mono ?_
        rintro e w65 ⟨vk, rfl, hrk, hb⟩
        replace HB := Lib.hid (HB.out.trans (hb.mono HB.out.size))
        replace FA := Lib.hid (FA.out.later hb (Nat.le_refl _))
        replace FO := Lib.hid (FO.out.later hb (Nat.le_refl _))
        replace FBK := Lib.hid (FBK.out.later hb (Nat.le_refl _))
        replace FE := Lib.hid (FE.out.later hb (Nat.le_refl _))
        have FK := Lib.hid hrk
        clear hb hrk KK FBK
        clear FE
        go_wp2_with fail
        refine (zset_Same va vk _ _ _ FA.out FK.out).mono ?_
        rintro e w66 ⟨rfl, hb⟩
        replace HB := Lib.hid (HB.out.trans (hb.mono HB.out.size))
        replace FA := Lib.hid (FA.out.later hb (Nat.le_refl _))
        replace FO := Lib.hid (FO.out.later hb (Nat.le_refl _))
        replace FK := Lib.hid (FK.out.later hb (Nat.le_refl _))
        clear hb FK
        go_wp2_with fail
        refine (law08_example _).mono ?_
        rintro e w67 ⟨ve3, rfl, hve, hb⟩
        replace HB := Lib.hid (HB.out.trans (hb.mono HB.out.size))
        replace FA := Lib.hid (FA.out.later hb (Nat.le_refl _))
        replace FO := Lib.hid (FO.out.later hb (Nat.le_refl _))
        have FE := Lib.hid hve
        clear hb hve
        go_wp2_with fail
        refine (law08_pair 7 7 hL7 ⟨#[116, 111, 112]⟩ 1 _).mono ?_
        rintro e w68 ⟨g5, rfl, hr5, hg5, hb⟩
        replace HB := Lib.hid (HB.out.trans (hb.mono HB.out.size))
        replace FA := Lib.hid (FA.out.later hb (Nat.le_refl _))
        replace FO := Lib.hid (FO.out.later hb (Nat.le_refl _))
        replace FE := Lib.hid (FE.out.later hb (Nat.le_refl _))
        have F5 := Lib.hid hr5
        clear hb hr5 hg5
        have TW := Lib.hid (TT.out _ HB.out)
        have hfd : ∀ u, (Instr.field 51 (.agg #[.slice (some ⟨g5, 0, none⟩) 2 2, .int .i64 1]) 0).run Tryz.prog u = .ok (.slice (some ⟨g5, 0, none⟩) 2 2) u := fun _ => by kernel_rfl
        go_wp2_with fail
        refine (zset_Weight ve3 va (.slice (some ⟨g5, 0, none⟩) 2 2) exCB A row7 _ FE.out FA.out F5.out exCB_ok ZA'.out.1 row7_ok TW.out).mono ?_
        rintro e w69 ⟨rfl, hb⟩
        replace HB := Lib.hid (HB.out.trans (hb.mono HB.out.size))
        replace FA := Lib.hid (FA.out.later hb (Nat.le_refl _))
        replace FO := Lib.hid (FO.out.later hb (Nat.le_refl _))
        replace FE := Lib.hid (FE.out.later hb (Nat.le_refl _))
        replace F5 := Lib.hid (F5.out.later hb (Nat.le_refl _))
        clear hb FE F5 TW
        obtain ⟨z, hz⟩ : ∃ z, z = wgt exCB A row7 := ⟨_, rfl⟩
        rw [← hz] at OA ⊢
        clear hz
        by_cases hz0 : z = 0
        · subst hz0
          obtain ⟨oa1, oa2⟩ := OA.out rfl
          rw [oa1, oa2] at KO
          clear oa1 oa2 OA
          go_wp2_with fail
          refine (law08_example _).mono ?_
          rintro e w70 ⟨ve4, rfl, hve, hb⟩
          replace HB := Lib.hid (HB.out.trans (hb.mono HB.out.size))
          replace FA := Lib.hid (FA.out.later hb (Nat.le_refl _))
          replace FO := Lib.hid (FO.out.later hb (Nat.le_refl _))
          have FE := Lib.hid hve
          clear hb hve
          go_wp2_with fail
          refine (KO.out _ ve4 HB.out FE.out FO.out).mono ?_
          rintro e w71 ⟨vq, rfl, hrq, hb⟩
          replace HB := Lib.hid (HB.out.trans (hb.mono HB.out.size))
          replace FA := Lib.hid (FA.out.later hb (Nat.le_refl _))
          replace FO := Lib.hid (FO.out.later hb (Nat.le_refl _))
          replace FE := Lib.hid (FE.out.later hb (Nat.le_refl _))
          clear hb KO FE FO
          have hlq := hrq.len
          rw [show ((([] : List PairB).length : Nat) : Int) = 0 from rfl] at hlq
          clear hrq
          go_wp2
          go_ret
          exact ⟨rfl, HB.out⟩
        · have qz : (z != 0) = true := by rw [bne_iff_ne]; exact hz0
          go_wp2
          go_ret
          exact ⟨rfl, HB.out⟩
    · have qx : ((x : Int) != 0) = true := by rw [bne_iff_ne]; omega
      go_wp2_with fail
      refine (KA.out _ HB.out).mono ?_
      rintro e w6 ⟨rfl, hb⟩
      replace HB := Lib.hid (HB.out.trans (hb.mono HB.out.size))
      replace FA := Lib.hid (FA.out.later hb (Nat.le_refl _))
      clear hb
      go_wp2
      go_ret
      exact ⟨rfl, HB.out⟩
  · go_wp2_with fail
    refine (KA.out _ HB.out).mono ?_
    rintro e w3 ⟨rfl, hb⟩
    replace HB := Lib.hid (HB.out.trans (hb.mono HB.out.size))
    clear hb
    go_wp2
    go_ret
    exact ⟨rfl, HB.out⟩

end Go.Proofs.YtfpidkcdgebnpaaGreatDoor
