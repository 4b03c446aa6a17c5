/-
  ZsetLess: a set without one of its pairs is one, has the others' weights, and comes with that pair to the set. For every input.
-/
import Derived.Test.YtfpidkcdgebnpaaGreatDoorGZDefs
import Derived.Test.YtfpidkcdgebnpaaGreatDoorGZEnd
import Derived.Test.YtfpidkcdgebnpaaGreatDoorGBaseA
import Derived.IntWalk
set_option linter.unusedVariables false
set_option linter.unusedSimpArgs false
set_option maxRecDepth 1000000
namespace Go.Proofs.YtfpidkcdgebnpaaGreatDoor
open Go.RowKit Go.Shelf

theorem less_facts {cs : List ColB} {A : List PairB} (h : Zs cs A) {i : Nat} (hi : i < A.length) :
    Zs cs (A.take i ++ A.drop (i + 1)) ∧ wgt cs (A.take i ++ A.drop (i + 1)) (A.getD i default).1 = 0 ∧ wgt cs A (A.getD i default).1 = (A.getD i default).2 ∧ A ≠ A.take i ++ A.drop (i + 1) ∧
      Zs cs ((A.take (i + 1)).drop i) ∧ sumE cs (A.take i ++ A.drop (i + 1)) ((A.take (i + 1)).drop i) = 0 ∧ sumO cs (A.take i ++ A.drop (i + 1)) ((A.take (i + 1)).drop i) = A := by
  have e0 : A = A.take i ++ A.getD i default :: A.drop (i + 1) := by
    have : A.getD i default = A[i] := by simp [List.getD, hi]
    rw [this, ← List.drop_eq_getElem_cons hi, List.take_append_drop]
  have e1 : (A.take (i + 1)).drop i = [A.getD i default] := by
    rw [List.take_add_one, List.getElem?_eq_getElem hi, List.drop_append_of_le_length (by rw [List.length_take]; omega), List.drop_of_length_le (by rw [List.length_take]; omega)]; simp [List.getD, hi]
  have hsub : (A.take i ++ A.drop (i + 1)).Sublist A := by
    conv => rhs; rw [e0]
    exact List.Sublist.append (List.Sublist.refl _) (List.sublist_cons_self _ _)
  have hsub1 : [A.getD i default].Sublist A := by
    have : A.getD i default ∈ A := by simp [List.getD, hi]
    exact List.singleton_sublist.2 this
  have sum0 : ∀ r, Z.sumW A r = Z.sumW (A.take i ++ A.drop (i + 1)) r + Z.sumW [A.getD i default] r := fun r => by
    conv => lhs; rw [e0]
    rw [Z.sumW_append, Z.sumW_append]; simp only [Z.sumW]; omega
  have zb : Zs cs (A.take i ++ A.drop (i + 1)) := Zs.of (h.1.sub fun p hp => hsub.mem hp) h.schema (Nat.le_trans hsub.length_le h.few) (h.set.sub hsub)
  have z1 : Zs cs [A.getD i default] := Zs.of (h.1.sub fun p hp => hsub1.mem hp) h.schema (Nat.le_trans hsub1.length_le h.few) (h.set.sub hsub1)
  have hmem : A.getD i default ∈ A := hsub1.mem (by simp)
  have hv := h.set.all _ hmem
  have wA : Z.sumW A (A.getD i default).1 = (A.getD i default).2 := Z.sumW_mem (to_row cs) h.set.srt h.set.all _ hmem
  have wb : Z.sumW (A.take i ++ A.drop (i + 1)) (A.getD i default).1 = 0 := by
    have := sum0 (A.getD i default).1
    rw [wA] at this
    simp only [Z.sumW, if_true] at this
    omega
  obtain ⟨s1, s2⟩ := sum_as zb z1 h (fun r => (sum0 r).symm)
  rw [e1]
  refine ⟨zb, ?_, ?_, fun e => ?_, z1, s1, s2⟩
  · unfold wgt; rw [if_neg (by rintro (h9 | h9); exact h9 zb.2; exact h9 hv.1)]; exact wb
  · unfold wgt; rw [if_neg (by rintro (h9 | h9); exact h9 h.2; exact h9 hv.1)]; exact wA
  · have := congrArg List.length e
    rw [List.length_append, List.length_take, List.length_drop] at this
    omega

set_option maxHeartbeats 16000000 in
theorem zsetLess_walk (v1 : Value) (cs : List ColB) (x0 : Value) (a : List PairB) (m : Int) (w : World) (hR : RdC w v1 cs) (hC : CS cs) (hA : RdP w x0 a ∧ PSO a ∧ a.length * 32 ≤ 140737488351232) (hm : 0 ≤ m ∧ m ≤ 255) (hT : Tabs w) (hL : Lib4 w) (hX : Mx w) :
    Calls Tryz.prog 10 #[v1, x0, .int .u8 m] w fun e w' => e = .returned (.bool true) ∧ Below w.heap.size w w' := by
  have K := Lib.hid (lawK v1 cs w hR hC hT hL hX)
  have hl1 := hR.len
  have hsm1 := hR.small
  have RA := Lib.hid (fun wz (hz : Below w.heap.size w wz) => hA.1.later hz (Nat.le_refl _))
  have PA := Lib.hid hA.2
  obtain ⟨ao0, no0, co0, rfl⟩ := hA.1.lit
  obtain ⟨n, hn⟩ : ∃ n, n = cs.length := ⟨_, rfl⟩
  rw [← hn] at hl1 hsm1
  obtain ⟨m0, m1⟩ := hm
  have GR := Lib.hid (great_one8 (.slice ao0 no0 co0) a w hA.1)
  clear hR hA hT hL hX hn
  have HB := Lib.hid (Below.refl w.heap.size w)
  obtain ⟨x, hx⟩ : ∃ x, x = clcE cs a := ⟨_, rfl⟩
  have CA := Lib.hid (fun wz h => K.out.collect wz _ a h (RA.out wz h) PA.out.1 (by have := PA.out.2; omega))
  rw [← hx] at CA
  have HX := Lib.hid hx
  clear hx
  go_enter Tryz.func10, Tryz.ntmps10
  go_wp2_with fail
  refine (GR.out).mono ?_
  rintro e w2 ⟨q, rfl, hq, hb⟩
  replace HB := Lib.hid (HB.out.trans (hb.mono HB.out.size))
  clear hb GR
  rcases hq with rfl | rfl
  · by_cases hn30 : 30 < n
    · go_wp2_with fail
      refine (K.out.alive _ HB.out).mono ?_
      rintro e w3 ⟨rfl, hb⟩
      replace HB := Lib.hid (HB.out.trans (hb.mono HB.out.size))
      clear hb
      go_wp2
      go_ret
      exact ⟨rfl, HB.out⟩
    · go_wp2_with fail
      refine (CA.out _ HB.out).mono ?_
      rintro e w3 ⟨va, rfl, hra, hb⟩
      replace HB := Lib.hid (HB.out.trans (hb.mono HB.out.size))
      have FA := Lib.hid hra
      clear hb hra
      obtain ⟨A, hAA⟩ : ∃ A, A = clcO cs a := ⟨_, rfl⟩
      rw [← hAA] at FA
      have HAA := Lib.hid hAA
      clear hAA
      have hlA := FA.out.len
      have hsA := FA.out.small
      obtain ⟨l, hl⟩ : ∃ l, l = A.length := ⟨_, rfl⟩
      rw [← hl] at hlA hsA
      have HLN := Lib.hid hl
      clear hl
      go_wp2_with fail
      refine (K.out.alive _ HB.out).mono ?_
      rintro e w4 ⟨rfl, hb⟩
      replace HB := Lib.hid (HB.out.trans (hb.mono HB.out.size))
      replace FA := Lib.hid (FA.out.later hb (Nat.le_refl _))
      clear hb
      by_cases hx0 : x = 0
      · subst hx0
        by_cases hl0 : l = 0
        · subst hl0
          go_wp2_with fail
          refine (K.out.alive _ HB.out).mono ?_
          rintro e w5 ⟨rfl, hb⟩
          replace HB := Lib.hid (HB.out.trans (hb.mono HB.out.size))
          replace FA := Lib.hid (FA.out.later hb (Nat.le_refl _))
          clear hb
          go_wp2
          go_ret
          exact ⟨rfl, HB.out⟩
        · have ZA := Lib.hid (show Zs cs A from by rw [HAA.out]; exact (clc_ok PA.out.1 HX.out.symm).1)
          have hlq : ((l : Int) == 0) = false := by rw [beq_eq_false_iff_ne]; omega
          obtain ⟨i, hi⟩ : ∃ i : Nat, m % (l : Int) = (i : Int) ∧ i < l := by
            have h0 := Int.emod_nonneg m (b := (l : Int)) (by omega)
            have h1 := Int.emod_lt_of_pos m (b := (l : Int)) (by omega)
            exact ⟨(m % (l : Int)).toNat, by omega, by omega⟩
          obtain ⟨hi, hil⟩ := hi
          go_wp2
          rw [hi]
          obtain ⟨vt, hvt, hvt2⟩ := FA.out.upto i (by rw [← HLN.out]; omega)
          obtain ⟨vd, hvd0, hvd2⟩ := FA.out.from (i + 1) (by rw [← HLN.out]; omega)
          have hvd : ∀ u, (Instr.slice 23 va (some (.int .i64 ((i : Int) + 1))) none none).run Tryz.prog u = .ok vd u := hvd0
          have hw1 : IntKind.i64.wrap ((i : Int) + 1) = (i : Int) + 1 := IntWalk.i64_in _ (by omega)
          obtain ⟨us, hu1, hu2, hu3⟩ := (hvt2 w4 (Below.refl _ _)).app
          obtain ⟨ts, ht1, ht2, ht3⟩ := (hvd2 w4 (Below.refl _ _)).app
          have hlu : us.length ≤ 1024 := by rw [hu2, List.length_take]; have := ZA.out.few; omega
          have hlt : ts.length ≤ 1024 := by rw [ht2, List.length_drop]; have := ZA.out.few; omega
          have HU3 := Lib.hid hu3
          have HT3 := Lib.hid ht3
          have HU1 := Lib.hid hu1
          have HT1 := Lib.hid ht1
          clear hvt2 hvd2 hvd0 hu1 hu3 ht1 ht3 hu2 ht2
          have HO0 := Lib.hid (ownP_empty w4.drew w4.heap.size (Nat.le_refl _))
          have HBd := Lib.hid ((Below.refl w4.heap.size w4).drew.alloc (Nat.le_refl _) (.cells #[] 51))
          refine OrdR.wp_region_ord (R := Below w4.heap.size) below_way [(1, false), (2, false), (3, false), (5, false), (6, false), (7, false), (8, false), (0, true), (4, true), (9, true), (10, false)] (by kernel_rfl) rfl (by kernel_rfl) (by kernel_rfl) (fun _ _ _ d _ h => by cases d <;> exact h) ?_
          refine OrdR.ord_still rfl rfl (by kernel_rfl) (fun K hK => ?_)
          go_big_quiet_op
          first | (refine hK _ ?_; clear hK K) | (refine ⟨_, fun _ => rfl, hK _ ?_⟩; clear hK K)
          refine OrdR.ord_still rfl rfl (by kernel_rfl) (fun K hK => ?_)
          go_big_quiet_op
          first | (refine hK _ ?_; clear hK K) | (refine ⟨_, fun _ => rfl, hK _ ?_⟩; clear hK K)
          refine OrdR.ord_still rfl rfl (by kernel_rfl) (fun K hK => ?_)
          go_big_quiet_op
          first | (refine hK _ ?_; clear hK K) | (refine ⟨_, fun _ => rfl, hK _ ?_⟩; clear hK K)
          refine OrdR.ord_still rfl rfl (by kernel_rfl) (fun K hK => ?_)
          go_big_quiet_op
          first | (refine hK _ ?_; clear hK K) | (refine ⟨_, fun _ => rfl, hK _ ?_⟩; clear hK K)
          refine OrdR.ord_still rfl rfl (by kernel_rfl) (fun K hK => ?_)
          go_big_quiet_op
          first | (refine hK _ ?_; clear hK K) | (refine ⟨_, fun _ => rfl, hK _ ?_⟩; clear hK K)
          refine OrdR.ord_still rfl rfl (by kernel_rfl) (fun K hK => ?_)
          go_big_quiet_op
          first | (refine hK _ ?_; clear hK K) | (refine ⟨_, fun _ => rfl, hK _ ?_⟩; clear hK K)
          refine OrdR.ord_still rfl rfl (by kernel_rfl) (fun K hK => ?_)
          go_big_quiet_op
          first | (refine hK _ ?_; clear hK K) | (refine ⟨_, fun _ => rfl, hK _ ?_⟩; clear hK K)
          refine OrdR.ord_loud rfl (by kernel_rfl) (fun K hK => ?_)
          go_big_op
          refine hK _ _ (by exact (Below.refl w4.heap.size w4.drew).alloc (Nat.le_refl _) _) ?_
          clear hK K
          refine OrdR.ord_loud rfl (by kernel_rfl) (fun K hK => ?_)
          refine wpP_appendAll w4.heap.size _ rfl HO0.out vt rfl us (HU3.out _ HBd.out).1 ((HU3.out _ HBd.out).2 _ (fun g hg => by injection hg with hg; exact Nat.le_of_eq hg)) (by simp; omega) (by simp) w4.heap.size w4 HBd.out (Nat.le_refl _) ?_
          intro v5 w5 ho5 hb5 hg5 _
          rw [List.nil_append] at ho5
          refine hK _ _ ((Below.refl w4.heap.size _).grown hg5 (by simp) (fun g hg => by injection hg with hg; exact Nat.le_of_eq hg)) ?_
          have HO5 := Lib.hid ho5
          have HB5 := Lib.hid hb5
          have hsz5 : w4.heap.size ≤ w5.heap.size := hb5.size
          clear ho5 hb5 hg5 HO0
          go_simp
          clear hK K
          refine OrdR.ord_loud rfl (by kernel_rfl) (fun K hK => ?_)
          refine wpP_appendAll w4.heap.size _ rfl HO5.out vd rfl ts (HT3.out _ HB5.out).1 ((HT3.out _ HB5.out).2 _ (fun g hg => (HO5.out.lt hg).1)) (by rw [List.length_map]; omega) hsz5 w4.heap.size w4 HB5.out (Nat.le_refl _) ?_
          intro v6 w6 ho6 hb6 hg6 _
          refine hK _ _ ((Below.refl w4.heap.size _).grown hg6 hsz5 (fun g hg => (HO5.out.lt hg).1)) ?_
          have HO6 := Lib.hid ho6
          have HB6 := Lib.hid hb6
          clear ho6 hb6 hg6 HO5 HB5
          go_simp
          clear hK K
          refine OrdR.ord_still rfl rfl (by kernel_rfl) (fun K hK => ?_)
          go_big_quiet_op
          first | (refine hK _ ?_; clear hK K) | (refine ⟨_, fun _ => rfl, hK _ ?_⟩; clear hK K)
          refine OrdR.ord_nil ?_
          go_wp2
          obtain ⟨f1, f2, f3, f4, f5, f6, f7⟩ := less_facts ZA.out (i := i) (by rw [← HLN.out]; exact hil)
          have HO6' := Lib.hid (show OwnP w6 w4.heap.size v6 (A.take i ++ A.drop (i + 1)) from by rw [← HU1.out, ← HT1.out]; exact HO6.out)
          obtain ⟨Bs, hBs⟩ : ∃ Bs, Bs = A.take i ++ A.drop (i + 1) := ⟨_, rfl⟩
          rw [← hBs] at f1 f2 f4 f6 f7 HO6'
          have F1 := Lib.hid f1
          have F5 := Lib.hid f5
          have F67 := Lib.hid (And.intro f6 f7)
          have HAb := Lib.hid (HB.out.trans (HB6.out.mono HB.out.size))
          have FA6 := Lib.hid (FA.out.later HB6.out (Nat.le_refl _))
          have FB6 := Lib.hid (HO6'.out.rd (Nat.le_trans F1.out.few (by omega)))
          obtain ⟨b, o, rv, hii, hc0, hc1, hre, hbl⟩ := FA6.out.get (i := i) (by rw [← HLN.out]; exact hil)
          obtain ⟨hce, hww⟩ := ZA.out.1.get (k := i) (by rw [← HLN.out]; exact hil)
          obtain ⟨p, hp⟩ : ∃ p, p = A.getD i default := ⟨_, rfl⟩
          rw [← hp] at hc1 hre hce hww f2 f3
          clear hBs hp f1 f5 f6 f7 HO6 HO6' HB HU1 HT1
          have HB := HAb
          clear HAb
          have C1 := Lib.hid (fun wz (hz : Below w6.heap.size w6 wz) => K.out.check wz v6 Bs (HB.out.trans (hz.mono HB.out.size)) (FB6.out.later hz (Nat.le_refl _)) F1.out.1)
          rw [F1.out.2] at C1
          have C2 := Lib.hid (fun wz (hz : Below w6.heap.size w6 wz) => K.out.weight wz v6 rv Bs p.1 (HB.out.trans (hz.mono HB.out.size)) (FB6.out.later hz (Nat.le_refl _)) (hre.later hz (Nat.le_refl _)) F1.out.1 hce)
          have C3 := Lib.hid (fun wz (hz : Below w6.heap.size w6 wz) => K.out.weight wz va rv A p.1 (HB.out.trans (hz.mono HB.out.size)) (FA6.out.later hz (Nat.le_refl _)) (hre.later hz (Nat.le_refl _)) ZA.out.1 hce)
          have C4 := Lib.hid (fun wz (hz : Below w6.heap.size w6 wz) => zset_Same va v6 A Bs wz (FA6.out.later hz (Nat.le_refl _)) (FB6.out.later hz (Nat.le_refl _)))
          rw [f2] at C2
          rw [f3] at C3
          rw [decide_eq_false f4] at C4
          obtain ⟨y, hy⟩ : ∃ y, y = p.2 := ⟨_, rfl⟩
          rw [← hy] at hc1 C3
          have HBr := Lib.hid ((Below.refl w6.heap.size w6).drew)
          have s0 := fun z : OrdR.GW (Below w6.heap.size) w6.drew => (z.grew.cell (p := ⟨b, o, none⟩) hbl).trans hc0
          clear f2 f3 f4 hy hre
          refine OrdR.wp_region_ord (R := Below w6.heap.size) below_way [(0, false), (1, false), (2, true), (3, false), (4, false), (5, false), (6, false), (7, false), (8, false), (9, false), (10, false), (11, false), (12, true), (13, false), (14, false), (15, false), (16, false), (17, false), (18, false), (19, false), (20, false), (21, false), (22, false), (24, false), (25, false), (26, false), (27, false), (28, false), (23, true), (29, false), (30, false), (31, false), (32, false), (33, false), (34, true), (35, false)] (by kernel_rfl) rfl (by kernel_rfl) (by kernel_rfl) (fun _ _ _ d _ h => by cases d <;> exact h) ?_
          refine OrdR.ord_still rfl rfl (by kernel_rfl) (fun K hK => ?_)
          go_big_quiet_op
          refine hK _ ?_; clear hK K
          refine OrdR.ord_still rfl rfl (by kernel_rfl) (fun K hK => ?_)
          go_big_quiet_op
          refine hK _ ?_; clear hK K
          refine OrdR.ord_loud rfl (by kernel_rfl) (fun K hK => ?_)
          go_big_op
          refine (C1.out _ HBr.out).mono ?_
          rintro e w7 ⟨rfl, hb⟩
          refine hK _ _ (hb.mono HBr.out.size) ?_
          replace HBr := Lib.hid (HBr.out.trans (hb.mono HBr.out.size))
          have s0 := fun z : OrdR.GW (Below w6.heap.size) w7 => ((HBr.out.trans z.grew).cell (p := ⟨b, o, none⟩) hbl).trans hc0
          have s1 := fun z : OrdR.GW (Below w6.heap.size) w7 => ((HBr.out.trans z.grew).cell (p := ⟨b, o + 1, none⟩) hbl).trans hc1
          clear hb hK K
          refine OrdR.ord_still rfl rfl (by kernel_rfl) (fun K hK => ?_)
          go_big_quiet_op
          refine hK _ ?_; clear hK K
          refine OrdR.ord_still rfl rfl (by kernel_rfl) (fun K hK => ?_)
          go_big_quiet_op
          refine hK _ ?_; clear hK K
          refine OrdR.ord_still rfl rfl (by kernel_rfl) (fun K hK => ?_)
          go_big_quiet_op
          refine hK _ ?_; clear hK K
          refine OrdR.ord_still rfl rfl (by kernel_rfl) (fun K hK => ?_)
          go_big_quiet_op
          refine hK _ ?_; clear hK K
          refine OrdR.ord_still rfl rfl (by kernel_rfl) (fun K hK => ?_)
          go_big_quiet_op
          refine hK _ ?_; clear hK K
          refine OrdR.ord_still rfl rfl (by kernel_rfl) (fun K hK => ?_)
          go_big_quiet_op
          refine hK _ ?_; clear hK K
          refine OrdR.ord_still rfl rfl (by kernel_rfl) (fun K hK => ?_)
          go_big_quiet_op
          refine hK _ ?_; clear hK K
          refine OrdR.ord_still rfl rfl (by kernel_rfl) (fun K hK => ?_)
          go_big_quiet_op
          refine hK _ ?_; clear hK K
          refine OrdR.ord_still rfl rfl (by kernel_rfl) (fun K hK => ?_)
          go_big_quiet_op
          refine hK _ ?_; clear hK K
          refine OrdR.ord_loud rfl (by kernel_rfl) (fun K hK => ?_)
          go_big_op
          refine (C2.out _ HBr.out).mono ?_
          rintro e w8 ⟨rfl, hb⟩
          refine hK _ _ (hb.mono HBr.out.size) ?_
          replace HBr := Lib.hid (HBr.out.trans (hb.mono HBr.out.size))
          have s0 := fun z : OrdR.GW (Below w6.heap.size) w8 => ((HBr.out.trans z.grew).cell (p := ⟨b, o, none⟩) hbl).trans hc0
          have s1 := fun z : OrdR.GW (Below w6.heap.size) w8 => ((HBr.out.trans z.grew).cell (p := ⟨b, o + 1, none⟩) hbl).trans hc1
          clear hb hK K
          refine OrdR.ord_still rfl rfl (by kernel_rfl) (fun K hK => ?_)
          go_big_quiet_op
          refine hK _ ?_; clear hK K
          refine OrdR.ord_still rfl rfl (by kernel_rfl) (fun K hK => ?_)
          go_big_quiet_op
          refine hK _ ?_; clear hK K
          refine OrdR.ord_still rfl rfl (by kernel_rfl) (fun K hK => ?_)
          go_big_quiet_op
          refine hK _ ?_; clear hK K
          refine OrdR.ord_still rfl rfl (by kernel_rfl) (fun K hK => ?_)
          go_big_quiet_op
          refine hK _ ?_; clear hK K
          refine OrdR.ord_still rfl rfl (by kernel_rfl) (fun K hK => ?_)
          go_big_quiet_op
          refine hK _ ?_; clear hK K
          refine OrdR.ord_still rfl rfl (by kernel_rfl) (fun K hK => ?_)
          go_big_quiet_op
          refine hK _ ?_; clear hK K
          refine OrdR.ord_still rfl rfl (by kernel_rfl) (fun K hK => ?_)
          go_big_quiet_op
          refine hK _ ?_; clear hK K
          refine OrdR.ord_still rfl rfl (by kernel_rfl) (fun K hK => ?_)
          go_big_quiet_op
          refine hK _ ?_; clear hK K
          refine OrdR.ord_still rfl rfl (by kernel_rfl) (fun K hK => ?_)
          go_big_quiet_op
          refine hK _ ?_; clear hK K
          refine OrdR.ord_still rfl rfl (by kernel_rfl) (fun K hK => ?_)
          go_big_quiet_op
          refine hK _ ?_; clear hK K
          refine OrdR.ord_still rfl rfl (by kernel_rfl) (fun K hK => ?_)
          go_big_quiet_op
          refine hK _ ?_; clear hK K
          refine OrdR.ord_still rfl rfl (by kernel_rfl) (fun K hK => ?_)
          go_big_quiet_op
          refine hK _ ?_; clear hK K
          refine OrdR.ord_still rfl rfl (by kernel_rfl) (fun K hK => ?_)
          go_big_quiet_op
          refine hK _ ?_; clear hK K
          refine OrdR.ord_still rfl rfl (by kernel_rfl) (fun K hK => ?_)
          go_big_quiet_op
          refine hK _ ?_; clear hK K
          refine OrdR.ord_still rfl rfl (by kernel_rfl) (fun K hK => ?_)
          go_big_quiet_op
          refine hK _ ?_; clear hK K
          refine OrdR.ord_loud rfl (by kernel_rfl) (fun K hK => ?_)
          go_big_op
          refine (C3.out _ HBr.out).mono ?_
          rintro e w9 ⟨rfl, hb⟩
          refine hK _ _ (hb.mono HBr.out.size) ?_
          replace HBr := Lib.hid (HBr.out.trans (hb.mono HBr.out.size))
          have s0 := fun z : OrdR.GW (Below w6.heap.size) w9 => ((HBr.out.trans z.grew).cell (p := ⟨b, o, none⟩) hbl).trans hc0
          have s1 := fun z : OrdR.GW (Below w6.heap.size) w9 => ((HBr.out.trans z.grew).cell (p := ⟨b, o + 1, none⟩) hbl).trans hc1
          clear hb hK K
          refine OrdR.ord_still rfl rfl (by kernel_rfl) (fun K hK => ?_)
          go_big_quiet_op
          refine hK _ ?_; clear hK K
          refine OrdR.ord_still rfl rfl (by kernel_rfl) (fun K hK => ?_)
          go_big_quiet_op
          refine hK _ ?_; clear hK K
          refine OrdR.ord_still rfl rfl (by kernel_rfl) (fun K hK => ?_)
          go_big_quiet_op
          refine hK _ ?_; clear hK K
          refine OrdR.ord_still rfl rfl (by kernel_rfl) (fun K hK => ?_)
          go_big_quiet_op
          refine hK _ ?_; clear hK K
          refine OrdR.ord_still rfl rfl (by kernel_rfl) (fun K hK => ?_)
          go_big_quiet_op
          refine hK _ ?_; clear hK K
          refine OrdR.ord_loud rfl (by kernel_rfl) (fun K hK => ?_)
          go_big_op
          refine (C4.out _ HBr.out).mono ?_
          rintro e w10 ⟨rfl, hb⟩
          refine hK _ _ (hb.mono HBr.out.size) ?_
          replace HBr := Lib.hid (HBr.out.trans (hb.mono HBr.out.size))
          have s0 := fun z : OrdR.GW (Below w6.heap.size) w10 => ((HBr.out.trans z.grew).cell (p := ⟨b, o, none⟩) hbl).trans hc0
          have s1 := fun z : OrdR.GW (Below w6.heap.size) w10 => ((HBr.out.trans z.grew).cell (p := ⟨b, o + 1, none⟩) hbl).trans hc1
          clear hb hK K
          refine OrdR.ord_still rfl rfl (by kernel_rfl) (fun K hK => ?_)
          go_big_quiet_op
          refine hK _ ?_; clear hK K
          refine OrdR.ord_nil ?_
          have HB9 := Lib.hid (HB.out.trans (HBr.out.mono HB.out.size))
          have FA9 := Lib.hid (FA6.out.later HBr.out (Nat.le_refl _))
          have FB9 := Lib.hid (FB6.out.later HBr.out (Nat.le_refl _))
          have hw1 : IntKind.i64.wrap ((i : Int) + 1) = (i : Int) + 1 := IntWalk.i64_in _ (by omega)
          obtain ⟨vc, hvc0, hvc2⟩ := FA9.out.cut i (i + 1) (by omega) (by rw [← HLN.out]; omega)
          have hvc : ∀ u, (Instr.slice 23 va (some (.int .i64 (i : Int))) (some (.int .i64 ((i : Int) + 1))) none).run Tryz.prog u = .ok vc u := hvc0
          have FC9 := Lib.hid (hvc2 _ (Nat.le_refl _) (Below.refl _ _))
          have SM := Lib.hid (K.out.sum w10 v6 vc Bs ((A.take (i + 1)).drop i) HB9.out FB9.out FC9.out F1.out.1 F5.out.1)
          rw [F67.out.1, F67.out.2] at SM
          clear hvc0 hvc2 C1 C2 C3 C4 s0 hc0 hc1 hii HB FA6 FB6 HBr
          go_wp2_with fail
          refine SM.out.mono ?_
          rintro e w11 ⟨vs, rfl, hrs, hb⟩
          have HB := Lib.hid (HB9.out.trans (hb.mono HB9.out.size))
          have FS := Lib.hid hrs
          have FA := Lib.hid (FA9.out.later hb (Nat.le_refl _))
          clear hb hrs SM HB9
          go_wp2_with fail
          refine (zset_Same vs va _ _ _ FS.out FA.out).mono ?_
          rintro e w12 ⟨rfl, hb⟩
          replace HB := Lib.hid (HB.out.trans (hb.mono HB.out.size))
          rw [decide_eq_true (rfl : A = A)]
          clear hb
          go_wp2
          go_ret
          exact ⟨rfl, HB.out⟩
      · have qx : ((x : Int) != 0) = true := by rw [bne_iff_ne]; omega
        go_wp2_with fail
        refine (K.out.alive _ HB.out).mono ?_
        rintro e w5 ⟨rfl, hb⟩
        replace HB := Lib.hid (HB.out.trans (hb.mono HB.out.size))
        replace FA := Lib.hid (FA.out.later hb (Nat.le_refl _))
        clear hb
        go_wp2
        go_ret
        exact ⟨rfl, HB.out⟩
  · go_wp2_with fail
    refine (K.out.alive _ HB.out).mono ?_
    rintro e w3 ⟨rfl, hb⟩
    replace HB := Lib.hid (HB.out.trans (hb.mono HB.out.size))
    clear hb
    go_wp2
    go_ret
    exact ⟨rfl, HB.out⟩

end Go.Proofs.YtfpidkcdgebnpaaGreatDoor
