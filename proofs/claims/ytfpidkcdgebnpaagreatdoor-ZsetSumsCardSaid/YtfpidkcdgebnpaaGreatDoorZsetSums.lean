/-
  ZsetSums: of any two sets the sum, and the other sign, are the document's, or why there are none, how often a row is there, and whether two are the same. For every input.
-/
import Derived.Test.YtfpidkcdgebnpaaGreatDoorGZDefs
import Derived.Test.YtfpidkcdgebnpaaGreatDoorGZEnd
import Derived.Test.YtfpidkcdgebnpaaGreatDoorGZRefB
set_option linter.unusedVariables false
set_option linter.unusedSimpArgs false
set_option maxRecDepth 1000000
namespace Go.Proofs.YtfpidkcdgebnpaaGreatDoor
open Go.RowKit Go.Shelf

set_option maxHeartbeats 16000000 in
theorem zsetSums_walk (v1 : Value) (cs : List ColB) (x0 x1 : Value) (a b : List PairB) (x2 : Value) (r : List CellB) (w : World) (hR : RdC w v1 cs) (hC : CS cs) (hA : RdP w x0 a ∧ PSO a ∧ a.length * 32 ≤ 140737488351232) (hB : RdP w x1 b ∧ PSO b ∧ b.length * 32 ≤ 140737488351232) (hE : RdE w x2 r) (hCE : CES r) (hT : Tabs w) (hL : Lib4 w) (hX : Mx w) :
    Calls Tryz.prog 4 #[v1, .agg #[x0, x1], x2] w fun e w' => e = .returned (.bool true) ∧ Below w.heap.size w w' := by
  have K := Lib.hid (lawK v1 cs w hR hC hT hL hX)
  have hl1 := hR.len
  have hsm1 := hR.small
  have hla := hA.1.len
  have hsma := hA.1.small
  have hlb := hB.1.len
  have hsmb := hB.1.small
  have hlr := hE.len
  have hsmr := hE.small
  have R1 := Lib.hid (fun wz (hz : Below w.heap.size w wz) => hR.later hz (Nat.le_refl _))
  have RA := Lib.hid (fun wz (hz : Below w.heap.size w wz) => hA.1.later hz (Nat.le_refl _))
  have RB := Lib.hid (fun wz (hz : Below w.heap.size w wz) => hB.1.later hz (Nat.le_refl _))
  have RE := Lib.hid (fun wz (hz : Below w.heap.size w wz) => hE.later hz (Nat.le_refl _))
  have PA := Lib.hid hA.2
  have PB := Lib.hid hB.2
  obtain ⟨ao0, no0, co0, rfl⟩ := hA.1.lit
  obtain ⟨ao1, no1, co1, rfl⟩ := hB.1.lit
  obtain ⟨n, hn⟩ : ∃ n, n = cs.length := ⟨_, rfl⟩
  obtain ⟨m, hm⟩ : ∃ m, m = a.length := ⟨_, rfl⟩
  obtain ⟨k, hk⟩ : ∃ k, k = b.length := ⟨_, rfl⟩
  obtain ⟨l, hl⟩ : ∃ l, l = r.length := ⟨_, rfl⟩
  rw [← hn] at hl1 hsm1
  rw [← hm] at hla hsma
  rw [← hk] at hlb hsmb
  rw [← hl] at hlr hsmr
  have hbx := (Below.refl w.heap.size w).alloc (Nat.le_refl _) (.cells #[.slice ao0 no0 co0, .slice ao1 no1 co1] 35)
  have hg0 := heap_alloc_new w (.cells #[.slice ao0 no0 co0, .slice ao1 no1 co1] 35)
  have g0 := cell_of_row _ _ 0 _ _ _ hg0
  have g1 := cell_of_row _ _ 1 _ _ _ hg0
  simp only [List.getElem?_toArray, List.getElem?_cons_zero, List.getElem?_cons_succ] at g0 g1
  have HB := Lib.hid hbx
  have GR := Lib.hid (fun wz (hz : Below w.heap.size w wz) => great_two8 (.slice ao0 no0 co0) (.slice ao1 no1 co1) a b wz (RA.out wz hz) (RB.out wz hz))
  have SA := Lib.hid (fun wz h => K.out.sum wz _ _ a b h (RA.out wz h) (RB.out wz h) PA.out.1 PB.out.1)
  have SB := Lib.hid (fun wz h => ref_Sum08 v1 (.slice ao0 no0 co0) (.slice ao1 no1 co1) cs a b wz (R1.out wz h) (RA.out wz h) (RB.out wz h) hC PA.out.1 PB.out.1)
  have NA := Lib.hid (fun wz h => K.out.neg wz _ a h (RA.out wz h) PA.out.1)
  have NB := Lib.hid (fun wz h => ref_Neg08 v1 (.slice ao0 no0 co0) cs a wz (R1.out wz h) (RA.out wz h) hC PA.out.1)
  have WA := Lib.hid (fun wz h => K.out.weight wz _ _ a r h (RA.out wz h) (RE.out wz h) PA.out.1 hCE)
  have WB := Lib.hid (fun wz h => ref_Weight08 v1 (.slice ao0 no0 co0) x2 cs a r wz (R1.out wz h) (RA.out wz h) (RE.out wz h) hC PA.out.1 hCE)
  obtain ⟨x, hx⟩ : ∃ x, x = sumE cs a b := ⟨_, rfl⟩
  obtain ⟨y, hy⟩ : ∃ y, y = negE cs a := ⟨_, rfl⟩
  obtain ⟨z, hz⟩ : ∃ z, z = wgt cs a r := ⟨_, rfl⟩
  rw [← hx] at SA SB
  rw [← hy] at NA NB
  rw [← hz] at WA WB
  obtain ⟨p, hp⟩ : ∃ p, p = decide (a = b) := ⟨_, rfl⟩
  have EA := Lib.hid (fun wz h => zset_Same _ _ a b wz (RA.out wz h) (RB.out wz h))
  have EB := Lib.hid (fun wz h => ref_Same08 _ _ a b wz (RA.out wz h) (RB.out wz h))
  have EC := Lib.hid (fun wz h => zset_Same _ _ a a wz (RA.out wz h) (RA.out wz h))
  rw [← hp] at EA EB
  rw [decide_eq_true (rfl : a = a)] at EC
  clear hR hA hB hE hT hL hX hn hm hk hl hx hy hz hp hbx hg0
  go_enter Tryz.func4, Tryz.ntmps4
  go_wp2
  go_quiet (fail)
  have hdq : Below (w.alloc (.cells #[.slice ao0 no0 co0, .slice ao1 no1 co1] 35)).heap.size (w.alloc (.cells #[.slice ao0 no0 co0, .slice ao1 no1 co1] 35)) ((w.alloc (.cells #[.slice ao0 no0 co0, .slice ao1 no1 co1] 35)).drewN nq) := _root_.Go.below_drewN (Below.refl _ _) nq
  replace HB := Lib.hid (HB.out.trans (hdq.mono HB.out.size))
  clear hdq g0 g1
  generalize (w.alloc (.cells #[.slice ao0 no0 co0, .slice ao1 no1 co1] 35)).drewN nq = w1 at *
  go_wp2_with fail
  refine (K.out.alive _ HB.out).mono ?_
  rintro e w2 ⟨rfl, hb⟩
  replace HB := Lib.hid (HB.out.trans (hb.mono HB.out.size))
  clear hb
  go_wp2_with fail
  refine (GR.out _ HB.out).mono ?_
  rintro e w3 ⟨q, rfl, hq, hb⟩
  replace HB := Lib.hid (HB.out.trans (hb.mono HB.out.size))
  clear hb GR
  rcases hq with rfl | rfl
  · by_cases hn30 : 30 < n
    · go_wp2_with fail
      refine (K.out.alive _ HB.out).mono ?_
      rintro e w4 ⟨rfl, hb⟩
      replace HB := Lib.hid (HB.out.trans (hb.mono HB.out.size))
      clear hb
      go_wp2
      go_ret
      exact ⟨rfl, HB.out⟩
    · by_cases hm2 : 100 < m
      · go_wp2_with fail
        refine (K.out.alive _ HB.out).mono ?_
        rintro e w4 ⟨rfl, hb⟩
        replace HB := Lib.hid (HB.out.trans (hb.mono HB.out.size))
        clear hb
        go_wp2
        go_ret
        exact ⟨rfl, HB.out⟩
      · by_cases hk2 : 100 < k
        · go_wp2_with fail
          refine (K.out.alive _ HB.out).mono ?_
          rintro e w4 ⟨rfl, hb⟩
          replace HB := Lib.hid (HB.out.trans (hb.mono HB.out.size))
          clear hb
          go_wp2
          go_ret
          exact ⟨rfl, HB.out⟩
        · by_cases hl2 : 100 < l
          · go_wp2_with fail
            refine (K.out.alive _ HB.out).mono ?_
            rintro e w4 ⟨rfl, hb⟩
            replace HB := Lib.hid (HB.out.trans (hb.mono HB.out.size))
            clear hb
            go_wp2
            go_ret
            exact ⟨rfl, HB.out⟩
          · go_wp2_with fail
            refine (SA.out _ HB.out).mono ?_
            rintro e w4 ⟨va, rfl, hra, hb⟩
            replace HB := Lib.hid (HB.out.trans (hb.mono HB.out.size))
            have FA := Lib.hid hra
            clear hb hra
            go_wp2_with fail
            refine (SB.out _ HB.out).mono ?_
            rintro e w5 ⟨vb, rfl, hrb, hb⟩
            replace HB := Lib.hid (HB.out.trans (hb.mono HB.out.size))
            replace FA := Lib.hid (FA.out.later hb (Nat.le_refl _))
            have FB := Lib.hid hrb
            clear hb hrb
            go_wp2_with fail
            refine (NA.out _ HB.out).mono ?_
            rintro e w6 ⟨vc, rfl, hrc, hb⟩
            replace HB := Lib.hid (HB.out.trans (hb.mono HB.out.size))
            replace FA := Lib.hid (FA.out.later hb (Nat.le_refl _))
            replace FB := Lib.hid (FB.out.later hb (Nat.le_refl _))
            have FC := Lib.hid hrc
            clear hb hrc
            go_wp2_with fail
            refine (NB.out _ HB.out).mono ?_
            rintro e w7 ⟨vd, rfl, hrd, hb⟩
            replace HB := Lib.hid (HB.out.trans (hb.mono HB.out.size))
            replace FA := Lib.hid (FA.out.later hb (Nat.le_refl _))
            replace FB := Lib.hid (FB.out.later hb (Nat.le_refl _))
            replace FC := Lib.hid (FC.out.later hb (Nat.le_refl _))
            have FD := Lib.hid hrd
            clear hb hrd
            go_wp2_with fail
            refine (ref_Same08 va vb _ _ _ FA.out FB.out).mono ?_
            rintro e w8 ⟨rfl, hb⟩
            replace HB := Lib.hid (HB.out.trans (hb.mono HB.out.size))
            replace FA := Lib.hid (FA.out.later hb (Nat.le_refl _))
            replace FB := Lib.hid (FB.out.later hb (Nat.le_refl _))
            replace FC := Lib.hid (FC.out.later hb (Nat.le_refl _))
            replace FD := Lib.hid (FD.out.later hb (Nat.le_refl _))
            clear hb
            rw [decide_eq_true (rfl : sumO cs a b = sumO cs a b)]
            go_wp2_with fail
            refine (ref_Same08 vc vd _ _ _ FC.out FD.out).mono ?_
            rintro e w9 ⟨rfl, hb⟩
            replace HB := Lib.hid (HB.out.trans (hb.mono HB.out.size))
            replace FA := Lib.hid (FA.out.later hb (Nat.le_refl _))
            replace FB := Lib.hid (FB.out.later hb (Nat.le_refl _))
            replace FC := Lib.hid (FC.out.later hb (Nat.le_refl _))
            replace FD := Lib.hid (FD.out.later hb (Nat.le_refl _))
            clear hb
            rw [decide_eq_true (rfl : negO cs a = negO cs a)]
            go_wp2_with fail
            refine (WA.out _ HB.out).mono ?_
            rintro e w10 ⟨rfl, hb⟩
            replace HB := Lib.hid (HB.out.trans (hb.mono HB.out.size))
            replace FA := Lib.hid (FA.out.later hb (Nat.le_refl _))
            replace FB := Lib.hid (FB.out.later hb (Nat.le_refl _))
            replace FC := Lib.hid (FC.out.later hb (Nat.le_refl _))
            replace FD := Lib.hid (FD.out.later hb (Nat.le_refl _))
            clear hb
            go_wp2_with fail
            refine (WB.out _ HB.out).mono ?_
            rintro e w11 ⟨rfl, hb⟩
            replace HB := Lib.hid (HB.out.trans (hb.mono HB.out.size))
            replace FA := Lib.hid (FA.out.later hb (Nat.le_refl _))
            replace FB := Lib.hid (FB.out.later hb (Nat.le_refl _))
            replace FC := Lib.hid (FC.out.later hb (Nat.le_refl _))
            replace FD := Lib.hid (FD.out.later hb (Nat.le_refl _))
            clear hb
            go_wp2_with fail
            refine (EA.out _ HB.out).mono ?_
            rintro e w12 ⟨rfl, hb⟩
            replace HB := Lib.hid (HB.out.trans (hb.mono HB.out.size))
            replace FA := Lib.hid (FA.out.later hb (Nat.le_refl _))
            replace FB := Lib.hid (FB.out.later hb (Nat.le_refl _))
            replace FC := Lib.hid (FC.out.later hb (Nat.le_refl _))
            replace FD := Lib.hid (FD.out.later hb (Nat.le_refl _))
            clear hb
            go_wp2_with fail
            refine (EB.out _ HB.out).mono ?_
            rintro e w13 ⟨rfl, hb⟩
            replace HB := Lib.hid (HB.out.trans (hb.mono HB.out.size))
            replace FA := Lib.hid (FA.out.later hb (Nat.le_refl _))
            replace FB := Lib.hid (FB.out.later hb (Nat.le_refl _))
            replace FC := Lib.hid (FC.out.later hb (Nat.le_refl _))
            replace FD := Lib.hid (FD.out.later hb (Nat.le_refl _))
            clear hb
            go_wp2_with fail
            refine (EC.out _ HB.out).mono ?_
            rintro e w14 ⟨rfl, hb⟩
            replace HB := Lib.hid (HB.out.trans (hb.mono HB.out.size))
            replace FA := Lib.hid (FA.out.later hb (Nat.le_refl _))
            replace FB := Lib.hid (FB.out.later hb (Nat.le_refl _))
            replace FC := Lib.hid (FC.out.later hb (Nat.le_refl _))
            replace FD := Lib.hid (FD.out.later hb (Nat.le_refl _))
            clear hb
            go_wp2
            go_ret
            exact ⟨rfl, HB.out⟩
  · go_wp2_with fail
    refine (K.out.alive _ HB.out).mono ?_
    rintro e w4 ⟨rfl, hb⟩
    replace HB := Lib.hid (HB.out.trans (hb.mono HB.out.size))
    clear hb
    go_wp2
    go_ret
    exact ⟨rfl, HB.out⟩

end Go.Proofs.YtfpidkcdgebnpaaGreatDoor
