/-
  ZsetCollects: of any schema and any pairs the set is the document's, or why there is none, and what is wrong with them as one. For every input.
-/
import Derived.Test.YtfpidkcdgebnpaaGreatDoorGZDefs
import Derived.Test.YtfpidkcdgebnpaaGreatDoorGZEnd
import Derived.Test.YtfpidkcdgebnpaaGreatDoorGZRefB
set_option linter.unusedVariables false
set_option linter.unusedSimpArgs false
set_option maxRecDepth 1000000
namespace Go.Proofs.YtfpidkcdgebnpaaGreatDoor
open Go.RowKit Go.Shelf

set_option maxHeartbeats 16000000 in
theorem zsetCollects_walk (v1 : Value) (cs : List ColB) (x0 : Value) (a : List PairB) (w : World) (hR : RdC w v1 cs) (hC : CS cs) (hA : RdP w x0 a ∧ PSO a ∧ a.length * 32 ≤ 140737488351232) (hT : Tabs w) (hL : Lib4 w) (hX : Mx w) :
    Calls Tryz.prog 3 #[v1, x0] w fun e w' => e = .returned (.bool true) ∧ Below w.heap.size w w' := by
  have K := Lib.hid (lawK v1 cs w hR hC hT hL hX)
  have hl1 := hR.len
  have hsm1 := hR.small
  have hla := hA.1.len
  have hsma := hA.1.small
  have R1 := Lib.hid (fun wz (hz : Below w.heap.size w wz) => hR.later hz (Nat.le_refl _))
  have RA := Lib.hid (fun wz (hz : Below w.heap.size w wz) => hA.1.later hz (Nat.le_refl _))
  have PA := Lib.hid hA.2
  obtain ⟨ao0, no0, co0, rfl⟩ := hA.1.lit
  obtain ⟨n, hn⟩ : ∃ n, n = cs.length := ⟨_, rfl⟩
  obtain ⟨m, hm⟩ : ∃ m, m = a.length := ⟨_, rfl⟩
  rw [← hn] at hl1 hsm1
  rw [← hm] at hla hsma
  have HMM := Lib.hid hm
  have GR := Lib.hid (fun wz (hz : Below w.heap.size w wz) => great_one8 (.slice ao0 no0 co0) a wz (RA.out wz hz))
  have CA := Lib.hid (fun wz h => K.out.collect wz _ a h (RA.out wz h) PA.out.1 (by have := PA.out.2; omega))
  have CB := Lib.hid (fun wz h (hl : m ≤ 200) => ref_Collect08 v1 (.slice ao0 no0 co0) cs a wz (R1.out wz h) (RA.out wz h) hC PA.out.1 (by rw [HMM.out] at hl; omega))
  have KA := Lib.hid (fun wz h => K.out.check wz _ a h (RA.out wz h) PA.out.1)
  have KB := Lib.hid (fun wz h => ref_Check08 v1 (.slice ao0 no0 co0) cs a wz (R1.out wz h) (RA.out wz h) hC PA.out.1)
  obtain ⟨x, hx⟩ : ∃ x, x = clcE cs a := ⟨_, rfl⟩
  obtain ⟨y, hy⟩ : ∃ y, y = chkZ cs a := ⟨_, rfl⟩
  rw [← hx] at CA CB
  rw [← hy] at KA KB
  clear hR hA hT hL hX hn hm hx hy
  have HB := Lib.hid (Below.refl w.heap.size w)
  go_enter Tryz.func3, Tryz.ntmps3
  go_wp2_with fail
  refine (K.out.alive _ HB.out).mono ?_
  rintro e w2 ⟨rfl, hb⟩
  replace HB := Lib.hid (HB.out.trans (hb.mono HB.out.size))
  clear hb
  go_wp2_with fail
  refine (GR.out _ HB.out).mono ?_
  rintro e w3 ⟨q, rfl, hq, hb⟩
  replace HB := Lib.hid (HB.out.trans (hb.mono HB.out.size))
  clear hb GR
  rcases hq with rfl | rfl
  · by_cases hn30 : 30 < n
    · go_wp2_with fail
      refine (K.out.alive _ HB.out).mono ?_
      rintro e w4 ⟨rfl, hb⟩
      replace HB := Lib.hid (HB.out.trans (hb.mono HB.out.size))
      clear hb
      go_wp2
      go_ret
      exact ⟨rfl, HB.out⟩
    · by_cases hm2 : 200 < m
      · go_wp2_with fail
        refine (K.out.alive _ HB.out).mono ?_
        rintro e w4 ⟨rfl, hb⟩
        replace HB := Lib.hid (HB.out.trans (hb.mono HB.out.size))
        clear hb
        go_wp2
        go_ret
        exact ⟨rfl, HB.out⟩
      · go_wp2_with fail
        refine (CA.out _ HB.out).mono ?_
        rintro e w4 ⟨va, rfl, hra, hb⟩
        replace HB := Lib.hid (HB.out.trans (hb.mono HB.out.size))
        have FA := Lib.hid hra
        clear hb hra
        go_wp2_with fail
        refine (CB.out _ HB.out (by omega)).mono ?_
        rintro e w5 ⟨vb, rfl, hrb, hb⟩
        replace HB := Lib.hid (HB.out.trans (hb.mono HB.out.size))
        replace FA := Lib.hid (FA.out.later hb (Nat.le_refl _))
        have FB := Lib.hid hrb
        clear hb hrb
        go_wp2_with fail
        refine (ref_Same08 va vb _ _ _ FA.out FB.out).mono ?_
        rintro e w6 ⟨rfl, hb⟩
        replace HB := Lib.hid (HB.out.trans (hb.mono HB.out.size))
        replace FA := Lib.hid (FA.out.later hb (Nat.le_refl _))
        replace FB := Lib.hid (FB.out.later hb (Nat.le_refl _))
        clear hb
        rw [decide_eq_true (rfl : clcO cs a = clcO cs a)]
        go_wp2_with fail
        refine (KA.out _ HB.out).mono ?_
        rintro e w7 ⟨rfl, hb⟩
        replace HB := Lib.hid (HB.out.trans (hb.mono HB.out.size))
        replace FA := Lib.hid (FA.out.later hb (Nat.le_refl _))
        replace FB := Lib.hid (FB.out.later hb (Nat.le_refl _))
        clear hb
        go_wp2_with fail
        refine (KB.out _ HB.out).mono ?_
        rintro e w8 ⟨rfl, hb⟩
        replace HB := Lib.hid (HB.out.trans (hb.mono HB.out.size))
        replace FA := Lib.hid (FA.out.later hb (Nat.le_refl _))
        replace FB := Lib.hid (FB.out.later hb (Nat.le_refl _))
        clear hb
        go_wp2
        go_ret
        exact ⟨rfl, HB.out⟩
  · go_wp2_with fail
    refine (K.out.alive _ HB.out).mono ?_
    rintro e w4 ⟨rfl, hb⟩
    replace HB := Lib.hid (HB.out.trans (hb.mono HB.out.size))
    clear hb
    go_wp2
    go_ret
    exact ⟨rfl, HB.out⟩

end Go.Proofs.YtfpidkcdgebnpaaGreatDoor
