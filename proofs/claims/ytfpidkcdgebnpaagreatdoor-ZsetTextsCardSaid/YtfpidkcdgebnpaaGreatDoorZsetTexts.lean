/-
  ZsetTexts: of any set the text is the document's, or why there is none, and of any text the set, or why there is none. For every input.
-/
import Derived.Test.YtfpidkcdgebnpaaGreatDoorGZDefs
import Derived.Test.YtfpidkcdgebnpaaGreatDoorGZEnd
import Derived.Test.YtfpidkcdgebnpaaGreatDoorZRefText
import Derived.Test.YtfpidkcdgebnpaaGreatDoorZRefRead
set_option linter.unusedVariables false
set_option linter.unusedSimpArgs false
set_option maxRecDepth 1000000
namespace Go.Proofs.YtfpidkcdgebnpaaGreatDoor
open Go.RowKit Go.Shelf

set_option maxHeartbeats 16000000 in
theorem zsetTexts_walk (v1 : Value) (cs : List ColB) (x0 : Value) (a : List PairB) (s : ByteArray) (l : List UInt8) (w : World) (hR : RdC w v1 cs) (hC : CS cs) (hA : RdP w x0 a ∧ PSO a ∧ a.length * 32 ≤ 140737488351232) (hs : RdS s l) (hT : Tabs w) (hL : Lib4 w) (hX : Mx w) :
    Calls Tryz.prog 5 #[v1, x0, .string s] w fun e w' => e = .returned (.bool true) ∧ Below w.heap.size w w' := by
  have K := Lib.hid (lawK v1 cs w hR hC hT hL hX)
  have hl1 := hR.len
  have hsm1 := hR.small
  have hla := hA.1.len
  have hsma := hA.1.small
  have hls := hs.len
  have hss := hs.small
  have R1 := Lib.hid (fun wz (hz : Below w.heap.size w wz) => hR.later hz (Nat.le_refl _))
  have RA := Lib.hid (fun wz (hz : Below w.heap.size w wz) => hA.1.later hz (Nat.le_refl _))
  have PA := Lib.hid hA.2
  have HS := Lib.hid hs
  obtain ⟨ao0, no0, co0, rfl⟩ := hA.1.lit
  obtain ⟨n, hn⟩ : ∃ n, n = cs.length := ⟨_, rfl⟩
  obtain ⟨m, hm⟩ : ∃ m, m = a.length := ⟨_, rfl⟩
  obtain ⟨q9, hq9⟩ : ∃ q9, q9 = l.length := ⟨_, rfl⟩
  rw [← hn] at hl1 hsm1
  rw [← hm] at hla hsma
  rw [← hq9] at hls hss
  have HQ9 := Lib.hid hq9
  have GR := Lib.hid (fun wz (hz : Below w.heap.size w wz) => great_one8 (.slice ao0 no0 co0) a wz (RA.out wz hz))
  have TX := Lib.hid (fun wz (h : Below w.heap.size w wz) => zset_Text v1 (.slice ao0 no0 co0) cs a wz (R1.out wz h) (RA.out wz h) hC PA.out.1 (hL.l3.later h))
  have RD := Lib.hid (fun wz (h : Below w.heap.size w wz) (hl : q9 ≤ 2000) => zset_Read v1 s cs l wz (R1.out wz h) HS.out hC (by rw [← HQ9.out]; omega) (hL.later h) (hX.later h))
  have RF := Lib.hid (fun wz (h : Below w.heap.size w wz) (hl : q9 ≤ 2000) => ref_Read08 v1 s cs l wz (R1.out wz h) HS.out hC (by rw [← HQ9.out]; omega))
  have KB := Lib.hid (fun wz h => ref_Check08 v1 (.slice ao0 no0 co0) cs a wz (R1.out wz h) (RA.out wz h) hC PA.out.1)
  have TF := Lib.hid (fun wz (h : Below w.heap.size w wz) (h0 : chkZ cs a = 0) => ref_Text08 v1 (.slice ao0 no0 co0) cs a wz (R1.out wz h) (RA.out wz h) hC PA.out.1 h0)
  obtain ⟨x, hx⟩ : ∃ x, x = rdZe cs l := ⟨_, rfl⟩
  obtain ⟨y, hy⟩ : ∃ y, y = chkZ cs a := ⟨_, rfl⟩
  unfold RdSet at RD RF
  unfold TxZ at TX
  rw [← hx] at RD RF
  rw [← hy] at KB TX TF
  clear hR hA hT hL hX hn hm hx hs hq9 hy
  have HB := Lib.hid (Below.refl w.heap.size w)
  go_enter Tryz.func5, Tryz.ntmps5
  go_wp2_with fail
  refine (K.out.alive _ HB.out).mono ?_
  rintro e w2 ⟨rfl, hb⟩
  replace HB := Lib.hid (HB.out.trans (hb.mono HB.out.size))
  clear hb
  go_wp2_with fail
  refine (GR.out _ HB.out).mono ?_
  rintro e w3 ⟨q, rfl, hq, hb⟩
  replace HB := Lib.hid (HB.out.trans (hb.mono HB.out.size))
  clear hb GR
  rcases hq with rfl | rfl
  · by_cases hn30 : 30 < n
    · go_wp2_with fail
      refine (K.out.alive _ HB.out).mono ?_
      rintro e w4 ⟨rfl, hb⟩
      replace HB := Lib.hid (HB.out.trans (hb.mono HB.out.size))
      clear hb
      go_wp2
      go_ret
      exact ⟨rfl, HB.out⟩
    · by_cases hm2 : 100 < m
      · go_wp2_with fail
        refine (K.out.alive _ HB.out).mono ?_
        rintro e w4 ⟨rfl, hb⟩
        replace HB := Lib.hid (HB.out.trans (hb.mono HB.out.size))
        clear hb
        go_wp2
        go_ret
        exact ⟨rfl, HB.out⟩
      · by_cases hq2 : 2000 < q9
        · go_wp2_with fail
          refine (K.out.alive _ HB.out).mono ?_
          rintro e w4 ⟨rfl, hb⟩
          replace HB := Lib.hid (HB.out.trans (hb.mono HB.out.size))
          clear hb
          go_wp2
          go_ret
          exact ⟨rfl, HB.out⟩
        · go_wp2_with fail
          refine (TX.out _ HB.out).mono ?_
          rintro e w4 ⟨t4, rfl, hb, ht4⟩
          replace HB := Lib.hid (HB.out.trans (hb.mono HB.out.size))
          have HT4 := Lib.hid ht4
          clear hb ht4 TX
          go_wp2_with fail
          refine (RD.out _ HB.out (by omega)).mono ?_
          rintro e w5 ⟨va, rfl, hra, hb⟩
          replace HB := Lib.hid (HB.out.trans (hb.mono HB.out.size))
          have FA := Lib.hid hra
          clear hb hra RD
          go_wp2_with fail
          refine (RF.out _ HB.out (by omega)).mono ?_
          rintro e w6 ⟨vb, rfl, hrb, hb⟩
          replace FA := Lib.hid (FA.out.later hb (Nat.le_refl _))
          replace HB := Lib.hid (HB.out.trans (hb.mono HB.out.size))
          have SM := Lib.hid (ref_Same08 va vb _ _ w6 FA.out hrb)
          rw [decide_eq_true rfl] at SM
          clear hb hrb RF FA
          go_wp2_with fail
          refine SM.out.mono ?_
          rintro e w7 ⟨rfl, hb⟩
          replace HB := Lib.hid (HB.out.trans (hb.mono HB.out.size))
          have hxx : ((x : Int) != (x : Int)) = false := by simp
          clear hb SM
          go_wp2_with fail
          refine (KB.out _ HB.out).mono ?_
          rintro e w8 ⟨rfl, hb⟩
          replace HB := Lib.hid (HB.out.trans (hb.mono HB.out.size))
          clear hb KB
          by_cases hy0 : y = 0
          · subst hy0
            have HTT := Lib.hid (show RdS t4 (textZ cs a) from by
              rcases HT4.out with ⟨h9, _⟩ | ⟨_, h9⟩
              · exact absurd rfl h9
              · exact h9)
            go_wp2_with fail
            refine (TF.out _ HB.out (by trivial)).mono ?_
            rintro e w9 ⟨⟨t9, rfl, ht9⟩, hb⟩
            replace HB := Lib.hid (HB.out.trans (hb.mono HB.out.size))
            have heq : t9 = t4 := by rw [ht9.eq, HTT.out.eq]
            subst heq
            clear hb ht9 TF
            have htt : (t9.toList == t9.toList) = true := by simp
            go_wp2
            go_ret
            exact ⟨rfl, HB.out⟩
          · have hte : t4 = ⟨#[]⟩ := by
              rcases HT4.out with ⟨_, h9⟩ | ⟨h9, _⟩
              · exact h9
              · exact absurd h9 hy0
            subst hte
            have q : ((y : Int) != 0) = true := by rw [bne_iff_ne]; omega
            have qq : ((y : Int) == (y : Int)) = true := by simp
            clear TF
            go_wp2
            go_ret
            exact ⟨rfl, HB.out⟩
  · go_wp2_with fail
    refine (K.out.alive _ HB.out).mono ?_
    rintro e w4 ⟨rfl, hb⟩
    replace HB := Lib.hid (HB.out.trans (hb.mono HB.out.size))
    clear hb
    go_wp2
    go_ret
    exact ⟨rfl, HB.out⟩

end Go.Proofs.YtfpidkcdgebnpaaGreatDoor
