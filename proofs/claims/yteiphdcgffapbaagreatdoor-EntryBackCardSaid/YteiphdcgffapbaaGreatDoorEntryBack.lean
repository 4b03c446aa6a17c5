/-
  EntryBack: the law's own walk.
-/
import Derived.Test.YteiphdcgffapbaaGreatDoorGEntL
import Derived.Test.YteiphdcgffapbaaGreatDoorGEntP
import Derived.Test.YteiphdcgffapbaaGreatDoorEntWrite
import Derived.Test.YteiphdcgffapbaaGreatDoorEntRead
import Derived.Test.YteiphdcgffapbaaGreatDoorEntRef
set_option linter.unusedVariables false
set_option linter.unusedSimpArgs false
set_option maxRecDepth 1000000
namespace Go.Proofs.YteiphdcgffapbaaGreatDoor
open Go.RowKit Go.Shelf

set_option maxHeartbeats 16000000 in
theorem entryBack_walk (v1 : Value) (cs : List ColB) (ev : Value) (x : EntB) (b : Value) (l : List UInt8) (w : World) (hR : RdC w v1 cs) (hC : CS cs) (hE : RdN w ev x ∧ EnO x) (hB : Rd w b l) (hT : Tabs w) (hF : Frs w) :
    Calls Tryz.prog 6 #[v1, ev, b] w fun e w' => e = .returned (.bool true) ∧ Below w.heap.size w w' := by
  have AL := Lib.hid (fun wz (hz : Below w.heap.size w wz) => law12_alive wz (hT.later hz))
  have WG := Lib.hid (fun wz ev' x' (hz : Below w.heap.size w wz) (h1 : RdN wz ev' x') (h2 : EnO x') => entry_Write v1 ev' cs x' wz (hR.later hz (Nat.le_refl _)) h1 hC h2 (hT.later hz) (hF.later hz))
  have RG := Lib.hid (fun wz v L kind (hz : Below w.heap.size w wz) (h1 : Rd wz v L) (h2 : inW kind) => entry_Read v1 v cs kind L wz (hR.later hz (Nat.le_refl _)) h1 hC h2 (hT.later hz) (hF.later hz))
  have RB := Lib.hid (fun wz (hz : Below w.heap.size w wz) => hB.later hz (Nat.le_refl _))
  have HN9 := Lib.hid (fun wz (hz : Below w.heap.size w wz) => hE.1.later hz)
  have hOx := hE.2
  have hrl := hB.len
  have hrs := hB.small
  have hlw := entW_small cs x
  have hz0 := entW_zero (cs := cs) (x := x)
  have hbk := fun h => ent_back (cs := cs) (x := x) hOx.2.2 h
  have hsm := fun ps hP hl h hps => ent_same (cs := cs) (kind := 1 + (l.length : Int) % 2) (l := l) (ps := ps) hP hl h hps
  have hno := fun h => entRV_no (cs := cs) (kind := 1 + (l.length : Int) % 2) (l := l) h
  obtain ⟨m, hm⟩ : ∃ m, m = l.length := ⟨_, rfl⟩
  rw [← hm] at hrl hrs hsm hno
  obtain ⟨kd, hkd⟩ : ∃ kd, kd = 1 + (m : Int) % 2 := ⟨_, rfl⟩
  rw [← hkd] at hsm hno
  have hkw : inW kd := by unfold inW; omega
  have FW := Lib.hid (fun wz (hz : Below w.heap.size w wz) => frame_Write kd b l wz (hB.later hz (Nat.le_refl _)))
  have RP := Lib.hid (fun wz (hz : Below w.heap.size w wz) => entry_Read v1 b cs kd l wz (hR.later hz (Nat.le_refl _)) (hB.later hz (Nat.le_refl _)) hC hkw (hT.later hz) (hF.later hz))
  have hxk : entE cs x = 0 → (0 ≤ 2 - x.1 ∧ 2 - x.1 ≤ 2) := fun h => by have := (entE_zero.1 h).2.1; omega
  obtain ⟨kind, seq, ps⟩ := x
  obtain ⟨⟨pv, rfl, hP⟩, hX⟩ := hE
  dsimp only at hP hxk
  obtain ⟨ao, no, co, rfl⟩ := hP.lit12
  have GR := Lib.hid (fun wz (hz : Below w.heap.size w wz) => great_one12 v1 (.slice ao no co) cs ps wz (hR.later hz (Nat.le_refl _)) (hP.later hz (Nat.le_refl _)))
  have SM := Lib.hid (fun wz p2 (y : EntB) (hz : Below w.heap.size w wz) (h : RdN wz p2 y) (he : ((kind, seq, ps) : EntB) = y) => show Calls Tryz.prog 15 #[.agg #[.int .i64 kind, .int .i64 seq, .slice ao no co], p2] wz fun e w' => e = .returned (.bool true) ∧ Below wz.heap.size wz w' from by
    have := ref_Same12 (.agg #[.int .i64 kind, .int .i64 seq, .slice ao no co]) p2 (kind, seq, ps) y wz ⟨_, rfl, hP.later hz (Nat.le_refl _)⟩ h
    rw [decide_eq_true he] at this
    exact this)
  have WA := Lib.hid (fun wz (hz : Below w.heap.size w wz) => WG.out wz _ (kind, seq, ps) hz ⟨_, rfl, hP.later hz (Nat.le_refl _)⟩ hX)
  obtain ⟨R, hRR⟩ : ∃ R, R = entW cs (kind, seq, ps) := ⟨_, rfl⟩
  rw [← hRR] at WA hlw hz0
  obtain ⟨r, y⟩ := R
  dsimp only at hlw hz0
  have HZ0 := Lib.hid hz0
  have HBk := Lib.hid hbk
  have HSm := Lib.hid hsm
  have HNo := Lib.hid hno
  have HXk := Lib.hid hxk
  have HKd := Lib.hid hkd
  have HKw := Lib.hid hkw
  have HMl := Lib.hid hm
  have HOx := Lib.hid hOx
  have HLw := Lib.hid hlw
  obtain ⟨N1, N2⟩ := new_one12 w (.cells #[.int .i64 kind, .int .i64 seq, .slice ao no co] 25)
  obtain ⟨w0, hw0⟩ : ∃ w0, w0 = w.alloc (.cells #[.int .i64 kind, .int .i64 seq, .slice ao no co] 25) := ⟨_, rfl⟩
  rw [← hw0] at N1 N2
  obtain ⟨g, hg⟩ : ∃ g, g = w.heap.size := ⟨_, rfl⟩
  rw [← hg] at N1
  have HEb := Lib.hid (fun wz (hz : Below w0.heap.size w0 wz) => (Ebox.later (show Ebox w0 g kind seq (.slice ao no co) from N1) hz).cells)
  have HZ := Lib.hid (fun wz (hz : Below w0.heap.size w0 wz) => show Below w.heap.size w wz from N2.trans (hz.mono N2.size))
  have HW0 := Lib.hid hw0
  have HG := Lib.hid hg
  have HB := Lib.hid (Below.refl w0.heap.size w0)
  clear hR hC hP hX hB hT hF hRR N1 N2 hw0 hg hOx hlw hz0 hbk hsm hno hxk hkd hkw hm
  go_enter Tryz.func6, Tryz.ntmps6
  go_wp2_with fail
  rw [← HW0.out, ← HG.out, ← HKd.out]
  refine (AL.out w0 (HZ.out _ HB.out)).mono ?_
  rintro e w1 ⟨rfl, hb⟩
  replace HB := Lib.hid (HB.out.trans (hb.mono HB.out.size))
  obtain ⟨c0, c1, c2⟩ := HEb.out w1 HB.out
  clear hb
  go_wp2_with fail
  refine (GR.out w1 (HZ.out _ HB.out)).mono ?_
  rintro e w2 ⟨bb, rfl, _, hb⟩
  replace HB := Lib.hid (HB.out.trans (hb.mono HB.out.size))
  clear hb c0 c1 c2 GR
  cases bb with
  | true =>
    go_wp2_with fail
    refine (AL.out w2 (HZ.out _ HB.out)).mono ?_
    rintro e w3 ⟨rfl, hb⟩
    replace HB := Lib.hid (HB.out.trans (hb.mono HB.out.size))
    clear hb
    go_wp2
    go_ret
    exact ⟨rfl, HZ.out _ HB.out⟩
  | false =>
    by_cases hml : 2000 < m
    · have d1 : decide ((m : Int) > 2000) = true := decide_eq_true (by omega)
      go_wp2_with fail
      refine (AL.out w2 (HZ.out _ HB.out)).mono ?_
      rintro e w3 ⟨rfl, hb⟩
      replace HB := Lib.hid (HB.out.trans (hb.mono HB.out.size))
      clear hb
      go_wp2
      go_ret
      exact ⟨rfl, HZ.out _ HB.out⟩
    · have d1 : decide ((m : Int) > 2000) = false := decide_eq_false (by omega)
      clear AL
      obtain ⟨c0, c1, c2⟩ := HEb.out w2 HB.out
      go_wp2_with fail
      refine (WA.out w2 (HZ.out _ HB.out)).mono ?_
      rintro e w3 ⟨bv, rfl, hO, hb⟩
      replace HB := Lib.hid (HB.out.trans (hb.mono HB.out.size))
      have HO := Lib.hid hO
      clear hb hO c0 c1 c2 WA
      by_cases hy : y = 0
      · subst hy
        obtain ⟨f1, f2, f3⟩ := HZ0.out rfl
        injection f3 with f3
        obtain ⟨g1, g2⟩ := HBk.out f1
        try dsimp only at g1 g2
        obtain ⟨P, hPp⟩ : ∃ P, P = entP cs (kind, seq, ps) := ⟨_, rfl⟩
        rw [← hPp] at f2 f3 g1 g2
        obtain ⟨j, hj⟩ : ∃ j, j = (2 - kind).toNat := ⟨_, rfl⟩
        have hjk : ((j : Nat) : Int) = 2 - kind := by have := HXk.out f1; omega
        have hj2 : j ≤ 2 := by have := HXk.out f1; omega
        rw [← hj] at f3
        rw [← hjk] at g1 g2
        have hnx := nxF_put j hj2 P [] f2
        rw [List.append_nil, ← f3] at hnx
        have hbr := HO.out.rd (by have := HLw.out; first | omega | (dsimp only; omega))
        have hbl := hbr.len
        have NX := Lib.hid (frame_Next bv r w3 hbr)
        rw [hnx] at NX
        have HRb := Lib.hid (fun wz (hz : Below w3.heap.size w3 wz) => hbr.later hz (Nat.le_refl _))
        obtain ⟨n, hn⟩ : ∃ n, n = r.length := ⟨_, rfl⟩
        rw [← hn] at hbl NX
        have RQ := Lib.hid (fun wz v (hz : Below w.heap.size w wz) (h1 : Rd wz v P) => show Calls Tryz.prog 13 #[v1, .int .i64 (j : Int), v] wz fun e w' => Below wz.heap.size wz w' ∧ ∃ ao n cap, e = .returned (.tuple #[.agg #[.int .i64 kind, .int .i64 seq, .slice ao n cap], .int .i64 0]) ∧ RdP w' (.slice ao n cap) ps from by
          refine (RG.out wz v P (j : Int) hz h1 (by unfold inW; omega)).mono ?_
          rintro e w' ⟨hb, a2, n2, c2, qs, he, hN, hP, hps⟩
          rw [g1, g2] at he
          rw [g2] at hps
          have := psL_inj hps
          subst this
          exact ⟨hb, a2, n2, c2, he, hN.rd⟩)
        have HP2 := Lib.hid f2
        have HJ := Lib.hid (And.intro hj2 hjk)
        have hnr : n ≤ 1048591 := by rw [hn]; exact HLw.out
        clear f1 f2 f3 g1 g2 hPp hj hjk hnx hbr hn hj2 HO HRb RG
        go_wp2_with fail
        refine NX.out.mono ?_
        rintro e w4 ⟨pv, rfl, hO, hb⟩
        replace HB := Lib.hid (HB.out.trans (hb.mono HB.out.size))
        have hrp := Lib.hid (hO.rd (by have := HP2.out; first | omega | (dsimp only; omega)))
        clear hb hO NX
        try dsimp only at hrp ⊢
        rw [show ((0 : Nat) : Int) = 0 from rfl]
        go_wp2_with fail
        refine (RQ.out w4 pv (HZ.out _ HB.out) hrp.out).mono ?_
        rintro e w5 ⟨hb, a2, n2, c2, rfl, hr⟩
        replace HB := Lib.hid (HB.out.trans (hb.mono HB.out.size))
        obtain ⟨M1, M2⟩ := new_one12 w5 (.cells #[.int .i64 kind, .int .i64 seq, .slice a2 n2 c2] 25)
        have HB6 := Lib.hid (HB.out.trans (M2.mono HB.out.size))
        have S1 := Lib.hid (SM.out _ (.agg #[.int .i64 kind, .int .i64 seq, .slice a2 n2 c2]) (kind, seq, ps) (HZ.out _ HB6.out) ⟨_, rfl, hr.later M2 (Nat.le_refl _)⟩ rfl)
        obtain ⟨c0, c1, c2'⟩ := HEb.out _ HB6.out
        obtain ⟨w6, hw6⟩ : ∃ w6, w6 = w5.alloc (.cells #[.int .i64 kind, .int .i64 seq, .slice a2 n2 c2] 25) := ⟨_, rfl⟩
        rw [← hw6] at HB6 S1
        have HW6 := Lib.hid hw6
        have d2 : ((n : Int) != n) = false := by simp
        clear hb hr M1 M2 hw6 SM RQ hrp HB
        go_wp2_with fail
        rw [← HW6.out]
        refine S1.out.mono ?_
        rintro e w6b ⟨rfl, hb⟩
        have HB := Lib.hid (HB6.out.trans (hb.mono HB6.out.size))
        clear hb S1 HW6 HB6 c0 c1 c2' d2 hbl hnr
        go_wp2_with fail
        refine (RP.out w6b (HZ.out _ HB.out)).mono ?_
        rintro e wf ⟨hb, fo, fn, fc, qs, rfl, hN, hP, hps⟩
        replace HB := Lib.hid (HB.out.trans (hb.mono HB.out.size))
        obtain ⟨E2, hE2⟩ : ∃ E2, E2 = entRE cs kd l := ⟨_, rfl⟩
        have hno := HNo.out
        have hsm := HSm.out qs hP (by omega)
        rw [← hE2] at hno hsm
        obtain ⟨V, hV⟩ : ∃ V, V = entRV cs kd l := ⟨_, rfl⟩
        rw [← hV] at hno hsm hps
        obtain ⟨k9, s9, bps⟩ := V
        rw [← hE2, ← hV]
        try dsimp only at hno hsm hps ⊢
        obtain ⟨M1, M2⟩ := new_one12 wf (.cells #[.int .i64 k9, .int .i64 s9, .slice fo fn fc] 25)
        have HRq := Lib.hid (hN.rd.later M2 (Nat.le_refl _))
        have HB7 := Lib.hid (HB.out.trans (M2.mono HB.out.size))
        have HPs := Lib.hid hps
        have HPq := Lib.hid hP
        by_cases h2 : E2 = 0
        · subst h2
          obtain ⟨o1, o2, o3⟩ := hsm rfl hps
          have W2 := Lib.hid (WG.out _ (.agg #[.int .i64 k9, .int .i64 s9, .slice fo fn fc]) (k9, s9, qs) (HZ.out _ HB7.out) ⟨_, rfl, HRq.out⟩ o1)
          rw [o2] at W2
          have FW := Lib.hid (fun wz hz => FW.out wz hz)
          rw [o3] at FW
          obtain ⟨L, hL⟩ : ∃ L, L = frB kd.toNat l := ⟨_, rfl⟩
          have hLs : L.length ≤ 1048591 := by rw [hL]; exact frB_small _ (by rw [← HMl.out]; omega)
          rw [← hL] at W2 FW
          obtain ⟨w7, hw7⟩ : ∃ w7, w7 = wf.alloc (.cells #[.int .i64 k9, .int .i64 s9, .slice fo fn fc] 25) := ⟨_, rfl⟩
          rw [← hw7] at W2 HB7 HRq
          have HW7 := Lib.hid hw7
          have HLs := Lib.hid hLs
          clear hb hN hP hps hno hsm hE2 hV M1 M2 o1 o2 o3 hL hLs hw7 HBk HZ0 HNo HSm HXk
          go_wp2_with fail
          rw [← HW7.out]
          refine W2.out.mono ?_
          rintro e w8 ⟨dv, rfl, hO8, hb⟩
          have HB8 := Lib.hid (HB7.out.trans (hb.mono HB7.out.size))
          have HO8 := Lib.hid hO8
          clear hb hO8 W2 HB7 HRq HW7
          go_wp2_with fail
          refine (FW.out w8 (HZ.out _ HB8.out)).mono ?_
          rintro e w9 ⟨gv, rfl, hO9, hb⟩
          have HB9 := Lib.hid (HB8.out.trans (hb.mono HB8.out.size))
          have hs1 := ((HO8.out.later hb (Nat.le_refl _)).rd (by have := HLs.out; first | omega | (dsimp only; omega))).str
          have hs2 := (hO9.rd (by have := HLs.out; first | omega | (dsimp only; omega))).str
          clear hb hO9 FW HO8 HB8
          try dsimp only at hs1 hs2 ⊢
          rw [show ((0 : Nat) : Int) = 0 from rfl]
          go_wp2
          go_ret
          exact ⟨by simp, HZ.out _ HB9.out⟩
        · have q : ((E2 : Int) != 0) = true := by rw [bne_iff_ne]; omega
          have hn9 := hno h2
          injection hn9 with z1 z2
          injection z2 with z2 z3
          subst z1 z2
          rw [z3] at hps
          have hq0 := psL_nil hps
          subst hq0
          have S2 := Lib.hid (ref_Same12 (.agg #[.int .i64 0, .int .i64 0, .slice fo fn fc]) (.agg #[.int .i64 0, .int .i64 0, .slice none 0 0]) (0, 0, []) (0, 0, []) _ ⟨_, rfl, HRq.out⟩ ⟨_, rfl, RdP.nil _⟩)
          rw [decide_eq_true rfl] at S2
          obtain ⟨w7, hw7⟩ : ∃ w7, w7 = wf.alloc (.cells #[.int .i64 0, .int .i64 0, .slice fo fn fc] 25) := ⟨_, rfl⟩
          rw [← hw7] at S2 HB7
          have HW7 := Lib.hid hw7
          clear hb hN hP hps hno hsm hE2 hV M1 M2 hw7 HBk HZ0 HNo HSm HXk h2 z3 HRq
          go_wp2_with fail
          rw [← HW7.out]
          refine S2.out.mono ?_
          rintro e w8 ⟨rfl, hb⟩
          have HB8 := Lib.hid (HB7.out.trans (hb.mono HB7.out.size))
          clear hb S2 HW7 HB7
          go_wp2
          go_ret
          exact ⟨rfl, HZ.out _ HB8.out⟩
      · have d2 : ((y : Int) == 0) = false := by rw [beq_eq_false_iff_ne]; omega
        clear hy HO SM RG
        go_wp2_with fail
        refine (RP.out w3 (HZ.out _ HB.out)).mono ?_
        rintro e wf ⟨hb, fo, fn, fc, qs, rfl, hN, hP, hps⟩
        replace HB := Lib.hid (HB.out.trans (hb.mono HB.out.size))
        obtain ⟨E2, hE2⟩ : ∃ E2, E2 = entRE cs kd l := ⟨_, rfl⟩
        have hno := HNo.out
        have hsm := HSm.out qs hP (by omega)
        rw [← hE2] at hno hsm
        obtain ⟨V, hV⟩ : ∃ V, V = entRV cs kd l := ⟨_, rfl⟩
        rw [← hV] at hno hsm hps
        obtain ⟨k9, s9, bps⟩ := V
        rw [← hE2, ← hV]
        try dsimp only at hno hsm hps ⊢
        obtain ⟨M1, M2⟩ := new_one12 wf (.cells #[.int .i64 k9, .int .i64 s9, .slice fo fn fc] 25)
        have HRq := Lib.hid (hN.rd.later M2 (Nat.le_refl _))
        have HB7 := Lib.hid (HB.out.trans (M2.mono HB.out.size))
        have HPs := Lib.hid hps
        have HPq := Lib.hid hP
        by_cases h2 : E2 = 0
        · subst h2
          obtain ⟨o1, o2, o3⟩ := hsm rfl hps
          have W2 := Lib.hid (WG.out _ (.agg #[.int .i64 k9, .int .i64 s9, .slice fo fn fc]) (k9, s9, qs) (HZ.out _ HB7.out) ⟨_, rfl, HRq.out⟩ o1)
          rw [o2] at W2
          have FW := Lib.hid (fun wz hz => FW.out wz hz)
          rw [o3] at FW
          obtain ⟨L, hL⟩ : ∃ L, L = frB kd.toNat l := ⟨_, rfl⟩
          have hLs : L.length ≤ 1048591 := by rw [hL]; exact frB_small _ (by rw [← HMl.out]; omega)
          rw [← hL] at W2 FW
          obtain ⟨w7, hw7⟩ : ∃ w7, w7 = wf.alloc (.cells #[.int .i64 k9, .int .i64 s9, .slice fo fn fc] 25) := ⟨_, rfl⟩
          rw [← hw7] at W2 HB7 HRq
          have HW7 := Lib.hid hw7
          have HLs := Lib.hid hLs
          clear hb hN hP hps hno hsm hE2 hV M1 M2 o1 o2 o3 hL hLs hw7 HBk HZ0 HNo HSm HXk
          go_wp2_with fail
          rw [← HW7.out]
          refine W2.out.mono ?_
          rintro e w8 ⟨dv, rfl, hO8, hb⟩
          have HB8 := Lib.hid (HB7.out.trans (hb.mono HB7.out.size))
          have HO8 := Lib.hid hO8
          clear hb hO8 W2 HB7 HRq HW7
          go_wp2_with fail
          refine (FW.out w8 (HZ.out _ HB8.out)).mono ?_
          rintro e w9 ⟨gv, rfl, hO9, hb⟩
          have HB9 := Lib.hid (HB8.out.trans (hb.mono HB8.out.size))
          have hs1 := ((HO8.out.later hb (Nat.le_refl _)).rd (by have := HLs.out; first | omega | (dsimp only; omega))).str
          have hs2 := (hO9.rd (by have := HLs.out; first | omega | (dsimp only; omega))).str
          clear hb hO9 FW HO8 HB8
          try dsimp only at hs1 hs2 ⊢
          rw [show ((0 : Nat) : Int) = 0 from rfl]
          go_wp2
          go_ret
          exact ⟨by simp, HZ.out _ HB9.out⟩
        · have q : ((E2 : Int) != 0) = true := by rw [bne_iff_ne]; omega
          have hn9 := hno h2
          injection hn9 with z1 z2
          injection z2 with z2 z3
          subst z1 z2
          rw [z3] at hps
          have hq0 := psL_nil hps
          subst hq0
          have S2 := Lib.hid (ref_Same12 (.agg #[.int .i64 0, .int .i64 0, .slice fo fn fc]) (.agg #[.int .i64 0, .int .i64 0, .slice none 0 0]) (0, 0, []) (0, 0, []) _ ⟨_, rfl, HRq.out⟩ ⟨_, rfl, RdP.nil _⟩)
          rw [decide_eq_true rfl] at S2
          obtain ⟨w7, hw7⟩ : ∃ w7, w7 = wf.alloc (.cells #[.int .i64 0, .int .i64 0, .slice fo fn fc] 25) := ⟨_, rfl⟩
          rw [← hw7] at S2 HB7
          have HW7 := Lib.hid hw7
          clear hb hN hP hps hno hsm hE2 hV M1 M2 hw7 HBk HZ0 HNo HSm HXk h2 z3 HRq
          go_wp2_with fail
          rw [← HW7.out]
          refine S2.out.mono ?_
          rintro e w8 ⟨rfl, hb⟩
          have HB8 := Lib.hid (HB7.out.trans (hb.mono HB7.out.size))
          clear hb S2 HW7 HB7
          go_wp2
          go_ret
          exact ⟨rfl, HZ.out _ HB8.out⟩

end Go.Proofs.YteiphdcgffapbaaGreatDoor
