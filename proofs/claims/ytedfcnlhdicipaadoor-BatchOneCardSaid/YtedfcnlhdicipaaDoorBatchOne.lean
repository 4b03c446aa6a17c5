/-
  BatchOne: the law's own walk.
-/
import Derived.Test.YtedfcnlhdicipaaDoorBatAlive
import Derived.Test.YtedfcnlhdicipaaDoorBatRead
import Derived.Test.YtedfcnlhdicipaaDoorBatBack
set_option linter.unusedVariables false
set_option linter.unusedSimpArgs false
set_option maxRecDepth 1000000
namespace Go.Proofs.YtedfcnlhdicipaaDoor
open Go.RowKit Go.Shelf

set_option maxHeartbeats 8000000 in
theorem batchOne_walk (b : Value) (l : List UInt8) (v1 : Value) (cs : List ColB) (w : World) (hB : Rd w b l) (hR : RdC w v1 cs) (hC : CS cs) (hT : Tabs w) :
    Calls Tryd.prog 3 #[b, v1] w fun e w' => e = .returned (.bool true) ∧ Below w.heap.size w w' := by
  have AL := Lib.hid (fun wz (hz : Below w.heap.size w wz) => law10_alive wz (hT.later hz))
  have hrl := hB.len
  have hrs := hB.small
  have hl1 := hR.len
  have hsm1 := hR.small
  have RB := Lib.hid (fun wz (hz : Below w.heap.size w wz) => hB.later hz (Nat.le_refl _))
  have KW := Lib.hid (fun wz v ps (hz : Below w.heap.size w wz) (h : RdP wz v ps) (hp : PSO ps) => batch_Write v1 v cs ps wz (hR.later hz (Nat.le_refl _)) h hC hp (hT.later hz))
  have KC := Lib.hid (fun wz v ps (hz : Below w.heap.size w wz) (h : RdP wz v ps) (hp : PSO ps) => zset_Check v1 v cs ps wz (hR.later hz (Nat.le_refl _)) h hC hp (hT.later hz))
  have KR := Lib.hid (fun wz (hz : Below w.heap.size w wz) => batch_Read b v1 l cs wz (hB.later hz (Nat.le_refl _)) (hR.later hz (Nat.le_refl _)) hC (hT.later hz))
  have hpl := batS_place cs l
  have HWh := Lib.hid (fun ps hP h hps => bat_whole (cs := cs) (ps := ps) (l := l) hP h hps)
  have HNo := Lib.hid (fun h => batC_no (R := batS cs l 0) (l := l) h)
  obtain ⟨R, hRR⟩ : ∃ R, R = batS cs l 0 := ⟨_, rfl⟩
  have KR : Hid (∀ wz, Below w.heap.size w wz → Calls Tryd.prog 5 #[b, v1] wz (RdO10 wz l R)) := Lib.hid (fun wz hz => by rw [hRR]; exact KR.out wz hz)
  rw [← hRR] at hpl HWh HNo
  obtain ⟨kk, hkk⟩ : ∃ kk, kk = R.2.1 := ⟨_, rfl⟩
  rw [← hkk] at hpl HWh
  obtain ⟨y, hy⟩ : ∃ y, y = batE R l := ⟨_, rfl⟩
  rw [← hy] at HWh HNo
  have HY := Lib.hid hy
  have HK := Lib.hid hkk
  obtain ⟨n, hn⟩ : ∃ n, n = cs.length := ⟨_, rfl⟩
  rw [← hn] at hl1 hsm1
  obtain ⟨M, hM⟩ : ∃ M, M = l.length := ⟨_, rfl⟩
  rw [← hM] at hrl hrs hpl HWh
  have HM := Lib.hid hM
  clear hB hR hT hn hRR hkk hy hM
  have HB := Lib.hid (Below.refl w.heap.size w)
  go_enter Tryd.func3, Tryd.ntmps3
  go_wp2_with fail
  refine (AL.out w HB.out).mono ?_
  rintro e w1 ⟨rfl, hb⟩
  replace HB := Lib.hid hb
  clear hb
  by_cases hgo : M ≤ 2000 ∧ n ≤ 30
  · have d1 : decide ((2000 : Int) < (M : Int)) = false := decide_eq_false (by omega)
    have d2 : decide ((30 : Int) < (n : Int)) = false := decide_eq_false (by omega)
    clear hgo
    go_wp2_with fail
    refine (KR.out w1 HB.out).mono ?_
    rintro e w2 ⟨hb, tv, ps, rfl, hN, hP, hps⟩
    rw [← HY.out, ← HK.out]
    replace HB := Lib.hid (HB.out.trans (hb.mono HB.out.size))
    have hrd := hN.rd
    have htl := hrd.len
    by_cases hy : y = 0
    · subst hy
      obtain ⟨k1, k2, k3⟩ := HWh.out ps hP rfl hps
      have e1 : ((kk : Int) == (M : Int)) = true := by rw [beq_iff_eq]; omega
      have HRp := Lib.hid hrd
      have HK1 := Lib.hid k1
      have HK3 := Lib.hid k3
      have HPs := Lib.hid hP
      clear hb hN hP hps hrd htl HWh HNo k1 k2 k3
      go_wp2_with fail
      refine (KW.out w2 tv ps HB.out HRp.out HPs.out).mono ?_
      rintro e w3 ⟨bv, rfl, hO, hb⟩
      rw [HK1.out, if_pos rfl, HK3.out] at hO
      rw [HK1.out]
      replace HB := Lib.hid (HB.out.trans (hb.mono HB.out.size))
      have HRp3 := Lib.hid (HRp.out.later hb (Nat.le_refl _))
      have hR3 := hO.rd (by rw [← HM.out]; omega)
      have HC9 := Lib.hid hR3
      clear hb hO hR3 HRp KW
      go_wp2_with fail
      refine (KC.out w3 tv ps HB.out HRp3.out HPs.out).mono ?_
      rintro e w4 ⟨rfl, hb⟩
      rw [HK1.out]
      have HB4 := Lib.hid (HB.out.trans (hb.mono HB.out.size))
      have hs1 := (HC9.out.later hb (Nat.le_refl _)).str
      have hs2 := (RB.out w4 HB4.out).str
      clear hb HC9 HRp3 HB
      go_wp2
      go_ret
      exact ⟨by simp, HB4.out⟩
    · have hq : ((y : Int) != 0) = true := by rw [bne_iff_ne]; omega
      have h0 := HNo.out hy
      rw [h0] at hps
      have h1 := psL_nil hps
      subst h1
      have htl0 : ∀ u, (Builtin.len_ #[25] 3 #[tv]).run Tryd.prog u = .ok (.int .i64 0) u := htl
      have e1 : decide ((kk : Int) ≥ 0) = true := decide_eq_true (by omega)
      have e2 : decide ((kk : Int) ≤ (M : Int)) = true := decide_eq_true (by omega)
      have e3 : decide (kk ≤ M) = true := decide_eq_true (by omega)
      clear hb hN hP hps hrd htl HWh HNo hy h0
      go_wp2
      go_ret
      exact ⟨by simp, HB.out⟩
  · have hor : (decide ((2000 : Int) < (M : Int)) = true) ∨ (decide ((2000 : Int) < (M : Int)) = false ∧ decide ((30 : Int) < (n : Int)) = true) := by
      by_cases h : M ≤ 2000
      · exact .inr ⟨decide_eq_false (by omega), decide_eq_true (by omega)⟩
      · exact .inl (decide_eq_true (by omega))
    clear hgo
    rcases hor with d1 | ⟨d1, d2⟩
    all_goals (
      go_wp2_with fail
      refine (AL.out w1 HB.out).mono ?_
      rintro e w2 ⟨rfl, hb⟩
      have HB2 := Lib.hid (HB.out.trans (hb.mono HB.out.size))
      clear hb HB
      go_wp2
      go_ret
      exact ⟨rfl, HB2.out⟩)

end Go.Proofs.YtedfcnlhdicipaaDoor
