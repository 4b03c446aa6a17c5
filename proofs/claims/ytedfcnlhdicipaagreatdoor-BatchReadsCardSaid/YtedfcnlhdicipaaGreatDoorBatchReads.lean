/-
  BatchReads: the law's own walk.
-/
import Derived.Test.YtedfcnlhdicipaaGreatDoorBatLawKit
import Derived.Test.YtedfcnlhdicipaaGreatDoorBatRefAll
import Derived.Test.YtedfcnlhdicipaaGreatDoorGZRef
set_option linter.unusedVariables false
set_option linter.unusedSimpArgs false
set_option maxRecDepth 1000000
namespace Go.Proofs.YtedfcnlhdicipaaGreatDoor
open Go.RowKit Go.Shelf

set_option maxHeartbeats 8000000 in
theorem batchReads_walk (b : Value) (l : List UInt8) (v1 : Value) (cs : List ColB) (w : World) (hB : Rd w b l) (hR : RdC w v1 cs) (hC : CS cs) (hT : Tabs w) :
    Calls Tryz.prog 4 #[b, v1] w fun e w' => e = .returned (.bool true) ∧ Below w.heap.size w w' := by
  have K := Lib.hid (batK v1 cs w hR hC hT)
  have hrl := hB.len
  have hrs := hB.small
  have hl1 := hR.len
  have hsm1 := hR.small
  have RB := Lib.hid (fun wz (hz : Below w.heap.size w wz) => hB.later hz (Nat.le_refl _))
  have RF := Lib.hid (fun wz (hz : Below w.heap.size w wz) => ref_Read10F b v1 l cs wz (hB.later hz (Nat.le_refl _)) (hR.later hz (Nat.le_refl _)) hC)
  obtain ⟨R, hRR⟩ : ∃ R, R = batS cs l 0 := ⟨_, rfl⟩
  have KR := Lib.hid (fun wz (hz : Below w.heap.size w wz) => K.out.read wz b l hz (RB.out wz hz))
  rw [← hRR] at KR
  have RF : Hid (∀ wz, Below w.heap.size w wz → Calls Tryz.prog 15 #[b, v1] wz (RdO10 wz l R)) := Lib.hid (fun wz hz => by rw [hRR]; exact RF.out wz hz)
  obtain ⟨n, hn⟩ : ∃ n, n = cs.length := ⟨_, rfl⟩
  rw [← hn] at hl1 hsm1
  clear hB hR hT hn hRR RB
  have HB := Lib.hid (Below.refl w.heap.size w)
  go_enter Tryz.func4, Tryz.ntmps4
  go_wp2_with fail
  refine (K.out.alive w HB.out).mono ?_
  rintro e w1 ⟨rfl, hb⟩
  replace HB := Lib.hid hb
  clear hb
  have key : ∀ (d : Bool), decide ((2000 : Int) < (l.length : Int)) = d → ∀ (d2 : Bool), decide ((30 : Int) < (n : Int)) = d2 → (d = false ∧ d2 = false) ∨ (d = true ∨ d2 = true) := fun d _ d2 _ => by cases d <;> cases d2 <;> simp
  by_cases hgo : l.length ≤ 2000 ∧ n ≤ 30
  · have d1 : decide ((2000 : Int) < (l.length : Int)) = false := decide_eq_false (by omega)
    have d2 : decide ((30 : Int) < (n : Int)) = false := decide_eq_false (by omega)
    clear key hgo
    go_wp2_with fail
    refine (KR.out w1 HB.out).mono ?_
    rintro e w2 ⟨hb, tv, ps, rfl, hO, hP, hps⟩
    have HB2 := Lib.hid (HB.out.trans (hb.mono HB.out.size))
    have HO2 := Lib.hid hO
    have HP2 := Lib.hid hps
    clear hb hO hP hps HB
    go_wp2_with fail
    refine (RF.out w2 HB2.out).mono ?_
    rintro e w3 ⟨hb, uv, qs, rfl, hO, hP, hqs⟩
    have HB3 := Lib.hid (HB2.out.trans (hb.mono HB2.out.size))
    have heq : ps = qs := psL_inj (by rw [HP2.out, hqs])
    have HSm := Lib.hid (ref_Same08 tv uv ps qs w3 ((HO2.out.later hb (Nat.le_refl _)).rd) hO.rd)
    rw [decide_eq_true heq] at HSm
    generalize R.2.1 = kk at *
    generalize batE R l = y at *
    clear hb hO hP hqs heq HO2 HB2
    go_wp2_with fail
    refine HSm.out.mono ?_
    rintro e w4 ⟨rfl, hb⟩
    have HB4 := Lib.hid (HB3.out.trans (hb.mono HB3.out.size))
    clear hb HB3 HSm
    go_wp2
    go_ret
    exact ⟨by simp, HB4.out⟩
  · have hor : (decide ((2000 : Int) < (l.length : Int)) = true) ∨ (decide ((2000 : Int) < (l.length : Int)) = false ∧ decide ((30 : Int) < (n : Int)) = true) := by
      by_cases h : l.length ≤ 2000
      · exact .inr ⟨decide_eq_false (by omega), decide_eq_true (by omega)⟩
      · exact .inl (decide_eq_true (by omega))
    clear hgo key
    rcases hor with d1 | ⟨d1, d2⟩
    all_goals (
      go_wp2_with fail
      refine (K.out.alive w1 HB.out).mono ?_
      rintro e w2 ⟨rfl, hb⟩
      have HB2 := Lib.hid (HB.out.trans (hb.mono HB.out.size))
      clear hb HB
      go_wp2
      go_ret
      exact ⟨rfl, HB2.out⟩)

end Go.Proofs.YtedfcnlhdicipaaGreatDoor
