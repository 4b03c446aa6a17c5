/-
  EntryReads: the law's own walk.
-/
import Derived.Test.YteiphdcgffapbaaGreatDoorGEntL
import Derived.Test.YteiphdcgffapbaaGreatDoorEntRead
import Derived.Test.YteiphdcgffapbaaGreatDoorEntRef
import Derived.Test.YteiphdcgffapbaaGreatDoorEntRefRead
set_option linter.unusedVariables false
set_option linter.unusedSimpArgs false
set_option maxRecDepth 1000000
namespace Go.Proofs.YteiphdcgffapbaaGreatDoor
open Go.RowKit Go.Shelf

set_option maxHeartbeats 8000000 in
theorem entryReads_walk (v1 : Value) (cs : List ColB) (kind : Int) (b : Value) (l : List UInt8) (w : World) (hR : RdC w v1 cs) (hC : CS cs) (hk : inW kind) (hB : Rd w b l) (hT : Tabs w) (hF : Frs w) :
    Calls Tryz.prog 4 #[v1, .int .i64 kind, b] w fun e w' => e = .returned (.bool true) ∧ Below w.heap.size w w' := by
  have AL := Lib.hid (fun wz (hz : Below w.heap.size w wz) => law12_alive wz (hT.later hz))
  have RA := Lib.hid (fun wz (hz : Below w.heap.size w wz) => entry_Read v1 b cs kind l wz (hR.later hz (Nat.le_refl _)) (hB.later hz (Nat.le_refl _)) hC hk (hT.later hz) (hF.later hz))
  have RB := Lib.hid (fun wz (hz : Below w.heap.size w wz) => ref_Read12 v1 b cs kind l wz (hR.later hz (Nat.le_refl _)) (hB.later hz (Nat.le_refl _)) hC hk)
  have hl1 := hR.len
  have hsm1 := hR.small
  have hrl := hB.len
  have hrs := hB.small
  obtain ⟨n, hn⟩ : ∃ n, n = cs.length := ⟨_, rfl⟩
  obtain ⟨m, hm⟩ : ∃ m, m = l.length := ⟨_, rfl⟩
  rw [← hn] at hl1 hsm1
  rw [← hm] at hrl hrs
  unfold RdEO at RA RB
  generalize entRE cs kind l = E at *
  generalize entRV cs kind l = V at *
  obtain ⟨k, s, bps⟩ := V
  dsimp only at RA RB
  clear hR hC hB hT hF hn hm
  have HB := Lib.hid (Below.refl w.heap.size w)
  go_enter Tryz.func4, Tryz.ntmps4
  go_wp2_with fail
  refine (AL.out w HB.out).mono ?_
  rintro e w1 ⟨rfl, hb⟩
  replace HB := Lib.hid (HB.out.trans (hb.mono HB.out.size))
  clear hb
  by_cases hgo : m ≤ 2000 ∧ n ≤ 30
  · have d1 : decide ((m : Int) > 2000) = false := decide_eq_false (by omega)
    have d2 : decide ((n : Int) > 30) = false := decide_eq_false (by omega)
    clear hgo AL
    go_wp2_with fail
    refine (RA.out w1 HB.out).mono ?_
    rintro e w2 ⟨hb, ao, no, co, ps, rfl, hN, hP, hps⟩
    replace HB := Lib.hid (HB.out.trans (hb.mono HB.out.size))
    obtain ⟨N1, N2⟩ := new_one12 w2 (.cells #[.int .i64 k, .int .i64 s, .slice ao no co] 25)
    obtain ⟨w3, hw3⟩ : ∃ w3, w3 = w2.alloc (.cells #[.int .i64 k, .int .i64 s, .slice ao no co] 25) := ⟨_, rfl⟩
    rw [← hw3] at N1 N2
    obtain ⟨g, hg⟩ : ∃ g, g = w2.heap.size := ⟨_, rfl⟩
    rw [← hg] at N1
    have HE3 := Lib.hid (show Ebox w3 g k s (.slice ao no co) from N1)
    have HB3 := Lib.hid (HB.out.trans (N2.mono HB.out.size))
    have HN3 := Lib.hid (hN.rd.later N2 (Nat.le_refl _))
    have HPS := Lib.hid hps
    have HW3 := Lib.hid hw3
    have HG := Lib.hid hg
    clear hb hN hP hps N1 N2 hw3 hg HB RA
    go_wp2_with fail
    rw [← HW3.out, ← HG.out]
    refine (RB.out w3 HB3.out).mono ?_
    rintro e w4 ⟨hb, bo, mo, do_, qs, rfl, hN, hP, hps⟩
    have heq : ps = qs := psL_inj (by rw [HPS.out, hps])
    obtain ⟨M1, M2⟩ := new_one12 w4 (.cells #[.int .i64 k, .int .i64 s, .slice bo mo do_] 25)
    have HB5 := Lib.hid ((HB3.out.trans (hb.mono HB3.out.size)).trans (M2.mono (HB3.out.trans (hb.mono HB3.out.size)).size))
    have HE5 := Lib.hid ((HE3.out.later hb).later M2)
    have HE6 := Lib.hid (show Ebox (w4.alloc (.cells #[.int .i64 k, .int .i64 s, .slice bo mo do_] 25)) w4.heap.size k s (.slice bo mo do_) from M1)
    have SM := Lib.hid (ref_Same12 (.agg #[.int .i64 k, .int .i64 s, .slice ao no co]) (.agg #[.int .i64 k, .int .i64 s, .slice bo mo do_]) (k, s, ps) (k, s, qs) _ ⟨_, rfl, (HN3.out.later hb (Nat.le_refl _)).later M2 (Nat.le_refl _)⟩ ⟨_, rfl, hN.rd.later M2 (Nat.le_refl _)⟩)
    rw [decide_eq_true (by rw [heq])] at SM
    obtain ⟨c0, c1, c2⟩ := HE5.out.cells
    obtain ⟨w5, hw5⟩ : ∃ w5, w5 = w4.alloc (.cells #[.int .i64 k, .int .i64 s, .slice bo mo do_] 25) := ⟨_, rfl⟩
    rw [← hw5] at HB5 SM
    have HW5 := Lib.hid hw5
    clear hb hN hP hps heq M1 M2 hw5 HPS HN3 HB3 HE3 RB HW3 HE6
    go_wp2_with fail
    rw [← HW5.out]
    refine SM.out.mono ?_
    rintro e w6 ⟨rfl, hb⟩
    have HB6 := Lib.hid (HB5.out.trans (hb.mono HB5.out.size))
    clear hb SM c0 c1 c2
    go_wp2
    go_ret
    exact ⟨by simp, HB6.out⟩
  · have hor : (decide ((n : Int) > 30) = true) ∨ (decide ((n : Int) > 30) = false ∧ decide ((m : Int) > 2000) = true) := by
      by_cases h : n ≤ 30
      · exact .inr ⟨decide_eq_false (by omega), decide_eq_true (by omega)⟩
      · exact .inl (decide_eq_true (by omega))
    clear hgo RA RB
    rcases hor with d1 | ⟨d1, d2⟩
    all_goals (
      go_wp2_with fail
      refine (AL.out w1 HB.out).mono ?_
      rintro e w2 ⟨rfl, hb⟩
      have HB2 := Lib.hid (HB.out.trans (hb.mono HB.out.size))
      clear hb HB
      go_wp2
      go_ret
      exact ⟨rfl, HB2.out⟩)

end Go.Proofs.YteiphdcgffapbaaGreatDoor
