/-
  BatchWrites: the law's own walk.
-/
import Derived.Test.YtedfcnlhdicipaaGreatDoorBatLawKit
import Derived.Test.YtedfcnlhdicipaaGreatDoorBatRefAll
import Derived.BigQuiet
set_option linter.unusedVariables false
set_option linter.unusedSimpArgs false
set_option maxRecDepth 1000000
namespace Go.Proofs.YtedfcnlhdicipaaGreatDoor
open Go.RowKit Go.Shelf

set_option maxHeartbeats 8000000 in
theorem batchWrites_walk (v1 : Value) (cs : List ColB) (x0 : Value) (a : List PairB) (n0 n1 n2 : Int) (w : World) (hR : RdC w v1 cs) (hC : CS cs) (hA : RdP w x0 a ∧ PSO a ∧ a.length * 32 ≤ 140737488351232) (h0 : inW n0) (h1 : inW n1) (h2 : inW n2) (hT : Tabs w) :
    Calls Tryz.prog 3 #[v1, x0, .agg #[.int .i64 n0, .int .i64 n1, .int .i64 n2]] w fun e w' => e = .returned (.bool true) ∧ Below w.heap.size w w' := by
  have K := Lib.hid (batK v1 cs w hR hC hT)
  have hl1 := hR.len
  have hsm1 := hR.small
  have hla := hA.1.len
  have hsma := hA.1.small
  have RA := Lib.hid (fun wz (hz : Below w.heap.size w wz) => hA.1.later hz (Nat.le_refl _))
  have PA := Lib.hid hA.2.1
  have RF := Lib.hid (fun wz (hz : Below w.heap.size w wz) => ref_Write10F v1 x0 cs a wz (hR.later hz (Nat.le_refl _)) (hA.1.later hz (Nat.le_refl _)) hC hA.2.1)
  obtain ⟨ao0, no0, co0, rfl⟩ := hA.1.litN
  have KW := Lib.hid (fun wz (hz : Below w.heap.size w wz) => K.out.write wz _ a hz (RA.out wz hz) PA.out)
  obtain ⟨L, hL⟩ : ∃ L, L = (if chkZ cs a = 0 then btWr (kindsL cs) (psL a) else []) := ⟨_, rfl⟩
  have hLs : L.length ≤ 2500000 := by
    rw [hL]; split
    · rename_i h9; exact wr_small hA.2.1 h9
    · simp
  rw [← hL] at KW RF
  obtain ⟨n, hn⟩ : ∃ n, n = cs.length := ⟨_, rfl⟩
  obtain ⟨m, hm⟩ : ∃ m, m = a.length := ⟨_, rfl⟩
  rw [← hn] at hl1 hsm1
  rw [← hm] at hla hsma
  have GR := Lib.hid (fun wz (hz : Below w.heap.size w wz) => great_one10 (.slice ao0 no0 co0) a wz (RA.out wz hz))
  obtain ⟨y, hy⟩ : ∃ y, y = chkZ cs a := ⟨_, rfl⟩
  rw [← hy] at KW RF
  have H0 := Lib.hid h0
  have H1 := Lib.hid h1
  have H2 := Lib.hid h2
  obtain ⟨N1, N2⟩ := new_one10 w (.cells #[.int .i64 n0, .int .i64 n1, .int .i64 n2] 24)
  have HB := Lib.hid N2
  have HQ := Lib.hid N1
  clear hR hA hT hn hm hL hy h0 h1 h2 N1 N2
  go_enter Tryz.func3, Tryz.ntmps3
  go_wp2_with fail
  generalize w.alloc (.cells #[.int .i64 n0, .int .i64 n1, .int .i64 n2] 24) = w0 at *
  obtain ⟨bx, hbx⟩ : ∃ bx, bx = w.heap.size := ⟨_, rfl⟩
  rw [← hbx]
  rw [← hbx] at HQ
  clear hbx
  refine (K.out.alive w0 HB.out).mono ?_
  rintro e w1 ⟨rfl, hb⟩
  replace HQ := Lib.hid ((hb.block bx (Array.getElem?_eq_some_iff.1 HQ.out).1).trans HQ.out)
  replace HB := Lib.hid (HB.out.trans (hb.mono HB.out.size))
  clear hb
  go_wp2_with fail
  refine (GR.out w1 HB.out).mono ?_
  rintro e w2 ⟨x, rfl, hx, hb⟩
  replace HQ := Lib.hid ((hb.block bx (Array.getElem?_eq_some_iff.1 HQ.out).1).trans HQ.out)
  replace HB := Lib.hid (HB.out.trans (hb.mono HB.out.size))
  clear hb GR
  have hcase : (x = 0 ∧ n ≤ 30 ∧ m ≤ 200) ∨ (x = 1 ∨ (x = 0 ∧ 30 < n) ∨ (x = 0 ∧ n ≤ 30 ∧ 200 < m)) := by omega
  rcases hcase with ⟨rfl, hn, hm⟩ | hcase
  · have d1 : decide ((30 : Int) < (n : Int)) = false := decide_eq_false (by omega)
    have d2 : decide ((200 : Int) < (m : Int)) = false := decide_eq_false (by omega)
    clear hx hn hm
    go_wp2_with fail
    refine (KW.out w2 HB.out).mono ?_
    rintro e w3 ⟨bv, rfl, hO, hb⟩
    replace HQ := Lib.hid ((hb.block bx (Array.getElem?_eq_some_iff.1 HQ.out).1).trans HQ.out)
    replace HB := Lib.hid (HB.out.trans (hb.mono HB.out.size))
    have HO3 := Lib.hid hO
    clear hb hO KW
    go_wp2_with fail
    refine (RF.out w3 HB.out).mono ?_
    rintro e w4 ⟨cv, rfl, hO, hb⟩
    have hO3 := HO3.out.later hb (Nat.le_refl _)
    have hs1 : ∀ q, (convert 27 9 bv).run Tryz.prog (w4.drewN q) = .ok (.string ⟨L.toArray⟩) (w4.drewN q) := fun q => ((hO3.rd (by omega)).later (below_drewN (Below.refl _ _) q) (Nat.le_refl _)).str
    have hs2 : ∀ q, (convert 27 9 cv).run Tryz.prog (w4.drewN q) = .ok (.string ⟨L.toArray⟩) (w4.drewN q) := fun q => ((hO.rd (by omega)).later (below_drewN (Below.refl _ _) q) (Nat.le_refl _)).str
    have hq4 := (hb.block bx (Array.getElem?_eq_some_iff.1 HQ.out).1).trans HQ.out
    have c0 : w4.cell? ⟨bx, 0, none⟩ = some (.int .i64 n0) := by rw [cell_of_row _ _ _ _ _ _ hq4]; rfl
    have c1 : w4.cell? ⟨bx, 1, none⟩ = some (.int .i64 n1) := by rw [cell_of_row _ _ _ _ _ _ hq4]; rfl
    have c2 : w4.cell? ⟨bx, 2, none⟩ = some (.int .i64 n2) := by rw [cell_of_row _ _ _ _ _ _ hq4]; rfl
    replace HB := Lib.hid (HB.out.trans (hb.mono HB.out.size))
    have BA := Lib.hid (fun wz => show Calls Tryz.prog 12 #[.int .i64 n0, .int .i64 n1, .int .i64 n2] wz fun e w' => e = .returned (.int .i64 (bound10 n0 n1 n2)) ∧ w' = wz from (batch_Bound n0 n1 n2 wz H0.out H1.out H2.out).mono (fun _ _ h => ⟨h.1, h.2.symm⟩))
    have BR := Lib.hid (fun wz => show Calls Tryz.prog 13 #[.int .i64 n0, .int .i64 n1, .int .i64 n2] wz fun e w' => e = .returned (.int .i64 (bound10 n0 n1 n2)) ∧ w' = wz from (ref_Bound10 n0 n1 n2 wz H0.out H1.out H2.out).mono (fun _ _ h => ⟨h.1, h.2.symm⟩))
    generalize bound10 n0 n1 n2 = bd at *
    clear hb hO hO3 HO3 HQ hq4 RF
    go_wp2_with fail
    go_quiet (first
      | (go_at_call 12; exact Calls.quiet_of_same (BA.out _))
      | (go_at_call 13; exact Calls.quiet_of_same (BR.out _)))
    go_wp2
    go_ret
    exact ⟨by simp, below_drewN HB.out _⟩
  · rcases hcase with rfl | ⟨rfl, h⟩ | ⟨rfl, h, h'⟩
    · clear hx
      go_wp2_with fail
      refine (K.out.alive w2 HB.out).mono ?_
      rintro e w3 ⟨rfl, hb⟩
      replace HB := Lib.hid (HB.out.trans (hb.mono HB.out.size))
      clear hb
      go_wp2
      go_ret
      exact ⟨rfl, HB.out⟩
    · have d1 : decide ((30 : Int) < (n : Int)) = true := decide_eq_true (by omega)
      clear hx h
      go_wp2_with fail
      refine (K.out.alive w2 HB.out).mono ?_
      rintro e w3 ⟨rfl, hb⟩
      replace HB := Lib.hid (HB.out.trans (hb.mono HB.out.size))
      clear hb
      go_wp2
      go_ret
      exact ⟨rfl, HB.out⟩
    · have d1 : decide ((30 : Int) < (n : Int)) = false := decide_eq_false (by omega)
      have d2 : decide ((200 : Int) < (m : Int)) = true := decide_eq_true (by omega)
      clear hx h h'
      go_wp2_with fail
      refine (K.out.alive w2 HB.out).mono ?_
      rintro e w3 ⟨rfl, hb⟩
      replace HB := Lib.hid (HB.out.trans (hb.mono HB.out.size))
      clear hb
      go_wp2
      go_ret
      exact ⟨rfl, HB.out⟩

end Go.Proofs.YtedfcnlhdicipaaGreatDoor
