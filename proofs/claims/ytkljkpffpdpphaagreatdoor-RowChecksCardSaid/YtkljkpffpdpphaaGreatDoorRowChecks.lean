/-
  RowChecks: the law's own walk.
-/
import Derived.Test.YtkljkpffpdpphaaGreatDoorGAlive
import Derived.Test.YtkljkpffpdpphaaGreatDoorRowSame
import Derived.Test.YtkljkpffpdpphaaGreatDoorGCmpR
set_option linter.unusedVariables false
set_option linter.unusedSimpArgs false
set_option maxRecDepth 1000000
namespace Go.Proofs.YtkljkpffpdpphaaGreatDoor
open Go.RowKit Go.Shelf

set_option maxHeartbeats 8000000 in
theorem rowChecks_walk (v1 : Value) (cs : List ColB) (v2 : Value) (a : List CellB) (v3 : Value) (b : List CellB) (w : World) (hR1 : RdC w v1 cs) (hC : CS cs) (hR2 : RdE w v2 a) (hA : CES a) (hR3 : RdE w v3 b) (hB : CES b) (hT : Tabs w) (hL : Lib4 w) (hX : Mx w) :
    Calls Tryz.prog 3 #[v1, v2, v3] w fun e w' => e = .returned (.bool true) ∧ Below w.heap.size w w' := by
  have hl1 := hR1.len
  have hsm1 := hR1.small
  have R1 := Lib.hid (fun wz (hz : Below w.heap.size w wz) => hR1.later hz (Nat.le_refl _))
  have R2 := Lib.hid (fun wz (hz : Below w.heap.size w wz) => hR2.later hz (Nat.le_refl _))
  have R3 := Lib.hid (fun wz (hz : Below w.heap.size w wz) => hR3.later hz (Nat.le_refl _))
  have AL := Lib.hid (fun wz (hz : Below w.heap.size w wz) => law06_alive wz (hL.later hz) (hX.later hz))
  have GR := Lib.hid (fun wz (hz : Below w.heap.size w wz) => great_two v2 v3 a b wz (fun wy hy => R2.out wy (hz.trans (hy.mono hz.size))) (fun wy hy => R3.out wy (hz.trans (hy.mono hz.size))))
  obtain ⟨x, hx⟩ : ∃ x : Int, x = (errRow cs a : Nat) := ⟨_, rfl⟩
  obtain ⟨y, hy⟩ : ∃ y : Int, y = cmpR cs a b := ⟨_, rfl⟩
  obtain ⟨z, hz⟩ : ∃ z : Int, z = sizeW a := ⟨_, rfl⟩
  obtain ⟨d, hd⟩ : ∃ d : Bool, d = decide (a = b) := ⟨_, rfl⟩
  have C1 := Lib.hid (fun wz (h : Below w.heap.size w wz) => row_Check v1 v2 cs a wz (R1.out wz h) (R2.out wz h) hC hA (hT.later h))
  have C2 := Lib.hid (fun wz (h : Below w.heap.size w wz) => ref_Check06 v1 v2 cs a wz (R1.out wz h) (R2.out wz h) hC hA)
  have C3 := Lib.hid (fun wz (h : Below w.heap.size w wz) => row_Compare v1 v2 v3 cs a b wz (R1.out wz h) (R2.out wz h) (R3.out wz h) hC hA hB (hT.later h))
  have C4 := Lib.hid (fun wz (h : Below w.heap.size w wz) => ref_Compare06 v1 v2 v3 cs a b wz (R1.out wz h) (R2.out wz h) (R3.out wz h) hC hA hB)
  have C5 := Lib.hid (fun wz (h : Below w.heap.size w wz) => row_Size v2 a wz (R2.out wz h))
  have C6 := Lib.hid (fun wz (h : Below w.heap.size w wz) => ref_Size06 v2 a wz (R2.out wz h))
  have C7 := Lib.hid (fun wz (h : Below w.heap.size w wz) => row_Same v2 v3 a b wz (R2.out wz h) (R3.out wz h))
  have C8 := Lib.hid (fun wz (h : Below w.heap.size w wz) => ref_Same06 v2 v3 a b wz (R2.out wz h) (R3.out wz h))
  have C9 := Lib.hid (fun wz (h : Below w.heap.size w wz) => (show Calls Tryz.prog 16 #[v2, v2] wz fun e w' => e = .returned (.bool true) ∧ Below wz.heap.size wz w' from by
    have := row_Same v2 v2 a a wz (R2.out wz h) (R2.out wz h); rwa [decide_eq_true rfl] at this))
  rw [← hx] at C1 C2
  rw [← hy] at C3 C4
  rw [← hz] at C5 C6
  rw [← hd] at C7 C8
  obtain ⟨n, hn⟩ : ∃ n, n = cs.length := ⟨_, rfl⟩
  rw [← hn] at hl1 hsm1
  obtain ⟨ao2, cap2, hv2, _⟩ := RdG.shape hR2
  obtain ⟨ao3, cap3, hv3, _⟩ := RdG.shape hR3
  generalize (a.map cellVs).length = n2 at hv2
  generalize (b.map cellVs).length = n3 at hv3
  subst hv2 hv3
  clear hR1 hR2 hR3 hL hX hT hx hy hz hd hn
  go_enter Tryz.func3, Tryz.ntmps3
  go_wp2_with fail
  refine (AL.out w (Below.refl _ _)).mono ?_
  rintro e w1 ⟨rfl, hb⟩
  have HB1 := Lib.hid hb
  clear hb
  go_wp2_with fail
  refine (GR.out w1 HB1.out).mono ?_
  rintro e w2 ⟨g1, rfl, hb⟩
  have HB2 := Lib.hid (HB1.out.trans (hb.mono HB1.out.size))
  clear hb
  by_cases hbig : g1 = true ∨ 30 < n
  · have HG := Lib.hid hbig
    clear hbig
    cases g1 with
    | true =>
      go_wp2_with fail
      refine (AL.out w2 HB2.out).mono ?_
      rintro e w3 ⟨rfl, hb⟩
      have HB3 := Lib.hid (HB2.out.trans (hb.mono HB2.out.size))
      clear hb
      go_wp2
      go_ret
      exact ⟨rfl, HB3.out⟩
    | false =>
      have d30 : decide ((n : Int) > 30) = true := decide_eq_true (by rcases HG.out with h | h; (cases h); omega)
      go_wp2_with fail
      refine (AL.out w2 HB2.out).mono ?_
      rintro e w3 ⟨rfl, hb⟩
      have HB3 := Lib.hid (HB2.out.trans (hb.mono HB2.out.size))
      clear hb
      go_wp2
      go_ret
      exact ⟨rfl, HB3.out⟩
  · obtain rfl : g1 = false := by cases g1; rfl; exact absurd (.inl rfl) hbig
    have hn30 : n ≤ 30 := by
      by_cases h : 30 < n
      · exact absurd (.inr h) hbig
      · omega
    have d30 : decide ((n : Int) > 30) = false := decide_eq_false (by omega)
    clear hbig
    go_wp2_with fail
    refine (C1.out w2 HB2.out).mono ?_
    rintro e w3 ⟨rfl, hb⟩
    have HB3 := Lib.hid (HB2.out.trans (hb.mono HB2.out.size))
    clear hb
    go_wp2_with fail
    refine (C2.out w3 HB3.out).mono ?_
    rintro e w4 ⟨rfl, hb⟩
    have HB4 := Lib.hid (HB3.out.trans (hb.mono HB3.out.size))
    clear hb
    go_wp2_with fail
    refine (C3.out w4 HB4.out).mono ?_
    rintro e w5 ⟨rfl, hb⟩
    have HB5 := Lib.hid (HB4.out.trans (hb.mono HB4.out.size))
    clear hb
    go_wp2_with fail
    refine (C4.out w5 HB5.out).mono ?_
    rintro e w6 ⟨rfl, hb⟩
    have HB6 := Lib.hid (HB5.out.trans (hb.mono HB5.out.size))
    clear hb
    go_wp2_with fail
    refine (C5.out w6 HB6.out).mono ?_
    rintro e w7 ⟨rfl, hb⟩
    have HB7 := Lib.hid (HB6.out.trans (hb.mono HB6.out.size))
    clear hb
    go_wp2_with fail
    refine (C6.out w7 HB7.out).mono ?_
    rintro e w8 ⟨rfl, hb⟩
    have HB8 := Lib.hid (HB7.out.trans (hb.mono HB7.out.size))
    clear hb
    go_wp2_with fail
    refine (C7.out w8 HB8.out).mono ?_
    rintro e w9 ⟨rfl, hb⟩
    have HB9 := Lib.hid (HB8.out.trans (hb.mono HB8.out.size))
    clear hb
    go_wp2_with fail
    refine (C8.out w9 HB9.out).mono ?_
    rintro e w10 ⟨rfl, hb⟩
    have HB10 := Lib.hid (HB9.out.trans (hb.mono HB9.out.size))
    clear hb
    go_wp2_with fail
    refine (C9.out w10 HB10.out).mono ?_
    rintro e w11 ⟨rfl, hb⟩
    have HB11 := Lib.hid (HB10.out.trans (hb.mono HB10.out.size))
    clear hb
    go_wp2
    go_ret
    exact ⟨rfl, HB11.out⟩
end Go.Proofs.YtkljkpffpdpphaaGreatDoor
