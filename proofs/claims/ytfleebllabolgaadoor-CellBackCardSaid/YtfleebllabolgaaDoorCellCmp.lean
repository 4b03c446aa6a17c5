/-
  The document's own answer for layer 4 (deckleref04): Compare.
-/
import Derived.Test.YtfleebllabolgaaDoorCellOrd
import Derived.Test.YtfleebllabolgaaDoorBlocks
set_option linter.unusedVariables false
set_option linter.unusedSimpArgs false
namespace Go.Proofs.YtfleebllabolgaaDoor
open Go.RowKit

theorem new_cellC {w : World} {t : TypeId} {c : Array Value} {i : Nat} {u : Value} {b : Nat} (h : w.heap[b]? = some (.cells c t (0, 0))) (hu : c[i]? = some u) : w.cell? ⟨b, i, none⟩ = some u := by rw [cell_of_row _ _ _ _ _ _ h, hu]

/-- Is one cell ahead of another one? -/
def aheadK (kind : Int) (x : Nat) (l : List UInt8) (y : Nat) (m : List UInt8) : Bool :=
  if kind = 0 then decide (wrap64 (x : Int) < wrap64 (y : Int)) else if kind = 3 ∨ kind = 4 then Op.bytesLess l m else if kind = 5 then decide (tkey x < tkey y) else decide (x < y)

theorem ref_ahead (kind : Int) (hk : 0 ≤ kind ∧ kind ≤ 5) (x y : Nat) (hx : x < 18446744073709551616) (hy : y < 18446744073709551616) (s t : ByteArray) (l m : List UInt8) (w : World) (hs : RdS s l) (ht : RdS t m) :
    Calls Tryd.prog 33 #[.int .i64 kind, cellV x s, cellV y t] w fun e w' => e = .returned (.bool (aheadK kind x l y m)) ∧ Below w.heap.size w w' := by
  obtain rfl | rfl | rfl | rfl | rfl | rfl : kind = 0 ∨ kind = 1 ∨ kind = 2 ∨ kind = 3 ∨ kind = 4 ∨ kind = 5 := by omega
  · rw [show aheadK 0 x l y m = decide (wrap64 (x : Int) < wrap64 (y : Int)) from by unfold aheadK; simp]; exact ref_ahead0 x y hx hy s t l m w hs ht
  · rw [show aheadK 1 x l y m = decide (x < y) from by unfold aheadK; simp]; exact ref_ahead1 x y hx hy s t l m w hs ht
  · rw [show aheadK 2 x l y m = decide (x < y) from by unfold aheadK; simp]; exact ref_ahead2 x y hx hy s t l m w hs ht
  · rw [show aheadK 3 x l y m = Op.bytesLess l m from by unfold aheadK; simp]; exact ref_ahead3 x y hx hy s t l m w hs ht
  · rw [show aheadK 4 x l y m = Op.bytesLess l m from by unfold aheadK; simp]; exact ref_ahead4 x y hx hy s t l m w hs ht
  · rw [show aheadK 5 x l y m = decide (tkey x < tkey y) from by unfold aheadK; simp]; exact ref_ahead5 x y hx hy s t l m w hs ht

theorem check_kind {kind : Int} {x : Nat} {l : List UInt8} (h : checkC kind x l = 0) : 0 ≤ kind ∧ kind ≤ 5 := by
  unfold checkC at h
  by_cases h1 : kind < 0 ∨ 5 < kind
  · rw [if_pos h1] at h; exact absurd h (by decide)
  · omega

/-- How two cells stand to each other. -/
def cmpC (kind : Int) (x : Nat) (l : List UInt8) (y : Nat) (m : List UInt8) : Int :=
  if checkC kind x l ≠ 0 ∨ checkC kind y m ≠ 0 then 0 else if aheadK kind x l y m = true then -1 else if aheadK kind y m x l = true then 1 else 0

set_option maxHeartbeats 1000000 in
set_option maxRecDepth 1000000 in
theorem ref_Compare (kind : Int) (hk : -9223372036854775808 ≤ kind ∧ kind ≤ 9223372036854775807) (x y : Nat) (hx : x < 18446744073709551616) (hy : y < 18446744073709551616) (s t : ByteArray) (l m : List UInt8) (w : World) (hs : RdS s l) (ht : RdS t m) :
    Calls Tryd.prog 14 #[.int .i64 kind, cellV x s, cellV y t] w fun e w' => e = .returned (.int .i64 (cmpC kind x l y m)) ∧ Below w.heap.size w w' := by
  obtain ⟨N0, N1, N2, N3⟩ := new2 w (.cells #[.int .u64 (x : Int), .string s] 24) (.cells #[.int .u64 (y : Int), .string t] 24)
  obtain ⟨w0, hw0⟩ : ∃ w0, w0 = (w.alloc (.cells #[.int .u64 (x : Int), .string s] 24)).alloc (.cells #[.int .u64 (y : Int), .string t] 24) := ⟨_, rfl⟩
  rw [← hw0] at N0 N1 N2 N3
  have HB := Lib.hid N3
  have hC := fun (w1 : World) => ref_Check kind x s l w1 hs hk hx
  have hD := fun (w1 : World) => ref_Check kind y t m w1 ht hk hy
  have hcv : ∀ n u, cellV n u = .agg #[.int .u64 (n : Int), .string u] := fun _ _ => rfl
  go_enter Tryd.func14, Tryd.ntmps14
  go_wp2_with fail
  rw [← hw0]
  clear hw0
  refine (hC w0).mono ?_
  rintro e w1 ⟨rfl, hb1⟩
  have s0 := (hb1.block _ (by omega)).trans N1
  have s1 := (hb1.block _ (by omega)).trans N2
  have a0 := new_cellC (i := 0) s0 rfl
  have a1 := new_cellC (i := 1) s0 rfl
  have b0 := new_cellC (i := 0) s1 rfl
  have b1 := new_cellC (i := 1) s1 rfl
  have HB1 := Lib.hid (HB.out.trans (hb1.mono (by omega)))
  have hs1 := hb1.size
  obtain ⟨cx, hcx⟩ : ∃ cx, cx = checkC kind x l := ⟨_, rfl⟩
  obtain ⟨cy, hcy⟩ : ∃ cy, cy = checkC kind y m := ⟨_, rfl⟩
  rw [← hcx]
  have HX := Lib.hid hcx
  have HY := Lib.hid hcy
  by_cases h1 : cx = 0
  · subst h1
    have HC0 := Lib.hid hcx.symm
    clear hcx hb1 N1 N2 N3
    go_wp2_with fail
    refine (hD w1).mono ?_
    rintro e w2 ⟨rfl, hb2⟩
    rw [← HY.out]
    have t0 := (hb2.block _ (by omega)).trans s0
    have t1 := (hb2.block _ (by omega)).trans s1
    have c0 := new_cellC (i := 0) t0 rfl
    have c1 := new_cellC (i := 1) t0 rfl
    have d0 := new_cellC (i := 0) t1 rfl
    have d1 := new_cellC (i := 1) t1 rfl
    have HB2 := Lib.hid (HB1.out.trans (hb2.mono HB1.out.size))
    have hs2 := hb2.size
    by_cases h2 : cy = 0
    · subst h2
      have hk6 := check_kind HC0.out
      clear hb2 s0 s1 a0 a1 b0 b1 hcy hC hD
      go_wp2_with fail
      refine (ref_ahead kind hk6 x y hx hy s t l m w2 hs ht).mono ?_
      rintro e w3 ⟨rfl, hb3⟩
      have u0 := (hb3.block _ (by omega)).trans t0
      have u1 := (hb3.block _ (by omega)).trans t1
      have e0 := new_cellC (i := 0) u0 rfl
      have e1 := new_cellC (i := 1) u0 rfl
      have f0 := new_cellC (i := 0) u1 rfl
      have f1 := new_cellC (i := 1) u1 rfl
      have HB3 := Lib.hid (HB2.out.trans (hb3.mono HB2.out.size))
      have hcm : cmpC kind x l y m = if aheadK kind x l y m = true then -1 else if aheadK kind y m x l = true then 1 else 0 := by
        unfold cmpC
        rw [if_neg (by rw [HC0.out, ← HY.out]; simp)]
      have HCM := Lib.hid hcm
      clear hcm
      cases hah : aheadK kind x l y m with
      | true =>
        clear hb3 t0 t1 c0 c1 d0 d1
        have HE := Lib.hid (show cmpC kind x l y m = -1 by rw [HCM.out, if_pos hah])
        clear hah
        go_wp2
        go_ret
        refine ⟨?_, HB3.out⟩
        rw [HE.out]
        rfl
      | false =>
        clear hb3 t0 t1 c0 c1 d0 d1
        go_wp2_with fail
        refine (ref_ahead kind hk6 y x hy hx t s m l w3 ht hs).mono ?_
        rintro e w4 ⟨rfl, hb4⟩
        have HB4 := Lib.hid (HB3.out.trans (hb4.mono HB3.out.size))
        clear hb4
        cases hbh : aheadK kind y m x l with
        | true =>
          have HE := Lib.hid (show cmpC kind x l y m = 1 by rw [HCM.out, if_neg (by simp [hah]), if_pos hbh])
          clear hah hbh
          go_wp2
          go_ret
          refine ⟨?_, HB4.out⟩
          rw [HE.out]
          rfl
        | false =>
          have HE := Lib.hid (show cmpC kind x l y m = 0 by rw [HCM.out, if_neg (by simp [hah]), if_neg (by simp [hbh])])
          clear hah hbh
          go_wp2
          go_ret
          refine ⟨?_, HB4.out⟩
          rw [HE.out]
          rfl
    · have hne : ((cy : Int) != 0) = true := by simp; omega
      have HE := Lib.hid (show cmpC kind x l y m = 0 from by unfold cmpC; rw [if_pos (.inr (by rw [← HY.out]; exact h2))])
      clear hb2 s0 s1 a0 a1 b0 b1 hcy hC hD t0 t1
      go_wp2
      go_ret
      refine ⟨?_, HB2.out⟩
      rw [HE.out]
      rfl
  · have hne : ((cx : Int) != 0) = true := by simp; omega
    have HE := Lib.hid (show cmpC kind x l y m = 0 from by unfold cmpC; rw [if_pos (.inl (by rw [← HX.out]; exact h1))])
    clear hcx hcy hb1 N1 N2 N3 hC hD s0 s1
    go_wp2
    go_ret
    refine ⟨?_, HB1.out⟩
    rw [HE.out]
    rfl

end Go.Proofs.YtfleebllabolgaaDoor
