/-
  Package cell: Compare.
-/
import Derived.Test.YtkljkpffpdpphaaGreatDoorCellB
set_option linter.unusedVariables false
set_option linter.unusedSimpArgs false
set_option maxRecDepth 1000000
namespace Go.Proofs.YtkljkpffpdpphaaGreatDoor
open Go.RowKit Go.Shelf

theorem compareBytes_eq : ∀ (l m : List UInt8), Lib.compareBytes l m = if Op.bytesLess l m = true then -1 else if Op.bytesLess m l = true then 1 else 0
  | [], [] => by simp [Lib.compareBytes, Op.bytesLess]
  | [], _ :: _ => by simp [Lib.compareBytes, Op.bytesLess]
  | _ :: _, [] => by simp [Lib.compareBytes, Op.bytesLess]
  | a :: r, b :: t => by
    have ih := compareBytes_eq r t
    unfold Lib.compareBytes Op.bytesLess
    by_cases h1 : a < b
    · have h2 : ¬ b < a := by simp only [UInt8.lt_iff_toNat_lt] at *; omega
      simp [h1, h2]
    · by_cases h2 : b < a
      · have h3 : a ≠ b := fun e => by subst e; exact h1 h2
        simp [h1, h2, h3]
      · have e : a = b := by
          have h3 : ¬ a.toNat < b.toNat := by rw [← UInt8.lt_iff_toNat_lt]; exact h1
          have h4 : ¬ b.toNat < a.toNat := by rw [← UInt8.lt_iff_toNat_lt]; exact h2
          exact UInt8.toNat_inj.1 (by omega)
        subst e
        simp [h1, ih]

theorem gw_cell {w : World} {b : Nat} {c : Array Value} {t : TypeId} {i : Nat} {u : Value} (h : w.heap[b]? = some (.cells c t (0, 0))) (hu : c[i]? = some u) (a : Ord.GW w.drew) : a.val.cell? ⟨b, i, none⟩ = some u := by
  have hlt : b < w.heap.size := by
    rcases Nat.lt_or_ge b w.heap.size with h' | h'
    · exact h'
    · rw [Array.getElem?_eq_none h'] at h; cases h
  exact new_cellC ((a.grew.block b hlt).trans h) hu

section
variable {x y : Nat} {l m : List UInt8}
theorem cmpC_num {kind : Int} (h1 : checkC kind x l = 0) (h2 : checkC kind y m = 0) : cmpC kind x l y m = if aheadK kind x l y m = true then -1 else if aheadK kind y m x l = true then 1 else 0 := by
  unfold cmpC
  rw [if_neg (by simp [h1, h2])]
theorem cmpC_0 (h1 : checkC 0 x l = 0) (h2 : checkC 0 y m = 0) : cmpC 0 x l y m = ordZ (wrap64 (x : Int)) (wrap64 (y : Int)) := by
  rw [cmpC_num h1 h2]; simp [aheadK, ordZ]
theorem cmpC_1 (h1 : checkC 1 x l = 0) (h2 : checkC 1 y m = 0) : cmpC 1 x l y m = ordZ (x : Int) (y : Int) := by
  rw [cmpC_num h1 h2]; simp [aheadK, ordZ]
theorem cmpC_2 (h1 : checkC 2 x l = 0) (h2 : checkC 2 y m = 0) : cmpC 2 x l y m = ordZ (x : Int) (y : Int) := by
  rw [cmpC_num h1 h2]; simp [aheadK, ordZ]
theorem cmpC_3 (h1 : checkC 3 x l = 0) (h2 : checkC 3 y m = 0) : cmpC 3 x l y m = Lib.compareBytes l m := by
  rw [cmpC_num h1 h2, compareBytes_eq]; rfl
theorem cmpC_4 (h1 : checkC 4 x l = 0) (h2 : checkC 4 y m = 0) : cmpC 4 x l y m = Lib.compareBytes l m := by
  rw [cmpC_num h1 h2, compareBytes_eq]; rfl
theorem cmpC_5 (h1 : checkC 5 x l = 0) (h2 : checkC 5 y m = 0) : cmpC 5 x l y m = ordZ (tkey x + 9223372036854775808) (tkey y + 9223372036854775808) := by
  rw [cmpC_num h1 h2]; simp [aheadK, ordZ]
end

set_option maxHeartbeats 8000000 in
theorem cell_Compare (kind : Int) (x y : Nat) (hx : x < 18446744073709551616) (hy : y < 18446744073709551616) (s t : ByteArray) (l m : List UInt8) (w : World) (hs : RdS s l) (ht : RdS t m) (hT : Tabs w) :
    Calls Tryz.prog 28 #[.int .i64 kind, cellV x s, cellV y t] w fun e w' => e = .returned (.int .i64 (cmpC kind x l y m)) ∧ Below w.heap.size w w' := by
  obtain ⟨N0, N1, N2, N3⟩ := new2 w (.cells #[.int .u64 (x : Int), .string s] 45) (.cells #[.int .u64 (y : Int), .string t] 45)
  obtain ⟨w0, hw0⟩ : ∃ w0, w0 = (w.alloc (.cells #[.int .u64 (x : Int), .string s] 45)).alloc (.cells #[.int .u64 (y : Int), .string t] 45) := ⟨_, rfl⟩
  rw [← hw0] at N0 N1 N2 N3
  have HB := Lib.hid N3
  have a0 := new_cellC (i := 0) N1 rfl
  have a1 := new_cellC (i := 1) N1 rfl
  have hC := cell_Check kind x s l w0 hs (hT.later N3)
  have hDD := fun (w1 : World) (h1 : Below w0.heap.size w0 w1) => cell_Check kind y t m w1 ht ((hT.later N3).later h1)
  have hcv : ∀ n u, cellV n u = .agg #[.int .u64 (n : Int), .string u] := fun _ _ => rfl
  clear N3 hT
  by_cases hcx : checkC kind x l = 0
  · by_cases hcy : checkC kind y m = 0
    · have hk6 := check_kind hcx
      obtain rfl | rfl | rfl | rfl | rfl | rfl : kind = 0 ∨ kind = 1 ∨ kind = 2 ∨ kind = 3 ∨ kind = 4 ∨ kind = 5 := by omega
      · rw [show cmpC 0 x l y m = ordZ (wrap64 (x : Int)) (wrap64 (y : Int)) from cmpC_0 hcx hcy]
        have HX := Lib.hid hcx
        have HY := Lib.hid hcy
        clear hcx hcy
        go_enter Tryz.func28, Tryz.ntmps28
        go_wp2_with fail
        rw [← hw0]
        clear hw0
        refine hC.mono ?_
        rintro e w1 ⟨rfl, hb1⟩
        rw [HX.out]
        have s0 := (hb1.block _ (by omega)).trans N1
        have s1 := (hb1.block _ (by omega)).trans N2
        have b0 := new_cellC (i := 0) s1 rfl
        have b1 := new_cellC (i := 1) s1 rfl
        have HB1 := Lib.hid (HB.out.trans (hb1.mono (by omega)))
        have hs1 := hb1.size
        have hD := hDD w1 hb1
        clear hb1 N1 N2 hC
        go_wp2_with fail
        refine hD.mono ?_
        rintro e w2 ⟨rfl, hb2⟩
        rw [HY.out]
        have t0 := (hb2.block _ (by omega)).trans s0
        have t1 := (hb2.block _ (by omega)).trans s1
        have c0 := new_cellC (i := 0) t0 rfl
        have c1 := new_cellC (i := 1) t0 rfl
        have d0 := new_cellC (i := 0) t1 rfl
        have d1 := new_cellC (i := 1) t1 rfl
        have HB2 := Lib.hid (HB1.out.trans (hb2.mono HB1.out.size))
        have hs2 := hb2.size
        clear hb2 s0 s1 b0 b1 hD hDD
        go_wp2_with fail
        have g0 := gw_cell (i := 0) t0 rfl
        have g1 := gw_cell (i := 1) t0 rfl
        have g2 := gw_cell (i := 0) t1 rfl
        have g3 := gw_cell (i := 1) t1 rfl
        refine Ord.wp_region_ord [(0, false), (2, false), (1, true), (3, true), (4, true), (5, false)] (by kernel_rfl) rfl (by kernel_rfl) (by kernel_rfl) (fun _ _ _ d _ h => by cases d <;> exact h) ?_
        refine Ord.ord_still rfl rfl (by kernel_rfl) (fun K hK => ?_)
        go_big_quiet_op
        refine hK _ ?_; clear hK K
        refine Ord.ord_still rfl rfl (by kernel_rfl) (fun K hK => ?_)
        go_big_quiet_op
        refine hK _ ?_; clear hK K
        refine Ord.ord_loud rfl (by kernel_rfl) (fun K hK => ?_)
        go_big_op
        refine (cell_Signed x hx s _).mono ?_
        rintro e w3 ⟨rfl, hb3⟩
        have hsd : w2.drew.heap.size = w2.heap.size := rfl
        have t3 := (hb3.block _ (by omega)).trans t1
        have HB3 := Lib.hid (HB2.out.drew.trans (hb3.mono HB2.out.drew.size))
        have d2 := new_cellC (i := 0) t3 rfl
        have d3 := new_cellC (i := 1) t3 rfl
        have hs3 := hb3.size
        refine hK _ _ hb3 ?_
        clear hb3
        clear hK K
        refine Ord.ord_loud rfl (by kernel_rfl) (fun K hK => ?_)
        go_big_op
        refine (cell_Signed y hy t _).mono ?_
        rintro e w4 ⟨rfl, hb4⟩
        have HB4 := Lib.hid (HB3.out.trans (hb4.mono HB3.out.size))
        refine hK _ _ hb4 ?_
        clear hb4
        clear hK K
        refine Ord.ord_loud rfl (by kernel_rfl) (fun K hK => ?_)
        go_big_op
        refine (cmp_i64 _ _ _).mono ?_
        rintro e w5 ⟨rfl, rfl⟩
        refine hK _ _ (Ord.Grew.refl _) ?_
        clear hK K
        refine Ord.ord_still rfl rfl (by kernel_rfl) (fun K hK => ?_)
        go_big_quiet_op
        refine hK _ ?_; clear hK K
        refine Ord.ord_nil ?_
        go_wp2
        go_ret
        exact ⟨rfl, HB4.out⟩
      · rw [show cmpC 1 x l y m = ordZ (x : Int) (y : Int) from cmpC_1 hcx hcy]
        have HX := Lib.hid hcx
        have HY := Lib.hid hcy
        clear hcx hcy
        go_enter Tryz.func28, Tryz.ntmps28
        go_wp2_with fail
        rw [← hw0]
        clear hw0
        refine hC.mono ?_
        rintro e w1 ⟨rfl, hb1⟩
        rw [HX.out]
        have s0 := (hb1.block _ (by omega)).trans N1
        have s1 := (hb1.block _ (by omega)).trans N2
        have b0 := new_cellC (i := 0) s1 rfl
        have b1 := new_cellC (i := 1) s1 rfl
        have HB1 := Lib.hid (HB.out.trans (hb1.mono (by omega)))
        have hs1 := hb1.size
        have hD := hDD w1 hb1
        clear hb1 N1 N2 hC
        go_wp2_with fail
        refine hD.mono ?_
        rintro e w2 ⟨rfl, hb2⟩
        rw [HY.out]
        have t0 := (hb2.block _ (by omega)).trans s0
        have t1 := (hb2.block _ (by omega)).trans s1
        have c0 := new_cellC (i := 0) t0 rfl
        have c1 := new_cellC (i := 1) t0 rfl
        have d0 := new_cellC (i := 0) t1 rfl
        have d1 := new_cellC (i := 1) t1 rfl
        have HB2 := Lib.hid (HB1.out.trans (hb2.mono HB1.out.size))
        have hs2 := hb2.size
        clear hb2 s0 s1 b0 b1 hD hDD
        go_wp2_with fail
        refine (cmp_u64 _ _ _).mono ?_
        rintro e w3 ⟨rfl, rfl⟩
        go_wp2
        go_ret
        exact ⟨rfl, HB2.out⟩
      · rw [show cmpC 2 x l y m = ordZ (x : Int) (y : Int) from cmpC_2 hcx hcy]
        have HX := Lib.hid hcx
        have HY := Lib.hid hcy
        clear hcx hcy
        go_enter Tryz.func28, Tryz.ntmps28
        go_wp2_with fail
        rw [← hw0]
        clear hw0
        refine hC.mono ?_
        rintro e w1 ⟨rfl, hb1⟩
        rw [HX.out]
        have s0 := (hb1.block _ (by omega)).trans N1
        have s1 := (hb1.block _ (by omega)).trans N2
        have b0 := new_cellC (i := 0) s1 rfl
        have b1 := new_cellC (i := 1) s1 rfl
        have HB1 := Lib.hid (HB.out.trans (hb1.mono (by omega)))
        have hs1 := hb1.size
        have hD := hDD w1 hb1
        clear hb1 N1 N2 hC
        go_wp2_with fail
        refine hD.mono ?_
        rintro e w2 ⟨rfl, hb2⟩
        rw [HY.out]
        have t0 := (hb2.block _ (by omega)).trans s0
        have t1 := (hb2.block _ (by omega)).trans s1
        have c0 := new_cellC (i := 0) t0 rfl
        have c1 := new_cellC (i := 1) t0 rfl
        have d0 := new_cellC (i := 0) t1 rfl
        have d1 := new_cellC (i := 1) t1 rfl
        have HB2 := Lib.hid (HB1.out.trans (hb2.mono HB1.out.size))
        have hs2 := hb2.size
        clear hb2 s0 s1 b0 b1 hD hDD
        go_wp2_with fail
        refine (cmp_u64 _ _ _).mono ?_
        rintro e w3 ⟨rfl, rfl⟩
        go_wp2
        go_ret
        exact ⟨rfl, HB2.out⟩
      · rw [show cmpC 3 x l y m = Lib.compareBytes l m from cmpC_3 hcx hcy]
        have HX := Lib.hid hcx
        have HY := Lib.hid hcy
        clear hcx hcy
        go_enter Tryz.func28, Tryz.ntmps28
        go_wp2_with fail
        rw [← hw0]
        clear hw0
        refine hC.mono ?_
        rintro e w1 ⟨rfl, hb1⟩
        rw [HX.out]
        have s0 := (hb1.block _ (by omega)).trans N1
        have s1 := (hb1.block _ (by omega)).trans N2
        have b0 := new_cellC (i := 0) s1 rfl
        have b1 := new_cellC (i := 1) s1 rfl
        have HB1 := Lib.hid (HB.out.trans (hb1.mono (by omega)))
        have hs1 := hb1.size
        have hD := hDD w1 hb1
        clear hb1 N1 N2 hC
        go_wp2_with fail
        refine hD.mono ?_
        rintro e w2 ⟨rfl, hb2⟩
        rw [HY.out]
        have t0 := (hb2.block _ (by omega)).trans s0
        have t1 := (hb2.block _ (by omega)).trans s1
        have c0 := new_cellC (i := 0) t0 rfl
        have c1 := new_cellC (i := 1) t0 rfl
        have d0 := new_cellC (i := 0) t1 rfl
        have d1 := new_cellC (i := 1) t1 rfl
        have HB2 := Lib.hid (HB1.out.trans (hb2.mono HB1.out.size))
        have hs2 := hb2.size
        clear hb2 s0 s1 b0 b1 hD hDD
        go_wp2_with fail
        refine (lib_Compare s t l m _ hs ht).mono ?_
        rintro e w3 ⟨rfl, rfl⟩
        go_wp2
        go_ret
        exact ⟨rfl, HB2.out⟩
      · rw [show cmpC 4 x l y m = Lib.compareBytes l m from cmpC_4 hcx hcy]
        have HX := Lib.hid hcx
        have HY := Lib.hid hcy
        clear hcx hcy
        go_enter Tryz.func28, Tryz.ntmps28
        go_wp2_with fail
        rw [← hw0]
        clear hw0
        refine hC.mono ?_
        rintro e w1 ⟨rfl, hb1⟩
        rw [HX.out]
        have s0 := (hb1.block _ (by omega)).trans N1
        have s1 := (hb1.block _ (by omega)).trans N2
        have b0 := new_cellC (i := 0) s1 rfl
        have b1 := new_cellC (i := 1) s1 rfl
        have HB1 := Lib.hid (HB.out.trans (hb1.mono (by omega)))
        have hs1 := hb1.size
        have hD := hDD w1 hb1
        clear hb1 N1 N2 hC
        go_wp2_with fail
        refine hD.mono ?_
        rintro e w2 ⟨rfl, hb2⟩
        rw [HY.out]
        have t0 := (hb2.block _ (by omega)).trans s0
        have t1 := (hb2.block _ (by omega)).trans s1
        have c0 := new_cellC (i := 0) t0 rfl
        have c1 := new_cellC (i := 1) t0 rfl
        have d0 := new_cellC (i := 0) t1 rfl
        have d1 := new_cellC (i := 1) t1 rfl
        have HB2 := Lib.hid (HB1.out.trans (hb2.mono HB1.out.size))
        have hs2 := hb2.size
        clear hb2 s0 s1 b0 b1 hD hDD
        go_wp2_with fail
        refine (lib_Compare s t l m _ hs ht).mono ?_
        rintro e w3 ⟨rfl, rfl⟩
        go_wp2
        go_ret
        exact ⟨rfl, HB2.out⟩
      · rw [show cmpC 5 x l y m = ordZ (tkey x + 9223372036854775808) (tkey y + 9223372036854775808) from cmpC_5 hcx hcy]
        have HX := Lib.hid hcx
        have HY := Lib.hid hcy
        clear hcx hcy
        go_enter Tryz.func28, Tryz.ntmps28
        go_wp2_with fail
        rw [← hw0]
        clear hw0
        refine hC.mono ?_
        rintro e w1 ⟨rfl, hb1⟩
        rw [HX.out]
        have s0 := (hb1.block _ (by omega)).trans N1
        have s1 := (hb1.block _ (by omega)).trans N2
        have b0 := new_cellC (i := 0) s1 rfl
        have b1 := new_cellC (i := 1) s1 rfl
        have HB1 := Lib.hid (HB.out.trans (hb1.mono (by omega)))
        have hs1 := hb1.size
        have hD := hDD w1 hb1
        clear hb1 N1 N2 hC
        go_wp2_with fail
        refine hD.mono ?_
        rintro e w2 ⟨rfl, hb2⟩
        rw [HY.out]
        have t0 := (hb2.block _ (by omega)).trans s0
        have t1 := (hb2.block _ (by omega)).trans s1
        have c0 := new_cellC (i := 0) t0 rfl
        have c1 := new_cellC (i := 1) t0 rfl
        have d0 := new_cellC (i := 0) t1 rfl
        have d1 := new_cellC (i := 1) t1 rfl
        have HB2 := Lib.hid (HB1.out.trans (hb2.mono HB1.out.size))
        have hs2 := hb2.size
        clear hb2 s0 s1 b0 b1 hD hDD
        go_wp2_with fail
        have g0 := gw_cell (i := 0) t0 rfl
        have g1 := gw_cell (i := 1) t0 rfl
        have g2 := gw_cell (i := 0) t1 rfl
        have g3 := gw_cell (i := 1) t1 rfl
        refine Ord.wp_region_ord [(0, false), (1, false), (3, false), (4, false), (2, true), (5, true), (6, true), (7, false)] (by kernel_rfl) rfl (by kernel_rfl) (by kernel_rfl) (fun _ _ _ d _ h => by cases d <;> exact h) ?_
        refine Ord.ord_still rfl rfl (by kernel_rfl) (fun K hK => ?_)
        go_big_quiet_op
        refine hK _ ?_; clear hK K
        refine Ord.ord_still rfl rfl (by kernel_rfl) (fun K hK => ?_)
        go_big_quiet_op
        refine hK _ ?_; clear hK K
        refine Ord.ord_still rfl rfl (by kernel_rfl) (fun K hK => ?_)
        go_big_quiet_op
        refine hK _ ?_; clear hK K
        refine Ord.ord_still rfl rfl (by kernel_rfl) (fun K hK => ?_)
        go_big_quiet_op
        refine hK _ ?_; clear hK K
        refine Ord.ord_loud rfl (by kernel_rfl) (fun K hK => ?_)
        go_big_op
        refine (cell_rank x hx _).mono ?_
        rintro e w3 ⟨rfl, rfl⟩
        refine hK _ _ (Ord.Grew.refl _) ?_
        clear hK K
        refine Ord.ord_loud rfl (by kernel_rfl) (fun K hK => ?_)
        go_big_op
        refine (cell_rank y hy _).mono ?_
        rintro e w4 ⟨rfl, rfl⟩
        refine hK _ _ (Ord.Grew.refl _) ?_
        clear hK K
        refine Ord.ord_loud rfl (by kernel_rfl) (fun K hK => ?_)
        go_big_op
        refine (cmp_u64 _ _ _).mono ?_
        rintro e w5 ⟨rfl, rfl⟩
        refine hK _ _ (Ord.Grew.refl _) ?_
        clear hK K
        refine Ord.ord_still rfl rfl (by kernel_rfl) (fun K hK => ?_)
        go_big_quiet_op
        refine hK _ ?_; clear hK K
        refine Ord.ord_nil ?_
        go_wp2
        go_ret
        exact ⟨rfl, HB2.out.drew⟩
    · rw [show cmpC kind x l y m = 0 from by unfold cmpC; rw [if_pos (.inr hcy)]]
      have HX := Lib.hid hcx
      obtain ⟨cy, hcye⟩ : ∃ cy, checkC kind y m = cy := ⟨_, rfl⟩
      rw [hcye] at hcy hDD
      have hne : ((cy : Int) != 0) = true := by simp; omega
      clear hcx hcye
      go_enter Tryz.func28, Tryz.ntmps28
      go_wp2_with fail
      rw [← hw0]
      clear hw0
      refine hC.mono ?_
      rintro e w1 ⟨rfl, hb1⟩
      rw [HX.out]
      have s1 := (hb1.block _ (by omega)).trans N2
      have b0 := new_cellC (i := 0) s1 rfl
      have b1 := new_cellC (i := 1) s1 rfl
      have HB1 := Lib.hid (HB.out.trans (hb1.mono (by omega)))
      have hD := hDD w1 hb1
      clear hb1 N1 N2 hC hDD
      go_wp2_with fail
      refine hD.mono ?_
      rintro e w2 ⟨rfl, hb2⟩
      have HB2 := Lib.hid (HB1.out.trans (hb2.mono HB1.out.size))
      clear hb2 s1 b0 b1 hD
      go_wp2
      go_ret
      exact ⟨rfl, HB2.out⟩
  · rw [show cmpC kind x l y m = 0 from by unfold cmpC; rw [if_pos (.inl hcx)]]
    obtain ⟨cx, hcxe⟩ : ∃ cx, checkC kind x l = cx := ⟨_, rfl⟩
    rw [hcxe] at hcx hC
    have hne : ((cx : Int) != 0) = true := by simp; omega
    clear hcxe hDD
    go_enter Tryz.func28, Tryz.ntmps28
    go_wp2_with fail
    rw [← hw0]
    clear hw0
    refine hC.mono ?_
    rintro e w1 ⟨rfl, hb1⟩
    have HB1 := Lib.hid (HB.out.trans (hb1.mono (by omega)))
    clear hb1 N1 N2 hC
    go_wp2
    go_ret
    exact ⟨rfl, HB1.out⟩

end Go.Proofs.YtkljkpffpdpphaaGreatDoor
