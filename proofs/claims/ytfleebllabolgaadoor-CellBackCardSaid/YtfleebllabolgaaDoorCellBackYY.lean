/-
  CellBack, one of its four ways.
-/
import Derived.Test.YtfleebllabolgaaDoorCellBackKit
set_option linter.unusedVariables false
set_option linter.unusedSimpArgs false
set_option maxRecDepth 1000000
namespace Go.Proofs.YtfleebllabolgaaDoor
open Go.RowKit Go.Shelf

set_option maxHeartbeats 16000000 in
theorem cellBack_YY (kind : Int) (num : Nat) (s : ByteArray) (l : List UInt8) (x y : Int) (w : World) (hk : -9223372036854775808 ≤ kind ∧ kind ≤ 9223372036854775807) (hnum : num < 18446744073709551616) (hs : RdS s l) (hx : -9223372036854775808 ≤ x ∧ x ≤ 9223372036854775807) (hy : -9223372036854775808 ≤ y ∧ y ≤ 9223372036854775807) (hL : Lib4 w) (hl : ¬ 1000 < l.length) (hc : checkC kind num l = 0) (y0 : Nat) (b0 : List UInt8) (k0 : Nat) (hrl : readV kind l = (some (y0, b0), k0)) :
    Calls Tryd.prog 6 #[.int .i64 kind, cellV num s, .agg #[.int .i64 x, .int .i64 y]] w fun e w' => e = .returned (.bool true) ∧ Below w.heap.size w w' := by
  have HRV := Lib.hid (readV_textK kind num l hnum hc)
  have HC := Lib.hid hc
  clear hc
  have HRL := Lib.hid hrl
  obtain ⟨hk0, hy0, hck, htx⟩ := readV_some kind l y0 b0 k0 hrl
  have HCK := Lib.hid hck
  have HTX := Lib.hid htx
  clear hrl hk0 hck htx
  obtain ⟨N0, N1, N2, N3⟩ := new2 w (.cells #[.int .u64 (num : Int), .string s] 24) (.cells #[.int .i64 x, .int .i64 y] 44)
  obtain ⟨w0, hw0⟩ : ∃ w0, w0 = (w.alloc (.cells #[.int .u64 (num : Int), .string s] 24)).alloc (.cells #[.int .i64 x, .int .i64 y] 44) := ⟨_, rfl⟩
  rw [← hw0] at N0 N1 N2 N3
  have HB := Lib.hid N3
  have q1 : CellAt w0 w.heap.size num s := N1
  have q2 := N2
  have c1 := q1.c0; have c2 := q1.c1
  have hlen := hs.len
  have hcv : ∀ n u, cellV n u = .agg #[.int .u64 (n : Int), .string u] := fun _ _ => rfl
  clear N0 N1 N2 N3
  obtain ⟨n1, hn1⟩ : ∃ n : Nat, x % 18446744073709551616 = n := ⟨(x % 18446744073709551616).toNat, by omega⟩
  obtain ⟨n2, hn2⟩ : ∃ n : Nat, y % 18446744073709551616 = n := ⟨(y % 18446744073709551616).toNat, by omega⟩
  have hb1 : n1 < 18446744073709551616 := by omega
  have hb2 : n2 < 18446744073709551616 := by omega
  have HW1 := Lib.hid (wrap_of8 hn1 hx.1 hx.2)
  have HW2 := Lib.hid (wrap_of8 hn2 hy.1 hy.2)
  have HN1 := Lib.hid hn1
  have HN2 := Lib.hid hn2
  clear hn1 hn2
  have hd : decide ((l.length : Int) > 1000) = false := decide_eq_false (by omega)
  clear hl
  go_enter Tryd.func6, Tryd.ntmps6
  go_wp2_with fail
  rw [← hw0]
  clear hw0
  go_wp2_with fail
  refine (cell_TextK kind num hnum s l _ hs (hL.l3.later HB.out) HC.out).mono ?_
  rintro e w1 ⟨⟨t, rfl, ht⟩, hb⟩
  replace q1 := q1.later hb
  replace q2 := keepB q2 hb
  replace HB := Lib.hid (HB.out.trans (hb.mono HB.out.size))
  clear hb c1 c2
  have c1 := q1.c0; have c2 := q1.c1
  go_wp2_with fail
  refine (cell_Read kind t _ _ ht (hL.later HB.out)).mono ?_
  rintro e w2 ⟨hv, hb⟩
  rw [HRV.out] at hv
  obtain ⟨t2, ht2, rfl⟩ := hv
  have e2 : s = t2 := hs.eq.trans ht2.eq.symm
  subst e2
  replace q1 := q1.later hb
  replace q2 := keepB q2 hb
  replace HB := Lib.hid (HB.out.trans (hb.mono HB.out.size))
  clear hb c1 c2 ht2
  go_upto_region 7 with fail
  obtain ⟨N5, N6, N7⟩ := new1 w2 (.cells #[.int .u64 (num : Int), .string s] 24)
  obtain ⟨w3, hw7⟩ : ∃ w7, w7 = w2.alloc (.cells #[.int .u64 (num : Int), .string s] 24) := ⟨_, rfl⟩
  rw [← hw7] at N6 N7 ⊢
  have q3 : CellAt w3 w2.heap.size num s := N6
  have hb := N7
  clear N5 N6 hw7
  replace q1 := q1.later hb
  replace q2 := keepB q2 hb
  replace HB := Lib.hid (HB.out.trans (hb.mono HB.out.size))
  clear hb N7
  generalize w2.heap.size = b_q3 at *
  have c1 := q1.c0; have c2 := q1.c1
  have c3 := q3.c0; have c4 := q3.c1
  go_wp2_with fail
  clear c1 c2 c3 c4 q3 ht
  refine (cell_Read kind s l _ hs (hL.later HB.out)).mono ?_
  rintro e w4 ⟨hv, hb⟩
  rw [HRL.out] at hv
  obtain ⟨t3, ht3, rfl⟩ := hv
  replace q1 := q1.later hb
  replace q2 := keepB q2 hb
  replace HB := Lib.hid (HB.out.trans (hb.mono HB.out.size))
  clear hb
  go_upto_region 10 with fail
  obtain ⟨N5, N6, N7⟩ := new1 w4 (.cells #[.int .u64 (y0 : Int), .string t3] 24)
  obtain ⟨w5, hw7⟩ : ∃ w7, w7 = w4.alloc (.cells #[.int .u64 (y0 : Int), .string t3] 24) := ⟨_, rfl⟩
  rw [← hw7] at N6 N7 ⊢
  have q4 : CellAt w5 w4.heap.size y0 t3 := N6
  have hb := N7
  clear N5 N6 hw7
  replace q1 := q1.later hb
  replace q2 := keepB q2 hb
  replace HB := Lib.hid (HB.out.trans (hb.mono HB.out.size))
  clear hb N7
  generalize w4.heap.size = b_q4 at *
  have c3 := q4.c0; have c4 := q4.c1
  go_wp2_with fail
  refine (cell_TextK kind y0 hy0 t3 b0 _ ht3 (hL.l3.later HB.out) HCK.out).mono ?_
  rintro e w6 ⟨⟨t4, rfl, ht4⟩, hb⟩
  rw [HTX.out] at ht4
  have e4 : s = t4 := hs.eq.trans ht4.eq.symm
  subst e4
  clear ht4 c3 c4
  replace q4 := q4.later hb
  replace q1 := q1.later hb
  replace q2 := keepB q2 hb
  replace HB := Lib.hid (HB.out.trans (hb.mono HB.out.size))
  clear hb
  have c3 := q4.c0; have c4 := q4.c1
  go_wp2_with fail
  refine (cell_Check kind y0 t3 b0 _ ht3 (hL.l3.tabs.later HB.out)).mono ?_
  rintro e w7 ⟨rfl, hb⟩
  rw [HCK.out]
  clear c3 c4 q4
  replace q1 := q1.later hb
  replace q2 := keepB q2 hb
  replace HB := Lib.hid (HB.out.trans (hb.mono HB.out.size))
  clear hb
  go_upto_region 14 with fail
  have hxx : w7.heap.size = w7.heap.size := rfl
  obtain ⟨w8, hw8⟩ : ∃ w8, w8 = w7 := ⟨_, rfl⟩
  rw [← hw8] at q1 q2 HB ⊢
  clear hw8 hxx
  have sK : ∀ u, Below w8.heap.size w8 u → (u.cell? ⟨w.heap.size + 1, 0, none⟩ = some (.int .i64 x) ∧ u.cell? ⟨w.heap.size + 1, 1, none⟩ = some (.int .i64 y) ∧ Below w8.heap.size w8 u) := fun u hu => ⟨new_cellC (i := 0) (keepB q2 hu) rfl, new_cellC (i := 1) (keepB q2 hu) rfl, hu⟩
  have k0 := sK _ (Below.refl w8.heap.size w8).drew
  have kC : ∀ (k : Nat) (u v : World), Below k u v → k = u.heap.size → (u.cell? ⟨w.heap.size + 1, 0, none⟩ = some (.int .i64 x) ∧ u.cell? ⟨w.heap.size + 1, 1, none⟩ = some (.int .i64 y) ∧ Below w8.heap.size w8 u) → (v.cell? ⟨w.heap.size + 1, 0, none⟩ = some (.int .i64 x) ∧ v.cell? ⟨w.heap.size + 1, 1, none⟩ = some (.int .i64 y) ∧ Below w8.heap.size w8 v) := fun k u v hb hk h => sK _ (h.2.2.trans ((hk ▸ hb : Below u.heap.size u v).mono h.2.2.size))
  have kB0 := (Below.refl w8.heap.size w8).drew
  have kA : ∀ (u : World) (o : Obj), Below w8.heap.size w8 u → Below w8.heap.size w8 (u.alloc o) := fun u o h => h.alloc h.size _
  have kS : ∀ (u : World) (b k : Nat) (v : Value), w8.heap.size ≤ b → Below w8.heap.size w8 u → Below w8.heap.size w8 (u.setCell ⟨b, k, none⟩ v) := fun u b k v hb h => h.setCell hb _
  go_cut [16, 17] (fun p16 p17 wx => Hid (∃ b16 b17 : Nat, p16 = .pointer (some ⟨b16, 0, none⟩) ∧ p17 = .pointer (some ⟨b17, 0, none⟩) ∧ CellAt wx b16 n1 ⟨#[]⟩ ∧ CellAt wx b17 n2 ⟨#[]⟩ ∧ Below w8.heap.size w8 wx))
  case first =>
    go_region_held3 (fun u => u.cell? ⟨w.heap.size + 1, 0, none⟩ = some (.int .i64 x) ∧ u.cell? ⟨w.heap.size + 1, 1, none⟩ = some (.int .i64 y) ∧ Below w8.heap.size w8 u) (first | exact k0 | (refine sK _ ?_; repeat' first | exact Below.refl _ _ | refine Below.drew ?_ | refine kA _ _ ?_)) ((go_at_call 22; first | (refine (cell_IntX x n1 HN1.out _).mono ?_; rintro e wn ⟨rfl, rfl⟩) | (refine (cell_IntX y n2 HN2.out _).mono ?_; rintro e wn ⟨rfl, rfl⟩)))
    all_goals (go_wp2_with fail; go_meet)
    all_goals (refine Lib.hid ⟨_, _, rfl, rfl, ?_, ?_, (four_new w8 _ _ _ _).2⟩)
    all_goals first | exact (four_new w8 _ _ _ _).1.1 | exact (four_new w8 _ _ _ _).1.2.1 | exact (four_new w8 _ _ _ _).1.2.2.1 | exact (four_new w8 _ _ _ _).1.2.2.2
  case rest =>
    obtain ⟨b16, b17, rfl, rfl, q3, q4, hbw⟩ := hcut.out
    replace q1 := q1.later hbw
    replace q2 := keepB q2 hbw
    replace HB := Lib.hid (HB.out.trans (hbw.mono HB.out.size))
    clear hcut hbw k0 kB0 sK kA kC kS
    have sK : ∀ u, Below wc.heap.size wc u → (u.cell? ⟨w.heap.size + 1, 0, none⟩ = some (.int .i64 x) ∧ u.cell? ⟨w.heap.size + 1, 1, none⟩ = some (.int .i64 y) ∧ u.cell? ⟨b16, 0, none⟩ = some (.int .u64 (n1 : Int)) ∧ u.cell? ⟨b16, 1, none⟩ = some (.string ⟨#[]⟩) ∧ u.cell? ⟨b17, 0, none⟩ = some (.int .u64 (n2 : Int)) ∧ u.cell? ⟨b17, 1, none⟩ = some (.string ⟨#[]⟩) ∧ Below wc.heap.size wc u) := fun u hu => ⟨new_cellC (i := 0) (keepB q2 hu) rfl, new_cellC (i := 1) (keepB q2 hu) rfl, (q3.later hu).c0, (q3.later hu).c1, (q4.later hu).c0, (q4.later hu).c1, hu⟩
    have kB0 := (Below.refl wc.heap.size wc).drew
    have k0 := sK _ kB0
    have kC : ∀ (k : Nat) (u v : World), Below k u v → k = u.heap.size → Below wc.heap.size wc u → Below wc.heap.size wc v := fun k u v hb hk h => h.trans ((hk ▸ hb : Below u.heap.size u v).mono h.size)
    have kF : ∀ u, Below wc.heap.size wc u → Below w.heap.size w u := fun u h => HB.out.trans (h.mono HB.out.size)
    have kT : ∀ u, Below wc.heap.size wc u → Tabs u := fun u h => hL.l3.tabs.later (kF u h)
    go_upto_region 15 with fail
    rcases Int.lt_trichotomy x y with hxy | hxy | hxy
    · have HI := Lib.hid (show cmpC 0 n1 [] n2 [] = -1 from by rw [cmpC_0 (check0 n1) (check0 n2), HW1.out, HW2.out]; unfold ordZ; rw [if_pos hxy])
      have d1 : decide (x < y) = true := decide_eq_true (by omega)
      have d2 : decide (x > y) = false := decide_eq_false (by omega)
      clear hxy
      go_region_held3 (fun u => (u.cell? ⟨w.heap.size + 1, 0, none⟩ = some (.int .i64 x) ∧ u.cell? ⟨w.heap.size + 1, 1, none⟩ = some (.int .i64 y) ∧ u.cell? ⟨b16, 0, none⟩ = some (.int .u64 (n1 : Int)) ∧ u.cell? ⟨b16, 1, none⟩ = some (.string ⟨#[]⟩) ∧ u.cell? ⟨b17, 0, none⟩ = some (.int .u64 (n2 : Int)) ∧ u.cell? ⟨b17, 1, none⟩ = some (.string ⟨#[]⟩) ∧ Below wc.heap.size wc u)) (first | exact k0 | (refine sK _ ?_; assumption)) ((first
          | (go_at_call 8; refine (law04_alive _ (kT _ (by first | exact kB0 | assumption))).mono ?_; rintro e wn ⟨rfl, hb⟩; have hbw := kC _ _ _ hb rfl (by first | exact kB0 | assumption))
          | (go_at_call 23; first | (refine (cell_Signed n1 hb1 ⟨#[]⟩ _).mono ?_; rintro e wn ⟨rfl, hb⟩; rw [HW1.out]; have hbw := kC _ _ _ hb rfl (by first | exact kB0 | assumption)) | (refine (cell_Signed n2 hb2 ⟨#[]⟩ _).mono ?_; rintro e wn ⟨rfl, hb⟩; rw [HW2.out]; have hbw := kC _ _ _ hb rfl (by first | exact kB0 | assumption)))
          | (go_at_call 13; refine (cell_Compare 0 n1 n2 hb1 hb2 _ _ [] [] _ empty_rd empty_rd (kT _ (by first | exact kB0 | assumption))).mono ?_; rintro e wn ⟨rfl, hb⟩; rw [HI.out]; have hbw := kC _ _ _ hb rfl (by first | exact kB0 | assumption))))
      go_wp2_with fail
      go_ret
      exact ⟨rfl, kF _ (by assumption)⟩
    · have HI := Lib.hid (show cmpC 0 n1 [] n2 [] = 0 from by rw [cmpC_0 (check0 n1) (check0 n2), HW1.out, HW2.out]; unfold ordZ; rw [if_neg (by omega), if_neg (by omega)])
      have d1 : decide (x < y) = false := decide_eq_false (by omega)
      have d2 : decide (x > y) = false := decide_eq_false (by omega)
      clear hxy
      go_region_held3 (fun u => (u.cell? ⟨w.heap.size + 1, 0, none⟩ = some (.int .i64 x) ∧ u.cell? ⟨w.heap.size + 1, 1, none⟩ = some (.int .i64 y) ∧ u.cell? ⟨b16, 0, none⟩ = some (.int .u64 (n1 : Int)) ∧ u.cell? ⟨b16, 1, none⟩ = some (.string ⟨#[]⟩) ∧ u.cell? ⟨b17, 0, none⟩ = some (.int .u64 (n2 : Int)) ∧ u.cell? ⟨b17, 1, none⟩ = some (.string ⟨#[]⟩) ∧ Below wc.heap.size wc u)) (first | exact k0 | (refine sK _ ?_; assumption)) ((first
          | (go_at_call 8; refine (law04_alive _ (kT _ (by first | exact kB0 | assumption))).mono ?_; rintro e wn ⟨rfl, hb⟩; have hbw := kC _ _ _ hb rfl (by first | exact kB0 | assumption))
          | (go_at_call 23; first | (refine (cell_Signed n1 hb1 ⟨#[]⟩ _).mono ?_; rintro e wn ⟨rfl, hb⟩; rw [HW1.out]; have hbw := kC _ _ _ hb rfl (by first | exact kB0 | assumption)) | (refine (cell_Signed n2 hb2 ⟨#[]⟩ _).mono ?_; rintro e wn ⟨rfl, hb⟩; rw [HW2.out]; have hbw := kC _ _ _ hb rfl (by first | exact kB0 | assumption)))
          | (go_at_call 13; refine (cell_Compare 0 n1 n2 hb1 hb2 _ _ [] [] _ empty_rd empty_rd (kT _ (by first | exact kB0 | assumption))).mono ?_; rintro e wn ⟨rfl, hb⟩; rw [HI.out]; have hbw := kC _ _ _ hb rfl (by first | exact kB0 | assumption))))
      go_wp2_with fail
      go_ret
      exact ⟨rfl, kF _ (by assumption)⟩
    · have HI := Lib.hid (show cmpC 0 n1 [] n2 [] = 1 from by rw [cmpC_0 (check0 n1) (check0 n2), HW1.out, HW2.out]; unfold ordZ; rw [if_neg (by omega), if_pos hxy])
      have d1 : decide (x < y) = false := decide_eq_false (by omega)
      have d2 : decide (x > y) = true := decide_eq_true (by omega)
      clear hxy
      go_region_held3 (fun u => (u.cell? ⟨w.heap.size + 1, 0, none⟩ = some (.int .i64 x) ∧ u.cell? ⟨w.heap.size + 1, 1, none⟩ = some (.int .i64 y) ∧ u.cell? ⟨b16, 0, none⟩ = some (.int .u64 (n1 : Int)) ∧ u.cell? ⟨b16, 1, none⟩ = some (.string ⟨#[]⟩) ∧ u.cell? ⟨b17, 0, none⟩ = some (.int .u64 (n2 : Int)) ∧ u.cell? ⟨b17, 1, none⟩ = some (.string ⟨#[]⟩) ∧ Below wc.heap.size wc u)) (first | exact k0 | (refine sK _ ?_; assumption)) ((first
          | (go_at_call 8; refine (law04_alive _ (kT _ (by first | exact kB0 | assumption))).mono ?_; rintro e wn ⟨rfl, hb⟩; have hbw := kC _ _ _ hb rfl (by first | exact kB0 | assumption))
          | (go_at_call 23; first | (refine (cell_Signed n1 hb1 ⟨#[]⟩ _).mono ?_; rintro e wn ⟨rfl, hb⟩; rw [HW1.out]; have hbw := kC _ _ _ hb rfl (by first | exact kB0 | assumption)) | (refine (cell_Signed n2 hb2 ⟨#[]⟩ _).mono ?_; rintro e wn ⟨rfl, hb⟩; rw [HW2.out]; have hbw := kC _ _ _ hb rfl (by first | exact kB0 | assumption)))
          | (go_at_call 13; refine (cell_Compare 0 n1 n2 hb1 hb2 _ _ [] [] _ empty_rd empty_rd (kT _ (by first | exact kB0 | assumption))).mono ?_; rintro e wn ⟨rfl, hb⟩; rw [HI.out]; have hbw := kC _ _ _ hb rfl (by first | exact kB0 | assumption))))
      go_wp2_with fail
      go_ret
      exact ⟨rfl, kF _ (by assumption)⟩

end Go.Proofs.YtfleebllabolgaaDoor
