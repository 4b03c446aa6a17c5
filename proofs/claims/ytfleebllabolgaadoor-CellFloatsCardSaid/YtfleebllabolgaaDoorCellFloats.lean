/-
  CellFloats: of two floats the lesser one is ahead; -0 is ahead of +0; bits are kept, whatever they are: the function.
-/
import Derived.Test.YtfleebllabolgaaDoorCellLaws
import Derived.Maps.OwnOps
import Derived.Maps.Keyed
set_option linter.unusedVariables false
set_option linter.unusedSimpArgs false
set_option maxRecDepth 1000000
namespace Go.Proofs.YtfleebllabolgaaDoor
open Go.RowKit Go.Shelf

theorem new2w (w : World) (x y : Nat) (s t : ByteArray) : CellAt ((w.alloc (.cells #[.int .u64 (x : Int), .string s] 24)).alloc (.cells #[.int .u64 (y : Int), .string t] 24)) w.heap.size x s ∧
    CellAt ((w.alloc (.cells #[.int .u64 (x : Int), .string s] 24)).alloc (.cells #[.int .u64 (y : Int), .string t] 24)) (w.heap.size + 1) y t ∧ Below w.heap.size w ((w.alloc (.cells #[.int .u64 (x : Int), .string s] 24)).alloc (.cells #[.int .u64 (y : Int), .string t] 24)) := by
  obtain ⟨h0, h1, h2, h3⟩ := new2 w (.cells #[.int .u64 (x : Int), .string s] 24) (.cells #[.int .u64 (y : Int), .string t] 24)
  exact ⟨h1, h2, h3⟩

theorem check5 (x : Nat) : checkC 5 x [] = 0 := by unfold checkC; simp

theorem ford_nan {x y : Nat} (hx : x < 18446744073709551616) (hy : y < 18446744073709551616) (h : Flt.nan x = true ∨ Flt.nan y = true) : FloatKind.f64.format.order x y = none := by
  have e : FloatKind.f64.format.order x y = Ieee.double.order x y := rfl
  rw [e, Flt.order_eq x y (by simpa [Flt.W] using hx) (by simpa [Flt.W] using hy), if_pos h]

theorem map_two (w : World) (k : Bool) : ∃ w1 w2, (Instr.mapUpdate 39 (.map (some w.heap.size)) (.bool true) (.int .i64 (-1))).run Tryd.prog (w.alloc (.map #[] 0)) = .ok () w1 ∧
    (Instr.mapUpdate 39 (.map (some w.heap.size)) (.bool false) (.int .i64 1)).run Tryd.prog w1 = .ok () w2 ∧
    (Instr.lookup 39 (.map (some w.heap.size)) (.bool k) false).run Tryd.prog w2 = .ok (.int .i64 (if k = true then -1 else 1)) w2 ∧ Below w.heap.size w w2 := by
  have K := Go.Maps.bool_keyed Tryd.underlying4
  have own0 := World.ownsMap_made (H := Unit) w Tryd.prog 4 (plainElem Tryd.prog 3)
  have b0 : Below w.heap.size w (w.alloc (.map #[] 0)) := (Below.refl _ _).alloc (Nat.le_refl _) _
  obtain ⟨w1, r1, o1, g1⟩ := own0.update K Tryd.underlying39 (by unfold maxLen; omega) (Go.Maps.keyOf_bool_mk Tryd.underlying4 true) (plainElem_int Tryd.underlying3 (a := -1) (by decide))
  obtain ⟨w2, r2, o2, g2⟩ := o1.update K Tryd.underlying39 (by unfold maxLen; omega) (Go.Maps.keyOf_bool_mk Tryd.underlying4 false) (plainElem_int Tryd.underlying3 (a := 1) (by decide))
  obtain ⟨c, r3, h3, _⟩ := o2.lookup_int K Tryd.underlying39 Tryd.underlying3 (by kernel_rfl) (Go.Maps.keyOf_bool_mk Tryd.underlying4 k)
  have b1 : Below w.heap.size w w1 := b0.grown g1 b0.size (fun j hj => by cases hj; exact Nat.le_refl _)
  have b2 : Below w.heap.size w w2 := b1.grown g2 b1.size (fun j hj => by cases hj; exact Nat.le_refl _)
  refine ⟨w1, w2, r1, r2, ?_, b2⟩
  rw [r3]
  cases k
  · have e : c = 1 := by
      have h4 : ((((DataW.map []).put (.bool true) (.lit (.int .i64 (-1)))).put (.bool false) (.lit (.int .i64 1))) : DataW Unit).atKey (.bool false) (.lit (.int .i64 0)) = .lit (.int .i64 1) := rfl
      rw [h4] at h3
      simpa using h3.symm
    rw [e]; rfl
  · have e : c = -1 := by
      have h4 : ((((DataW.map []).put (.bool true) (.lit (.int .i64 (-1)))).put (.bool false) (.lit (.int .i64 1))) : DataW Unit).atKey (.bool true) (.lit (.int .i64 0)) = .lit (.int .i64 (-1)) := rfl
      rw [h4] at h3
      simpa using h3.symm
    rw [e]; rfl

set_option maxHeartbeats 16000000 in
theorem cellFloats_walk (a b : Int) (w : World) (ha : 0 ≤ a ∧ a ≤ 18446744073709551615) (hb0 : 0 ≤ b ∧ b ≤ 18446744073709551615) (hT : Tabs w) :
    Calls Tryd.prog 5 #[.int .u64 a, .int .u64 b] w fun e w' => e = .returned (.bool true) ∧ Below w.heap.size w w' := by
  obtain ⟨x, rfl⟩ : ∃ x : Nat, a = x := ⟨a.toNat, by omega⟩
  obtain ⟨y, rfl⟩ : ∃ y : Nat, b = y := ⟨b.toNat, by omega⟩
  have hx : x < 18446744073709551616 := by omega
  have hy : y < 18446744073709551616 := by omega
  clear ha hb0
  have hfx := from_bits x
  have hfy := from_bits y
  have htx := to_bits x
  have hcv : ∀ n : Nat, cellV n ⟨#[]⟩ = .agg #[.int .u64 (n : Int), .string ⟨#[]⟩] := fun _ => rfl
  have HN := Lib.hid (cmpC_5 (l := []) (m := []) (check5 x) (check5 y))
  go_enter Tryd.func5, Tryd.ntmps5
  go_wp2_with fail
  refine (cell_Float x hx _).mono ?_
  rintro e w1 ⟨rfl, hb1⟩
  have HB := Lib.hid hb1
  clear hb1
  go_wp2_with fail
  refine (cell_Float y hy _).mono ?_
  rintro e w2 ⟨rfl, hb⟩
  replace HB := Lib.hid (HB.out.trans (hb.mono HB.out.size))
  clear hb
  go_wp2_with fail
  obtain ⟨q1, q2, hb⟩ := new2w w2 x y ⟨#[]⟩ ⟨#[]⟩
  replace HB := Lib.hid (HB.out.trans (hb.mono HB.out.size))
  clear hb
  refine (cell_Compare 5 x y hx hy _ _ [] [] _ empty_rd empty_rd (hT.later HB.out)).mono ?_
  rintro e w3 ⟨rfl, hb⟩
  rw [HN.out]
  replace q1 := q1.later hb
  replace q2 := q2.later hb
  replace HB := Lib.hid (HB.out.trans (hb.mono HB.out.size))
  generalize w2.heap.size = b1 at *
  have c1 := q1.c0; have c2 := q1.c1; have c3 := q2.c0; have c4 := q2.c1
  clear hb HN
  obtain ⟨N, hN⟩ : ∃ N, ordZ (tkey x + 9223372036854775808) (tkey y + 9223372036854775808) = N := ⟨_, rfl⟩
  rw [hN]
  have HN := Lib.hid hN
  clear hN
  cases hnx : Flt.nan x with
  | true =>
    cases hny : Flt.nan y with
    | true =>
      have HNAN : Flt.nan x = true ∨ Flt.nan y = true := .inl hnx
      have hl : (FloatKind.f64.format.order x y == some Ordering.lt) = false := by rw [ford_nan hx hy HNAN]; rfl
      have hg : (FloatKind.f64.format.order x y == some Ordering.gt) = false := by rw [ford_nan hx hy HNAN]; rfl
      have he : (FloatKind.f64.format.order x y == some Ordering.eq) = false := by rw [ford_nan hx hy HNAN]; rfl
      clear HNAN
      go_wp2_with fail
      refine (math_IsNaN x hx _).mono ?_
      rintro e v1 ⟨rfl, rfl⟩
      rw [hnx]
      go_wp2_with fail
      refine (math_IsNaN y hy _).mono ?_
      rintro e v2 ⟨rfl, rfl⟩
      rw [hny]
      go_wp2_with fail
      refine (math_IsNaN x hx _).mono ?_
      rintro e v3 ⟨rfl, rfl⟩
      rw [hnx]
      go_wp2_with fail
      refine (math_IsNaN y hy _).mono ?_
      rintro e v4 ⟨rfl, rfl⟩
      rw [hny]
      go_wp2_with fail
      refine (law04_alive _ (hT.later HB.out)).mono ?_
      rintro e w9 ⟨rfl, hb⟩
      replace HB := Lib.hid (HB.out.trans (hb.mono HB.out.size))
      clear hb c1 c2 c3 c4
      go_wp2_with fail
      refine (math_IsNaN x hx _).mono ?_
      rintro e v8 ⟨rfl, rfl⟩
      rw [hnx]
      go_wp2
      go_ret
      exact ⟨rfl, HB.out⟩
    | false =>
      have HNAN : Flt.nan x = true ∨ Flt.nan y = true := .inl hnx
      have hpy : placeC y = 1 := by unfold placeC; rw [hny]; rfl
      by_cases hs : 9223372036854775808 ≤ x
      · have hpx : placeC x = 0 := by unfold placeC; rw [hnx, if_pos rfl, if_pos hs]
        have ht := tkey_place hx hy hpx hpy (by decide)
        have hN1 : N = -1 := by
          rw [← HN.out]
          have : tkey x < tkey y := of_decide_eq_true ht
          unfold ordZ; rw [if_pos (by omega)]
        subst hN1
        have hdv : (x : Int) / 9223372036854775808 = 1 := by omega
        clear ht hs HN hpx hpy
        have hl : (FloatKind.f64.format.order x y == some Ordering.lt) = false := by rw [ford_nan hx hy HNAN]; rfl
        have hg : (FloatKind.f64.format.order x y == some Ordering.gt) = false := by rw [ford_nan hx hy HNAN]; rfl
        have he : (FloatKind.f64.format.order x y == some Ordering.eq) = false := by rw [ford_nan hx hy HNAN]; rfl
        clear HNAN
        go_wp2_with fail
        refine (math_IsNaN x hx _).mono ?_
        rintro e v1 ⟨rfl, rfl⟩
        rw [hnx]
        go_wp2_with fail
        refine (math_IsNaN y hy _).mono ?_
        rintro e v2 ⟨rfl, rfl⟩
        rw [hny]
        obtain ⟨m1, m2, r1, r2, r3, hbm⟩ := map_two w3 true
        have hmm := @run_makeMap Tryd.prog
        replace q1 := q1.later hbm
        replace q2 := q2.later hbm
        replace HB := Lib.hid (HB.out.trans (hbm.mono HB.out.size))
        clear hbm c1 c2 c3 c4
        have c1 := q1.c0; have c2 := q1.c1; have c3 := q2.c0; have c4 := q2.c1
        go_wp2_with fail
        refine (math_IsNaN x hx _).mono ?_
        rintro e v3 ⟨rfl, rfl⟩
        rw [hnx]
        go_wp2_with fail
        refine (math_IsNaN y hy _).mono ?_
        rintro e v4 ⟨rfl, rfl⟩
        rw [hny]
        go_wp2_with fail
        refine (law04_alive _ (hT.later HB.out)).mono ?_
        rintro e w9 ⟨rfl, hb⟩
        replace HB := Lib.hid (HB.out.trans (hb.mono HB.out.size))
        clear hb c1 c2 c3 c4
        go_wp2_with fail
        refine (math_IsNaN x hx _).mono ?_
        rintro e v8 ⟨rfl, rfl⟩
        rw [hnx]
        go_wp2
        go_ret
        exact ⟨rfl, HB.out⟩
      · have hpx : placeC x = 2 := by unfold placeC; rw [hnx, if_pos rfl, if_neg hs]
        have ht := tkey_place hy hx hpy hpx (by decide)
        have ht2 := tkey_place hx hy hpx hpy (by decide)
        have hN1 : N = 1 := by
          rw [← HN.out]
          have h1 : tkey y < tkey x := of_decide_eq_true ht
          unfold ordZ; rw [if_neg (by omega), if_pos (by omega)]
        subst hN1
        have hdv : (x : Int) / 9223372036854775808 = 0 := by omega
        clear ht ht2 hs HN hpx hpy
        have hl : (FloatKind.f64.format.order x y == some Ordering.lt) = false := by rw [ford_nan hx hy HNAN]; rfl
        have hg : (FloatKind.f64.format.order x y == some Ordering.gt) = false := by rw [ford_nan hx hy HNAN]; rfl
        have he : (FloatKind.f64.format.order x y == some Ordering.eq) = false := by rw [ford_nan hx hy HNAN]; rfl
        clear HNAN
        go_wp2_with fail
        refine (math_IsNaN x hx _).mono ?_
        rintro e v1 ⟨rfl, rfl⟩
        rw [hnx]
        go_wp2_with fail
        refine (math_IsNaN y hy _).mono ?_
        rintro e v2 ⟨rfl, rfl⟩
        rw [hny]
        obtain ⟨m1, m2, r1, r2, r3, hbm⟩ := map_two w3 false
        have hmm := @run_makeMap Tryd.prog
        replace q1 := q1.later hbm
        replace q2 := q2.later hbm
        replace HB := Lib.hid (HB.out.trans (hbm.mono HB.out.size))
        clear hbm c1 c2 c3 c4
        have c1 := q1.c0; have c2 := q1.c1; have c3 := q2.c0; have c4 := q2.c1
        go_wp2_with fail
        refine (math_IsNaN x hx _).mono ?_
        rintro e v3 ⟨rfl, rfl⟩
        rw [hnx]
        go_wp2_with fail
        refine (math_IsNaN y hy _).mono ?_
        rintro e v4 ⟨rfl, rfl⟩
        rw [hny]
        go_wp2_with fail
        refine (law04_alive _ (hT.later HB.out)).mono ?_
        rintro e w9 ⟨rfl, hb⟩
        replace HB := Lib.hid (HB.out.trans (hb.mono HB.out.size))
        clear hb c1 c2 c3 c4
        go_wp2_with fail
        refine (math_IsNaN x hx _).mono ?_
        rintro e v8 ⟨rfl, rfl⟩
        rw [hnx]
        go_wp2
        go_ret
        exact ⟨rfl, HB.out⟩
  | false =>
    cases hny : Flt.nan y with
    | true =>
      have HNAN : Flt.nan x = true ∨ Flt.nan y = true := .inr hny
      have hl : (FloatKind.f64.format.order x y == some Ordering.lt) = false := by rw [ford_nan hx hy HNAN]; rfl
      have hg : (FloatKind.f64.format.order x y == some Ordering.gt) = false := by rw [ford_nan hx hy HNAN]; rfl
      have he : (FloatKind.f64.format.order x y == some Ordering.eq) = false := by rw [ford_nan hx hy HNAN]; rfl
      clear HNAN
      go_wp2_with fail
      refine (math_IsNaN x hx _).mono ?_
      rintro e v1 ⟨rfl, rfl⟩
      rw [hnx]
      go_wp2_with fail
      refine (math_IsNaN x hx _).mono ?_
      rintro e v3 ⟨rfl, rfl⟩
      rw [hnx]
      go_wp2_with fail
      refine (math_IsNaN y hy _).mono ?_
      rintro e v4 ⟨rfl, rfl⟩
      rw [hny]
      go_wp2_with fail
      refine (law04_alive _ (hT.later HB.out)).mono ?_
      rintro e w9 ⟨rfl, hb⟩
      replace HB := Lib.hid (HB.out.trans (hb.mono HB.out.size))
      clear hb c1 c2 c3 c4
      go_wp2_with fail
      refine (math_IsNaN x hx _).mono ?_
      rintro e v8 ⟨rfl, rfl⟩
      rw [hnx]
      go_wp2_with fail
      refine (cell_Number x hx _ _).mono ?_
      rintro e w10 ⟨rfl, hb⟩
      replace HB := Lib.hid (HB.out.trans (hb.mono HB.out.size))
      clear hb
      go_wp2
      go_ret
      exact ⟨rfl, HB.out⟩
    | false =>
      rcases Int.lt_trichotomy (Flt.key x) (Flt.key y) with hk | hk | hk
      · have ho := ford hx hy hnx hny
        have HNX := Lib.hid hnx
        have HNY := Lib.hid hny
        rw [Int.compare_eq_lt.2 hk] at ho
        have hl : (FloatKind.f64.format.order x y == some Ordering.lt) = true := by rw [ho]; rfl
        have hg : (FloatKind.f64.format.order x y == some Ordering.gt) = false := by rw [ho]; rfl
        have he : (FloatKind.f64.format.order x y == some Ordering.eq) = false := by rw [ho]; rfl
        have ht := tkey_num (x := x) (y := y) (by omega)
        have hN1 : N = -1 := by
          rw [← HN.out]
          have : tkey x < tkey y := by rw [decide_eq_true hk] at ht; exact of_decide_eq_true ht
          unfold ordZ; rw [if_pos (by omega)]
        subst hN1
        clear ho ht hk HN
        clear HNX HNY
        go_wp2_with fail
        refine (math_IsNaN x hx _).mono ?_
        rintro e v1 ⟨rfl, rfl⟩
        rw [hnx]
        go_wp2_with fail
        refine (math_IsNaN x hx _).mono ?_
        rintro e v3 ⟨rfl, rfl⟩
        rw [hnx]
        go_wp2_with fail
        refine (math_IsNaN y hy _).mono ?_
        rintro e v4 ⟨rfl, rfl⟩
        rw [hny]
        go_wp2_with fail
        refine (law04_alive _ (hT.later HB.out)).mono ?_
        rintro e w9 ⟨rfl, hb⟩
        replace HB := Lib.hid (HB.out.trans (hb.mono HB.out.size))
        clear hb c1 c2 c3 c4
        go_wp2_with fail
        refine (math_IsNaN x hx _).mono ?_
        rintro e v8 ⟨rfl, rfl⟩
        rw [hnx]
        go_wp2_with fail
        refine (cell_Number x hx _ _).mono ?_
        rintro e w10 ⟨rfl, hb⟩
        replace HB := Lib.hid (HB.out.trans (hb.mono HB.out.size))
        clear hb
        go_wp2
        go_ret
        exact ⟨rfl, HB.out⟩
      · by_cases hk0 : Flt.key x = 0
        · have ho := ford hx hy hnx hny
          have HNX := Lib.hid hnx
          have HNY := Lib.hid hny
          rw [Int.compare_eq_eq.2 hk] at ho
          have hl : (FloatKind.f64.format.order x y == some Ordering.lt) = false := by rw [ho]; rfl
          have hg : (FloatKind.f64.format.order x y == some Ordering.gt) = false := by rw [ho]; rfl
          have he : (FloatKind.f64.format.order x y == some Ordering.eq) = true := by rw [ho]; rfl
          have hz := ford_eq0 hx hnx
          rw [decide_eq_true hk0] at hz
          have hz2 : (FloatKind.f64.format.order x 0 != some Ordering.eq) = false := by unfold bne; rw [hz]; rfl
          clear ho hk hk0 HN hz
          clear HNX HNY
          go_wp2_with fail
          refine (math_IsNaN x hx _).mono ?_
          rintro e v1 ⟨rfl, rfl⟩
          rw [hnx]
          go_wp2_with fail
          refine (math_IsNaN x hx _).mono ?_
          rintro e v3 ⟨rfl, rfl⟩
          rw [hnx]
          go_wp2_with fail
          refine (math_IsNaN y hy _).mono ?_
          rintro e v4 ⟨rfl, rfl⟩
          rw [hny]
          go_wp2_with fail
          refine (law04_alive _ (hT.later HB.out)).mono ?_
          rintro e w9 ⟨rfl, hb⟩
          replace HB := Lib.hid (HB.out.trans (hb.mono HB.out.size))
          clear hb c1 c2 c3 c4
          go_wp2_with fail
          refine (math_IsNaN x hx _).mono ?_
          rintro e v8 ⟨rfl, rfl⟩
          rw [hnx]
          go_wp2_with fail
          refine (cell_Number x hx _ _).mono ?_
          rintro e w10 ⟨rfl, hb⟩
          replace HB := Lib.hid (HB.out.trans (hb.mono HB.out.size))
          clear hb
          go_wp2
          go_ret
          exact ⟨rfl, HB.out⟩
        · have ho := ford hx hy hnx hny
          have HNX := Lib.hid hnx
          have HNY := Lib.hid hny
          rw [Int.compare_eq_eq.2 hk] at ho
          have hl : (FloatKind.f64.format.order x y == some Ordering.lt) = false := by rw [ho]; rfl
          have hg : (FloatKind.f64.format.order x y == some Ordering.gt) = false := by rw [ho]; rfl
          have he : (FloatKind.f64.format.order x y == some Ordering.eq) = true := by rw [ho]; rfl
          have hz := ford_eq0 hx hnx
          rw [decide_eq_false hk0] at hz
          have hz2 : (FloatKind.f64.format.order x 0 != some Ordering.eq) = true := by unfold bne; rw [hz]; rfl
          have ht := tkey_num (x := x) (y := y) (by omega)
          have ht2 := tkey_num (x := y) (y := x) (by omega)
          have hN1 : N = 0 := by
            rw [← HN.out]
            have h1 : ¬ tkey x < tkey y := by rw [show decide (Flt.key x < Flt.key y) = false from decide_eq_false (by omega)] at ht; exact of_decide_eq_false ht
            have h2 : ¬ tkey y < tkey x := by rw [show decide (Flt.key y < Flt.key x) = false from decide_eq_false (by omega)] at ht2; exact of_decide_eq_false ht2
            unfold ordZ; rw [if_neg (by omega), if_neg (by omega)]
          subst hN1
          clear ho hk hk0 HN hz ht ht2
          clear HNX HNY
          go_wp2_with fail
          refine (math_IsNaN x hx _).mono ?_
          rintro e v1 ⟨rfl, rfl⟩
          rw [hnx]
          go_wp2_with fail
          refine (math_IsNaN x hx _).mono ?_
          rintro e v3 ⟨rfl, rfl⟩
          rw [hnx]
          go_wp2_with fail
          refine (math_IsNaN y hy _).mono ?_
          rintro e v4 ⟨rfl, rfl⟩
          rw [hny]
          go_wp2_with fail
          refine (law04_alive _ (hT.later HB.out)).mono ?_
          rintro e w9 ⟨rfl, hb⟩
          replace HB := Lib.hid (HB.out.trans (hb.mono HB.out.size))
          clear hb c1 c2 c3 c4
          go_wp2_with fail
          refine (math_IsNaN x hx _).mono ?_
          rintro e v8 ⟨rfl, rfl⟩
          rw [hnx]
          go_wp2_with fail
          refine (cell_Number x hx _ _).mono ?_
          rintro e w10 ⟨rfl, hb⟩
          replace HB := Lib.hid (HB.out.trans (hb.mono HB.out.size))
          clear hb
          go_wp2
          go_ret
          exact ⟨rfl, HB.out⟩
      · have ho := ford hx hy hnx hny
        have HNX := Lib.hid hnx
        have HNY := Lib.hid hny
        rw [Int.compare_eq_gt.2 hk] at ho
        have hl : (FloatKind.f64.format.order x y == some Ordering.lt) = false := by rw [ho]; rfl
        have hg : (FloatKind.f64.format.order x y == some Ordering.gt) = true := by rw [ho]; rfl
        have he : (FloatKind.f64.format.order x y == some Ordering.eq) = false := by rw [ho]; rfl
        have ht := tkey_num (x := y) (y := x) (by omega)
        have hN1 : N = 1 := by
          rw [← HN.out]
          have : tkey y < tkey x := by rw [decide_eq_true hk] at ht; exact of_decide_eq_true ht
          unfold ordZ; rw [if_neg (by omega), if_pos (by omega)]
        subst hN1
        clear ho ht hk HN
        clear HNX HNY
        go_wp2_with fail
        refine (math_IsNaN x hx _).mono ?_
        rintro e v1 ⟨rfl, rfl⟩
        rw [hnx]
        go_wp2_with fail
        refine (math_IsNaN x hx _).mono ?_
        rintro e v3 ⟨rfl, rfl⟩
        rw [hnx]
        go_wp2_with fail
        refine (math_IsNaN y hy _).mono ?_
        rintro e v4 ⟨rfl, rfl⟩
        rw [hny]
        go_wp2_with fail
        refine (law04_alive _ (hT.later HB.out)).mono ?_
        rintro e w9 ⟨rfl, hb⟩
        replace HB := Lib.hid (HB.out.trans (hb.mono HB.out.size))
        clear hb c1 c2 c3 c4
        go_wp2_with fail
        refine (math_IsNaN x hx _).mono ?_
        rintro e v8 ⟨rfl, rfl⟩
        rw [hnx]
        go_wp2_with fail
        refine (cell_Number x hx _ _).mono ?_
        rintro e w10 ⟨rfl, hb⟩
        replace HB := Lib.hid (HB.out.trans (hb.mono HB.out.size))
        clear hb
        go_wp2
        go_ret
        exact ⟨rfl, HB.out⟩

end Go.Proofs.YtfleebllabolgaaDoor
