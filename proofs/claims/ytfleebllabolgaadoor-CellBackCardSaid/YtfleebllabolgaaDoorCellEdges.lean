/-
  CellEdges: of whole numbers the order of signed ones and of floats is their own; a text is ahead of one that it begins: the function.
-/
import Derived.Test.YtfleebllabolgaaDoorCellLaws
import Derived.Test.YtfleebllabolgaaDoorFloatInt
import Derived.Deep.QuietTactic
import Derived.BigQuiet
set_option linter.unusedVariables false
set_option linter.unusedSimpArgs false
set_option maxRecDepth 1000000
namespace Go.Proofs.YtfleebllabolgaaDoor
open Go.RowKit Go.Shelf

theorem check5 (x : Nat) : checkC 5 x [] = 0 := by unfold checkC; simp
theorem check0 (x : Nat) : checkC 0 x [] = 0 := by unfold checkC; simp
theorem check3 (l : List UInt8) (h : l.length ≤ 256) : checkC 3 0 l = 0 := by unfold checkC; simp; omega
theorem RdS.app' {a b : ByteArray} {l m : List UInt8} (ha : RdS a l) (hb : RdS b m) (h : l.length + m.length ≤ 140737488351232) : RdS (a ++ b) (l ++ m) := by
  refine ⟨?_, by rw [List.length_append]; exact h⟩
  rw [ha.eq, hb.eq]
  apply ByteArray.ext
  simp
theorem cb_app : ∀ l m : List UInt8, Lib.compareBytes l (l ++ m) = if m = [] then 0 else -1
  | [], [] => rfl
  | [], _ :: _ => rfl
  | a :: r, m => by
    rw [List.cons_append, Lib.compareBytes]
    have h : ¬ a < a := by simp only [UInt8.lt_iff_toNat_lt]; omega
    rw [if_neg h, if_neg h]
    exact cb_app r m
theorem wrap_of {x : Int} {n : Nat} (h : x % 18446744073709551616 = (n : Int)) (h0 : -2147483648 ≤ x) (h1 : x ≤ 2147483647) : wrap64 (n : Int) = x := by
  unfold wrap64; omega

set_option maxHeartbeats 16000000 in
theorem cellEdges_walk (x y : Int) (s : ByteArray) (l : List UInt8) (t : ByteArray) (m : List UInt8) (w : World) (hx : -2147483648 ≤ x ∧ x ≤ 2147483647) (hy : -2147483648 ≤ y ∧ y ≤ 2147483647) (hs : RdS s l) (ht : RdS t m) (hT : Tabs w) :
    Calls Tryd.prog 7 #[.agg #[.int .i32 x, .int .i32 y], .string s, .string t] w fun e w' => e = .returned (.bool true) ∧ Below w.heap.size w w' := by
  obtain ⟨N0, N1, N2⟩ := new1 w (.cells #[.int .i32 x, .int .i32 y] 52)
  obtain ⟨w0, hw0⟩ : ∃ w0, w0 = w.alloc (.cells #[.int .i32 x, .int .i32 y] 52) := ⟨_, rfl⟩
  rw [← hw0] at N0 N1 N2
  have a0 := new_cellC (i := 0) N1 rfl
  have a1 := new_cellC (i := 1) N1 rfl
  have HB := Lib.hid N2
  clear N0 N1 N2
  have hlen := hs.len
  have hlen2 := ht.len
  have hcv : ∀ n u, cellV n u = .agg #[.int .u64 (n : Int), .string u] := fun _ _ => rfl
  by_cases hl : 100 < l.length
  · have hd : decide ((l.length : Int) > 100) = true := decide_eq_true (by omega)
    clear hl
    go_enter Tryd.func7, Tryd.ntmps7
    go_wp2_with fail
    rw [← hw0]
    clear hw0
    go_wp2_with fail
    refine (law04_alive _ (hT.later HB.out)).mono ?_
    rintro e w9 ⟨rfl, hb⟩
    replace HB := Lib.hid (HB.out.trans (hb.mono HB.out.size))
    clear hb
    go_wp2
    go_ret
    exact ⟨rfl, HB.out⟩
  · have hd : decide ((l.length : Int) > 100) = false := decide_eq_false (by omega)
    by_cases hm2 : 100 < m.length
    · have hd2 : decide ((m.length : Int) > 100) = true := decide_eq_true (by omega)
      clear hl hm2
      go_enter Tryd.func7, Tryd.ntmps7
      go_wp2_with fail
      rw [← hw0]
      clear hw0
      go_wp2_with fail
      refine (law04_alive _ (hT.later HB.out)).mono ?_
      rintro e w9 ⟨rfl, hb⟩
      replace HB := Lib.hid (HB.out.trans (hb.mono HB.out.size))
      clear hb
      go_wp2
      go_ret
      exact ⟨rfl, HB.out⟩
    · have hd2 : decide ((m.length : Int) > 100) = false := decide_eq_false (by omega)
      have hst := hs.app' ht (by omega)
      have hz1 : s.size = l.length := by rw [hs.eq]; simp [ByteArray.size]
      have hz2 : t.size = m.length := by rw [ht.eq]; simp [ByteArray.size]
      have hsz : ¬ (s.size + t.size > 9223372036854775807) := by omega
      have hk1 := check3 l (by omega)
      have hk2 := check3 (l ++ m) (by rw [List.length_append]; omega)
      obtain ⟨n1, hn1⟩ : ∃ n : Nat, x % 18446744073709551616 = n := ⟨(x % 18446744073709551616).toNat, by omega⟩
      obtain ⟨n2, hn2⟩ : ∃ n : Nat, y % 18446744073709551616 = n := ⟨(y % 18446744073709551616).toNat, by omega⟩
      have hb1 : n1 < 18446744073709551616 := by omega
      have hb2 : n2 < 18446744073709551616 := by omega
      have hxa : x.natAbs < 9007199254740992 := by clear hlen hlen2 hst hsz hk1 hk2 hn1 hn2; omega
      have hya : y.natAbs < 9007199254740992 := by clear hlen hlen2 hst hsz hk1 hk2 hn1 hn2; omega
      have hfx := fl_lt x hxa
      have hfy := fl_lt y hya
      have hfle : ∀ n : Int, FloatKind.f64.nearest n = fl n := fun _ => rfl
      have HN1 := Lib.hid hn1
      have HX := Lib.hid hx
      have HY := Lib.hid hy
      have HN2 := Lib.hid hn2
      clear hl hm2 hz1 hz2 hn1 hn2 hx hy
      have hxyz := Lib.hid hsz
      rcases Int.lt_trichotomy x y with hxy | hxy | hxy
      · have HI := Lib.hid (show cmpC 0 n1 [] n2 [] = -1 from by rw [cmpC_0 (check0 n1) (check0 n2), wrap_of HN1.out HX.out.1 HX.out.2, wrap_of HN2.out HY.out.1 HY.out.2]; unfold ordZ; rw [if_pos hxy])
        have HF := Lib.hid (show cmpC 5 (fl x) [] (fl y) [] = -1 from by rw [cmpC_5 (check5 _) (check5 _)]; have := tkey_mono hxy hxa hya; unfold ordZ; rw [if_pos (by omega)])
        have d1 : decide (x < y) = true := decide_eq_true hxy
        clear hxa hya
        by_cases hm : m = []
        · have hem : t.toList.isEmpty = true := by rw [ht.toList, hm]; rfl
          have HD := Lib.hid (show cmpC 3 0 l 0 (l ++ m) = 0 from by rw [cmpC_3 hk1 hk2, hm, cb_app, if_pos rfl])
          have hwx : wrap64 x = x := by have := HX.out; clear hlen hlen2 hst hsz; unfold wrap64; omega
          have hwy : wrap64 y = y := by have := HY.out; clear hlen hlen2 hst hsz; unfold wrap64; omega
          clear hk1 hk2 hm hxy
          go_enter Tryd.func7, Tryd.ntmps7
          go_wp2_with fail
          rw [← hw0]
          clear hw0
          go_wp2_with fail
          go_quiet (fail)
          have hbq := below_drewNv (Below.refl w0.heap.size w0) nq
          replace HB := Lib.hid (HB.out.trans (hbq.mono HB.out.size))
          generalize w0.drewN nq = wq at *
          clear hbq a0 a1
          go_wp2_with fail
          refine (cell_Int x n1 HN1.out _).mono ?_
          rintro e w1 ⟨rfl, hb⟩
          replace HB := Lib.hid (HB.out.trans (hb.mono HB.out.size))
          clear hb
          go_wp2_with fail
          refine (cell_Int y n2 HN2.out _).mono ?_
          rintro e w2 ⟨rfl, hb⟩
          replace HB := Lib.hid (HB.out.trans (hb.mono HB.out.size))
          clear hb
          go_wp2_with fail
          refine (cell_Compare 0 n1 n2 hb1 hb2 _ _ [] [] _ empty_rd empty_rd (hT.later HB.out)).mono ?_
          rintro e w3 ⟨rfl, hb⟩
          rw [HI.out]
          replace HB := Lib.hid (HB.out.trans (hb.mono HB.out.size))
          clear hb
          go_wp2_with fail
          refine (cell_Float (fl x) hfx _).mono ?_
          rintro e w4 ⟨rfl, hb⟩
          replace HB := Lib.hid (HB.out.trans (hb.mono HB.out.size))
          clear hb
          go_wp2_with fail
          refine (cell_Float (fl y) hfy _).mono ?_
          rintro e w5 ⟨rfl, hb⟩
          replace HB := Lib.hid (HB.out.trans (hb.mono HB.out.size))
          clear hb
          go_wp2_with fail
          refine (cell_Compare 5 (fl x) (fl y) hfx hfy _ _ [] [] _ empty_rd empty_rd (hT.later HB.out)).mono ?_
          rintro e w6 ⟨rfl, hb⟩
          rw [HF.out]
          replace HB := Lib.hid (HB.out.trans (hb.mono HB.out.size))
          clear hb
          go_wp2_with fail
          obtain ⟨N5, N6, N7⟩ := new1 w6 (.cells #[.int .u64 0, .string (s ++ t)] 24)
          obtain ⟨w7, hw7⟩ : ∃ w7, w7 = w6.alloc (.cells #[.int .u64 0, .string (s ++ t)] 24) := ⟨_, rfl⟩
          rw [← hw7] at N6 N7 ⊢
          have q : CellAt w7 w6.heap.size 0 (s ++ t) := N6
          replace HB := Lib.hid (HB.out.trans (N7.mono HB.out.size))
          generalize w6.heap.size = b at *
          clear N5 N6 N7 hw7
          refine (law04_alive _ (hT.later HB.out)).mono ?_
          rintro e w8 ⟨rfl, hb⟩
          replace q := q.later hb
          have c1 := q.c0; have c2 := q.c1
          replace HB := Lib.hid (HB.out.trans (hb.mono HB.out.size))
          clear hb
          go_wp2_with fail
          refine (cell_Compare 3 0 0 (by omega) (by omega) _ _ l (l ++ m) _ hs hst (hT.later HB.out)).mono ?_
          rintro e w10 ⟨rfl, hb⟩
          rw [HD.out]
          replace q := q.later hb
          clear c1 c2
          have c1 := q.c0; have c2 := q.c1
          replace HB := Lib.hid (HB.out.trans (hb.mono HB.out.size))
          clear hb
          go_wp2_with fail
          refine (cell_Compare 3 0 0 (by omega) (by omega) _ _ l (l ++ m) _ hs hst (hT.later HB.out)).mono ?_
          rintro e w11 ⟨rfl, hb⟩
          rw [HD.out]
          replace HB := Lib.hid (HB.out.trans (hb.mono HB.out.size))
          clear hb
          go_wp2
          go_ret
          exact ⟨rfl, HB.out⟩
        · have hem : t.toList.isEmpty = false := by rw [ht.toList]; cases m <;> simp_all
          have HD := Lib.hid (show cmpC 3 0 l 0 (l ++ m) = -1 from by rw [cmpC_3 hk1 hk2, cb_app, if_neg hm])
          have hwx : wrap64 x = x := by have := HX.out; clear hlen hlen2 hst hsz; unfold wrap64; omega
          have hwy : wrap64 y = y := by have := HY.out; clear hlen hlen2 hst hsz; unfold wrap64; omega
          clear hk1 hk2 hm hxy
          go_enter Tryd.func7, Tryd.ntmps7
          go_wp2_with fail
          rw [← hw0]
          clear hw0
          go_wp2_with fail
          go_quiet (fail)
          have hbq := below_drewNv (Below.refl w0.heap.size w0) nq
          replace HB := Lib.hid (HB.out.trans (hbq.mono HB.out.size))
          generalize w0.drewN nq = wq at *
          clear hbq a0 a1
          go_wp2_with fail
          refine (cell_Int x n1 HN1.out _).mono ?_
          rintro e w1 ⟨rfl, hb⟩
          replace HB := Lib.hid (HB.out.trans (hb.mono HB.out.size))
          clear hb
          go_wp2_with fail
          refine (cell_Int y n2 HN2.out _).mono ?_
          rintro e w2 ⟨rfl, hb⟩
          replace HB := Lib.hid (HB.out.trans (hb.mono HB.out.size))
          clear hb
          go_wp2_with fail
          refine (cell_Compare 0 n1 n2 hb1 hb2 _ _ [] [] _ empty_rd empty_rd (hT.later HB.out)).mono ?_
          rintro e w3 ⟨rfl, hb⟩
          rw [HI.out]
          replace HB := Lib.hid (HB.out.trans (hb.mono HB.out.size))
          clear hb
          go_wp2_with fail
          refine (cell_Float (fl x) hfx _).mono ?_
          rintro e w4 ⟨rfl, hb⟩
          replace HB := Lib.hid (HB.out.trans (hb.mono HB.out.size))
          clear hb
          go_wp2_with fail
          refine (cell_Float (fl y) hfy _).mono ?_
          rintro e w5 ⟨rfl, hb⟩
          replace HB := Lib.hid (HB.out.trans (hb.mono HB.out.size))
          clear hb
          go_wp2_with fail
          refine (cell_Compare 5 (fl x) (fl y) hfx hfy _ _ [] [] _ empty_rd empty_rd (hT.later HB.out)).mono ?_
          rintro e w6 ⟨rfl, hb⟩
          rw [HF.out]
          replace HB := Lib.hid (HB.out.trans (hb.mono HB.out.size))
          clear hb
          go_wp2_with fail
          obtain ⟨N5, N6, N7⟩ := new1 w6 (.cells #[.int .u64 0, .string (s ++ t)] 24)
          obtain ⟨w7, hw7⟩ : ∃ w7, w7 = w6.alloc (.cells #[.int .u64 0, .string (s ++ t)] 24) := ⟨_, rfl⟩
          rw [← hw7] at N6 N7 ⊢
          have q : CellAt w7 w6.heap.size 0 (s ++ t) := N6
          replace HB := Lib.hid (HB.out.trans (N7.mono HB.out.size))
          generalize w6.heap.size = b at *
          clear N5 N6 N7 hw7
          refine (law04_alive _ (hT.later HB.out)).mono ?_
          rintro e w8 ⟨rfl, hb⟩
          replace q := q.later hb
          have c1 := q.c0; have c2 := q.c1
          replace HB := Lib.hid (HB.out.trans (hb.mono HB.out.size))
          clear hb
          go_wp2_with fail
          refine (cell_Compare 3 0 0 (by omega) (by omega) _ _ l (l ++ m) _ hs hst (hT.later HB.out)).mono ?_
          rintro e w10 ⟨rfl, hb⟩
          rw [HD.out]
          replace q := q.later hb
          clear c1 c2
          have c1 := q.c0; have c2 := q.c1
          replace HB := Lib.hid (HB.out.trans (hb.mono HB.out.size))
          clear hb
          go_wp2_with fail
          refine (cell_Compare 3 0 0 (by omega) (by omega) _ _ l (l ++ m) _ hs hst (hT.later HB.out)).mono ?_
          rintro e w11 ⟨rfl, hb⟩
          rw [HD.out]
          replace HB := Lib.hid (HB.out.trans (hb.mono HB.out.size))
          clear hb
          go_wp2
          go_ret
          exact ⟨rfl, HB.out⟩
      · have HI := Lib.hid (show cmpC 0 n1 [] n2 [] = 0 from by rw [cmpC_0 (check0 n1) (check0 n2), wrap_of HN1.out HX.out.1 HX.out.2, wrap_of HN2.out HY.out.1 HY.out.2]; subst hxy; unfold ordZ; rw [if_neg (by omega), if_neg (by omega)])
        have HF := Lib.hid (show cmpC 5 (fl x) [] (fl y) [] = 0 from by rw [cmpC_5 (check5 _) (check5 _)]; subst hxy; unfold ordZ; rw [if_neg (by omega), if_neg (by omega)])
        have d1 : decide (x < y) = false := decide_eq_false (by omega)
        have d2 : decide (x > y) = false := decide_eq_false (by omega)
        clear hxa hya
        by_cases hm : m = []
        · have hem : t.toList.isEmpty = true := by rw [ht.toList, hm]; rfl
          have HD := Lib.hid (show cmpC 3 0 l 0 (l ++ m) = 0 from by rw [cmpC_3 hk1 hk2, hm, cb_app, if_pos rfl])
          have hwx : wrap64 x = x := by have := HX.out; clear hlen hlen2 hst hsz; unfold wrap64; omega
          have hwy : wrap64 y = y := by have := HY.out; clear hlen hlen2 hst hsz; unfold wrap64; omega
          clear hk1 hk2 hm hxy
          go_enter Tryd.func7, Tryd.ntmps7
          go_wp2_with fail
          rw [← hw0]
          clear hw0
          go_wp2_with fail
          go_quiet (fail)
          have hbq := below_drewNv (Below.refl w0.heap.size w0) nq
          replace HB := Lib.hid (HB.out.trans (hbq.mono HB.out.size))
          generalize w0.drewN nq = wq at *
          clear hbq a0 a1
          go_wp2_with fail
          refine (cell_Int x n1 HN1.out _).mono ?_
          rintro e w1 ⟨rfl, hb⟩
          replace HB := Lib.hid (HB.out.trans (hb.mono HB.out.size))
          clear hb
          go_wp2_with fail
          refine (cell_Int y n2 HN2.out _).mono ?_
          rintro e w2 ⟨rfl, hb⟩
          replace HB := Lib.hid (HB.out.trans (hb.mono HB.out.size))
          clear hb
          go_wp2_with fail
          refine (cell_Compare 0 n1 n2 hb1 hb2 _ _ [] [] _ empty_rd empty_rd (hT.later HB.out)).mono ?_
          rintro e w3 ⟨rfl, hb⟩
          rw [HI.out]
          replace HB := Lib.hid (HB.out.trans (hb.mono HB.out.size))
          clear hb
          go_wp2_with fail
          refine (cell_Float (fl x) hfx _).mono ?_
          rintro e w4 ⟨rfl, hb⟩
          replace HB := Lib.hid (HB.out.trans (hb.mono HB.out.size))
          clear hb
          go_wp2_with fail
          refine (cell_Float (fl y) hfy _).mono ?_
          rintro e w5 ⟨rfl, hb⟩
          replace HB := Lib.hid (HB.out.trans (hb.mono HB.out.size))
          clear hb
          go_wp2_with fail
          refine (cell_Compare 5 (fl x) (fl y) hfx hfy _ _ [] [] _ empty_rd empty_rd (hT.later HB.out)).mono ?_
          rintro e w6 ⟨rfl, hb⟩
          rw [HF.out]
          replace HB := Lib.hid (HB.out.trans (hb.mono HB.out.size))
          clear hb
          go_wp2_with fail
          obtain ⟨N5, N6, N7⟩ := new1 w6 (.cells #[.int .u64 0, .string (s ++ t)] 24)
          obtain ⟨w7, hw7⟩ : ∃ w7, w7 = w6.alloc (.cells #[.int .u64 0, .string (s ++ t)] 24) := ⟨_, rfl⟩
          rw [← hw7] at N6 N7 ⊢
          have q : CellAt w7 w6.heap.size 0 (s ++ t) := N6
          replace HB := Lib.hid (HB.out.trans (N7.mono HB.out.size))
          generalize w6.heap.size = b at *
          clear N5 N6 N7 hw7
          refine (law04_alive _ (hT.later HB.out)).mono ?_
          rintro e w8 ⟨rfl, hb⟩
          replace q := q.later hb
          have c1 := q.c0; have c2 := q.c1
          replace HB := Lib.hid (HB.out.trans (hb.mono HB.out.size))
          clear hb
          go_wp2_with fail
          refine (cell_Compare 3 0 0 (by omega) (by omega) _ _ l (l ++ m) _ hs hst (hT.later HB.out)).mono ?_
          rintro e w10 ⟨rfl, hb⟩
          rw [HD.out]
          replace q := q.later hb
          clear c1 c2
          have c1 := q.c0; have c2 := q.c1
          replace HB := Lib.hid (HB.out.trans (hb.mono HB.out.size))
          clear hb
          go_wp2_with fail
          refine (cell_Compare 3 0 0 (by omega) (by omega) _ _ l (l ++ m) _ hs hst (hT.later HB.out)).mono ?_
          rintro e w11 ⟨rfl, hb⟩
          rw [HD.out]
          replace HB := Lib.hid (HB.out.trans (hb.mono HB.out.size))
          clear hb
          go_wp2
          go_ret
          exact ⟨rfl, HB.out⟩
        · have hem : t.toList.isEmpty = false := by rw [ht.toList]; cases m <;> simp_all
          have HD := Lib.hid (show cmpC 3 0 l 0 (l ++ m) = -1 from by rw [cmpC_3 hk1 hk2, cb_app, if_neg hm])
          have hwx : wrap64 x = x := by have := HX.out; clear hlen hlen2 hst hsz; unfold wrap64; omega
          have hwy : wrap64 y = y := by have := HY.out; clear hlen hlen2 hst hsz; unfold wrap64; omega
          clear hk1 hk2 hm hxy
          go_enter Tryd.func7, Tryd.ntmps7
          go_wp2_with fail
          rw [← hw0]
          clear hw0
          go_wp2_with fail
          go_quiet (fail)
          have hbq := below_drewNv (Below.refl w0.heap.size w0) nq
          replace HB := Lib.hid (HB.out.trans (hbq.mono HB.out.size))
          generalize w0.drewN nq = wq at *
          clear hbq a0 a1
          go_wp2_with fail
          refine (cell_Int x n1 HN1.out _).mono ?_
          rintro e w1 ⟨rfl, hb⟩
          replace HB := Lib.hid (HB.out.trans (hb.mono HB.out.size))
          clear hb
          go_wp2_with fail
          refine (cell_Int y n2 HN2.out _).mono ?_
          rintro e w2 ⟨rfl, hb⟩
          replace HB := Lib.hid (HB.out.trans (hb.mono HB.out.size))
          clear hb
          go_wp2_with fail
          refine (cell_Compare 0 n1 n2 hb1 hb2 _ _ [] [] _ empty_rd empty_rd (hT.later HB.out)).mono ?_
          rintro e w3 ⟨rfl, hb⟩
          rw [HI.out]
          replace HB := Lib.hid (HB.out.trans (hb.mono HB.out.size))
          clear hb
          go_wp2_with fail
          refine (cell_Float (fl x) hfx _).mono ?_
          rintro e w4 ⟨rfl, hb⟩
          replace HB := Lib.hid (HB.out.trans (hb.mono HB.out.size))
          clear hb
          go_wp2_with fail
          refine (cell_Float (fl y) hfy _).mono ?_
          rintro e w5 ⟨rfl, hb⟩
          replace HB := Lib.hid (HB.out.trans (hb.mono HB.out.size))
          clear hb
          go_wp2_with fail
          refine (cell_Compare 5 (fl x) (fl y) hfx hfy _ _ [] [] _ empty_rd empty_rd (hT.later HB.out)).mono ?_
          rintro e w6 ⟨rfl, hb⟩
          rw [HF.out]
          replace HB := Lib.hid (HB.out.trans (hb.mono HB.out.size))
          clear hb
          go_wp2_with fail
          obtain ⟨N5, N6, N7⟩ := new1 w6 (.cells #[.int .u64 0, .string (s ++ t)] 24)
          obtain ⟨w7, hw7⟩ : ∃ w7, w7 = w6.alloc (.cells #[.int .u64 0, .string (s ++ t)] 24) := ⟨_, rfl⟩
          rw [← hw7] at N6 N7 ⊢
          have q : CellAt w7 w6.heap.size 0 (s ++ t) := N6
          replace HB := Lib.hid (HB.out.trans (N7.mono HB.out.size))
          generalize w6.heap.size = b at *
          clear N5 N6 N7 hw7
          refine (law04_alive _ (hT.later HB.out)).mono ?_
          rintro e w8 ⟨rfl, hb⟩
          replace q := q.later hb
          have c1 := q.c0; have c2 := q.c1
          replace HB := Lib.hid (HB.out.trans (hb.mono HB.out.size))
          clear hb
          go_wp2_with fail
          refine (cell_Compare 3 0 0 (by omega) (by omega) _ _ l (l ++ m) _ hs hst (hT.later HB.out)).mono ?_
          rintro e w10 ⟨rfl, hb⟩
          rw [HD.out]
          replace q := q.later hb
          clear c1 c2
          have c1 := q.c0; have c2 := q.c1
          replace HB := Lib.hid (HB.out.trans (hb.mono HB.out.size))
          clear hb
          go_wp2_with fail
          refine (cell_Compare 3 0 0 (by omega) (by omega) _ _ l (l ++ m) _ hs hst (hT.later HB.out)).mono ?_
          rintro e w11 ⟨rfl, hb⟩
          rw [HD.out]
          replace HB := Lib.hid (HB.out.trans (hb.mono HB.out.size))
          clear hb
          go_wp2
          go_ret
          exact ⟨rfl, HB.out⟩
      · have HI := Lib.hid (show cmpC 0 n1 [] n2 [] = 1 from by rw [cmpC_0 (check0 n1) (check0 n2), wrap_of HN1.out HX.out.1 HX.out.2, wrap_of HN2.out HY.out.1 HY.out.2]; unfold ordZ; rw [if_neg (by omega), if_pos hxy])
        have HF := Lib.hid (show cmpC 5 (fl x) [] (fl y) [] = 1 from by rw [cmpC_5 (check5 _) (check5 _)]; have := tkey_mono hxy hya hxa; unfold ordZ; rw [if_neg (by omega), if_pos (by omega)])
        have d1 : decide (x < y) = false := decide_eq_false (by omega)
        have d2 : decide (x > y) = true := decide_eq_true hxy
        clear hxa hya
        by_cases hm : m = []
        · have hem : t.toList.isEmpty = true := by rw [ht.toList, hm]; rfl
          have HD := Lib.hid (show cmpC 3 0 l 0 (l ++ m) = 0 from by rw [cmpC_3 hk1 hk2, hm, cb_app, if_pos rfl])
          have hwx : wrap64 x = x := by have := HX.out; clear hlen hlen2 hst hsz; unfold wrap64; omega
          have hwy : wrap64 y = y := by have := HY.out; clear hlen hlen2 hst hsz; unfold wrap64; omega
          clear hk1 hk2 hm hxy
          go_enter Tryd.func7, Tryd.ntmps7
          go_wp2_with fail
          rw [← hw0]
          clear hw0
          go_wp2_with fail
          go_quiet (fail)
          have hbq := below_drewNv (Below.refl w0.heap.size w0) nq
          replace HB := Lib.hid (HB.out.trans (hbq.mono HB.out.size))
          generalize w0.drewN nq = wq at *
          clear hbq a0 a1
          go_wp2_with fail
          refine (cell_Int x n1 HN1.out _).mono ?_
          rintro e w1 ⟨rfl, hb⟩
          replace HB := Lib.hid (HB.out.trans (hb.mono HB.out.size))
          clear hb
          go_wp2_with fail
          refine (cell_Int y n2 HN2.out _).mono ?_
          rintro e w2 ⟨rfl, hb⟩
          replace HB := Lib.hid (HB.out.trans (hb.mono HB.out.size))
          clear hb
          go_wp2_with fail
          refine (cell_Compare 0 n1 n2 hb1 hb2 _ _ [] [] _ empty_rd empty_rd (hT.later HB.out)).mono ?_
          rintro e w3 ⟨rfl, hb⟩
          rw [HI.out]
          replace HB := Lib.hid (HB.out.trans (hb.mono HB.out.size))
          clear hb
          go_wp2_with fail
          refine (cell_Float (fl x) hfx _).mono ?_
          rintro e w4 ⟨rfl, hb⟩
          replace HB := Lib.hid (HB.out.trans (hb.mono HB.out.size))
          clear hb
          go_wp2_with fail
          refine (cell_Float (fl y) hfy _).mono ?_
          rintro e w5 ⟨rfl, hb⟩
          replace HB := Lib.hid (HB.out.trans (hb.mono HB.out.size))
          clear hb
          go_wp2_with fail
          refine (cell_Compare 5 (fl x) (fl y) hfx hfy _ _ [] [] _ empty_rd empty_rd (hT.later HB.out)).mono ?_
          rintro e w6 ⟨rfl, hb⟩
          rw [HF.out]
          replace HB := Lib.hid (HB.out.trans (hb.mono HB.out.size))
          clear hb
          go_wp2_with fail
          obtain ⟨N5, N6, N7⟩ := new1 w6 (.cells #[.int .u64 0, .string (s ++ t)] 24)
          obtain ⟨w7, hw7⟩ : ∃ w7, w7 = w6.alloc (.cells #[.int .u64 0, .string (s ++ t)] 24) := ⟨_, rfl⟩
          rw [← hw7] at N6 N7 ⊢
          have q : CellAt w7 w6.heap.size 0 (s ++ t) := N6
          replace HB := Lib.hid (HB.out.trans (N7.mono HB.out.size))
          generalize w6.heap.size = b at *
          clear N5 N6 N7 hw7
          refine (law04_alive _ (hT.later HB.out)).mono ?_
          rintro e w8 ⟨rfl, hb⟩
          replace q := q.later hb
          have c1 := q.c0; have c2 := q.c1
          replace HB := Lib.hid (HB.out.trans (hb.mono HB.out.size))
          clear hb
          go_wp2_with fail
          refine (cell_Compare 3 0 0 (by omega) (by omega) _ _ l (l ++ m) _ hs hst (hT.later HB.out)).mono ?_
          rintro e w10 ⟨rfl, hb⟩
          rw [HD.out]
          replace q := q.later hb
          clear c1 c2
          have c1 := q.c0; have c2 := q.c1
          replace HB := Lib.hid (HB.out.trans (hb.mono HB.out.size))
          clear hb
          go_wp2_with fail
          refine (cell_Compare 3 0 0 (by omega) (by omega) _ _ l (l ++ m) _ hs hst (hT.later HB.out)).mono ?_
          rintro e w11 ⟨rfl, hb⟩
          rw [HD.out]
          replace HB := Lib.hid (HB.out.trans (hb.mono HB.out.size))
          clear hb
          go_wp2
          go_ret
          exact ⟨rfl, HB.out⟩
        · have hem : t.toList.isEmpty = false := by rw [ht.toList]; cases m <;> simp_all
          have HD := Lib.hid (show cmpC 3 0 l 0 (l ++ m) = -1 from by rw [cmpC_3 hk1 hk2, cb_app, if_neg hm])
          have hwx : wrap64 x = x := by have := HX.out; clear hlen hlen2 hst hsz; unfold wrap64; omega
          have hwy : wrap64 y = y := by have := HY.out; clear hlen hlen2 hst hsz; unfold wrap64; omega
          clear hk1 hk2 hm hxy
          go_enter Tryd.func7, Tryd.ntmps7
          go_wp2_with fail
          rw [← hw0]
          clear hw0
          go_wp2_with fail
          go_quiet (fail)
          have hbq := below_drewNv (Below.refl w0.heap.size w0) nq
          replace HB := Lib.hid (HB.out.trans (hbq.mono HB.out.size))
          generalize w0.drewN nq = wq at *
          clear hbq a0 a1
          go_wp2_with fail
          refine (cell_Int x n1 HN1.out _).mono ?_
          rintro e w1 ⟨rfl, hb⟩
          replace HB := Lib.hid (HB.out.trans (hb.mono HB.out.size))
          clear hb
          go_wp2_with fail
          refine (cell_Int y n2 HN2.out _).mono ?_
          rintro e w2 ⟨rfl, hb⟩
          replace HB := Lib.hid (HB.out.trans (hb.mono HB.out.size))
          clear hb
          go_wp2_with fail
          refine (cell_Compare 0 n1 n2 hb1 hb2 _ _ [] [] _ empty_rd empty_rd (hT.later HB.out)).mono ?_
          rintro e w3 ⟨rfl, hb⟩
          rw [HI.out]
          replace HB := Lib.hid (HB.out.trans (hb.mono HB.out.size))
          clear hb
          go_wp2_with fail
          refine (cell_Float (fl x) hfx _).mono ?_
          rintro e w4 ⟨rfl, hb⟩
          replace HB := Lib.hid (HB.out.trans (hb.mono HB.out.size))
          clear hb
          go_wp2_with fail
          refine (cell_Float (fl y) hfy _).mono ?_
          rintro e w5 ⟨rfl, hb⟩
          replace HB := Lib.hid (HB.out.trans (hb.mono HB.out.size))
          clear hb
          go_wp2_with fail
          refine (cell_Compare 5 (fl x) (fl y) hfx hfy _ _ [] [] _ empty_rd empty_rd (hT.later HB.out)).mono ?_
          rintro e w6 ⟨rfl, hb⟩
          rw [HF.out]
          replace HB := Lib.hid (HB.out.trans (hb.mono HB.out.size))
          clear hb
          go_wp2_with fail
          obtain ⟨N5, N6, N7⟩ := new1 w6 (.cells #[.int .u64 0, .string (s ++ t)] 24)
          obtain ⟨w7, hw7⟩ : ∃ w7, w7 = w6.alloc (.cells #[.int .u64 0, .string (s ++ t)] 24) := ⟨_, rfl⟩
          rw [← hw7] at N6 N7 ⊢
          have q : CellAt w7 w6.heap.size 0 (s ++ t) := N6
          replace HB := Lib.hid (HB.out.trans (N7.mono HB.out.size))
          generalize w6.heap.size = b at *
          clear N5 N6 N7 hw7
          refine (law04_alive _ (hT.later HB.out)).mono ?_
          rintro e w8 ⟨rfl, hb⟩
          replace q := q.later hb
          have c1 := q.c0; have c2 := q.c1
          replace HB := Lib.hid (HB.out.trans (hb.mono HB.out.size))
          clear hb
          go_wp2_with fail
          refine (cell_Compare 3 0 0 (by omega) (by omega) _ _ l (l ++ m) _ hs hst (hT.later HB.out)).mono ?_
          rintro e w10 ⟨rfl, hb⟩
          rw [HD.out]
          replace q := q.later hb
          clear c1 c2
          have c1 := q.c0; have c2 := q.c1
          replace HB := Lib.hid (HB.out.trans (hb.mono HB.out.size))
          clear hb
          go_wp2_with fail
          refine (cell_Compare 3 0 0 (by omega) (by omega) _ _ l (l ++ m) _ hs hst (hT.later HB.out)).mono ?_
          rintro e w11 ⟨rfl, hb⟩
          rw [HD.out]
          replace HB := Lib.hid (HB.out.trans (hb.mono HB.out.size))
          clear hb
          go_wp2
          go_ret
          exact ⟨rfl, HB.out⟩

end Go.Proofs.YtfleebllabolgaaDoor
