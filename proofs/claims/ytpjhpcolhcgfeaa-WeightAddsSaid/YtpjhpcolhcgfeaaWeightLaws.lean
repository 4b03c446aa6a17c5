/-
  Layer 7's laws: WeightAdds, WeightNone, WeightPieces, WeightSums, by their walks.
-/
import Derived.Test.YtpjhpcolhcgfeaaWeightRef
import Derived.Test.YtpjhpcolhcgfeaaInts
set_option linter.unusedVariables false
set_option linter.unusedSimpArgs false
set_option maxRecDepth 1000000
namespace Go.Proofs.Ytpjhpcolhcgfeaa
open Go.RowKit

theorem weightAdds_walk (a b : Int) (w : World) (ha : i64 a) (hb : i64 b) :
    Calls Try.prog 3 #[.int .i64 a, .int .i64 b] w fun e w' => e = .returned (.bool true) ∧ Below w.heap.size w w' := by
  go_enter Try.func3, Try.ntmps3
  go_wp2_with fail
  refine (weight_Add a b ha hb _).mono ?_
  rintro e w1 ⟨rfl, hb1⟩
  have HB := Lib.hid hb1
  clear hb1
  have hr := rdI_built w1 [a, b] (by simp; exact ⟨ha, hb⟩) 2 (by simp)
  have HR := Lib.hid hr
  have hC := (Below.refl w1.heap.size w1).alloc (Nat.le_refl _) (.cells #[.int .i64 a, .int .i64 b] 2)
  clear hr
  go_wp2_with fail
  refine (ref7_Sum _ [a, b] _ HR.out (by simp)).mono ?_
  rintro e w2 ⟨rfl, hb2⟩
  rw [show tot [a, b] = a + b from by simp [tot]]
  replace HB := Lib.hid ((HB.out.trans (hC.mono HB.out.size)).trans (hb2.mono (Nat.le_trans HB.out.size hC.size)))
  clear hb2 hC HR
  go_wp2_with fail
  refine (weight_Neg a ha _).mono ?_
  rintro e w3 ⟨rfl, rfl⟩
  go_wp2_with fail
  refine (ref7_Neg a ha _).mono ?_
  rintro e w4 ⟨rfl, rfl⟩
  go_wp2_with fail
  refine (law07_alive _).mono ?_
  rintro e w5 ⟨rfl, hb5⟩
  replace HB := Lib.hid (HB.out.trans (hb5.mono HB.out.size))
  clear hb5
  go_wp2
  go_ret
  exact ⟨rfl, HB.out⟩

theorem weightNone_walk (a : Int) (w : World) (ha : i64 a) :
    Calls Try.prog 5 #[.int .i64 a] w fun e w' => e = .returned (.bool true) ∧ Below w.heap.size w w' := by
  have hn := fun u => none_Total a u
  go_enter Try.func5, Try.ntmps5
  go_wp2_with fail
  refine (hn _).2.1.mono ?_
  rintro e w1 ⟨rfl, rfl⟩
  have hT : TotR (w.alloc (.cells #[.int .u64 0, .int .u64 0, .int .i64 0] 37)) w.heap.size 0 0 := heap_alloc_new _ _
  have HT := Lib.hid hT
  have HB := Lib.hid ((Below.refl w.heap.size w).alloc (Nat.le_refl _) (.cells #[.int .u64 0, .int .u64 0, .int .i64 0] 37))
  clear hT
  generalize w.alloc (.cells #[.int .u64 0, .int .u64 0, .int .i64 0] 37) = w1 at *
  go_wp2_with fail
  refine (total_Sum _ 0 0 (by omega) _ HT.out).mono ?_
  rintro e w2 ⟨rfl, hb⟩
  rw [show wV 0 = 0 from rfl, show wE 0 = 0 from rfl]
  replace HB := Lib.hid (HB.out.trans (hb.mono HB.out.size))
  clear hb HT
  go_wp2_with fail
  refine (weight_Sum _ [] _ (RdI.nil _ _)).mono ?_
  rintro e w3 ⟨rfl, hb⟩
  rw [show wV (tot []) = 0 from rfl, show wE (tot []) = 0 from rfl]
  replace HB := Lib.hid (HB.out.trans (hb.mono HB.out.size))
  clear hb
  have hr := rdI_built w3 [a] (by simp; exact ha) 2 (by simp)
  have HR := Lib.hid hr
  have hC := (Below.refl w3.heap.size w3).alloc (Nat.le_refl _) (.cells #[.int .i64 a] 2)
  clear hr
  go_wp2_with fail
  refine (weight_Sum _ [a] _ HR.out).mono ?_
  rintro e w4 ⟨rfl, hb⟩
  rw [show tot [a] = a from by simp [tot], show wV a = a from if_pos ha, show wE a = 0 from if_pos ha]
  replace HB := Lib.hid ((HB.out.trans (hC.mono HB.out.size)).trans (hb.mono (Nat.le_trans HB.out.size hC.size)))
  clear hb hC HR
  go_wp2_with fail
  refine (law07_alive _).mono ?_
  rintro e w5 ⟨rfl, hb⟩
  replace HB := Lib.hid (HB.out.trans (hb.mono HB.out.size))
  clear hb
  go_wp2_with fail
  refine (hn _).1.mono ?_
  rintro e w6 ⟨rfl, rfl⟩
  go_wp2_with fail
  refine (hn _).2.2.mono ?_
  rintro e w7 ⟨rfl, rfl⟩
  go_wp2
  go_ret
  exact ⟨rfl, HB.out⟩

theorem wV_in (x : Int) : i64 (wV x) := wV_b x
theorem wV_self {x : Int} (h : i64 x) : wV x = x := if_pos h
theorem wE_in {x : Int} (h : i64 x) : wE x = 0 := if_pos h
theorem wE_out {x : Int} (h : ¬ i64 x) : wE x = 12 := if_neg h
theorem wV_out {x : Int} (h : ¬ i64 x) : wV x = 0 := if_neg h

set_option maxHeartbeats 2000000 in
theorem weightPieces_walk (v : Value) (l : List Int) (n : Int) (w : World) (h : RdI .i64 w v l) (hn : 0 ≤ n ∧ n ≤ 255) :
    Calls Try.prog 7 #[v, .int .u8 n] w fun e w' => e = .returned (.bool true) ∧ Below w.heap.size w w' := by
  have hlen := h.len (t := 27) (by kernel_rfl)
  have hsm := h.small
  obtain ⟨n0, n1⟩ := hn
  by_cases hbig : 300 < l.length
  · go_enter Try.func7, Try.ntmps7
    go_wp2_with fail
    refine (law07_alive w).mono ?_
    rintro e w1 ⟨rfl, hb⟩
    have HB := Lib.hid hb
    clear hb
    go_wp2_with fail
    refine (law07_alive _).mono ?_
    rintro e w2 ⟨rfl, hb⟩
    replace HB := Lib.hid (HB.out.trans (hb.mono HB.out.size))
    clear hb
    go_wp2
    go_ret
    exact ⟨rfl, HB.out⟩
  · have hl2 : l.length ≤ 300 := by omega
    obtain ⟨q, hq⟩ : ∃ q : Nat, n % ((l.length : Int) + 1) = (q : Int) ∧ q ≤ l.length := by
      have h0 := Int.emod_nonneg n (b := (l.length : Int) + 1) (by omega)
      have h1 := Int.emod_lt_of_pos n (b := (l.length : Int) + 1) (by omega)
      exact ⟨(n % ((l.length : Int) + 1)).toNat, by omega, by omega⟩
    obtain ⟨hq, hqn⟩ := hq
    obtain ⟨va, hsl1, hrd1⟩ := h.upto64 q hqn
    obtain ⟨vb, hsl2, hrd2⟩ := h.from64 q hqn
    have HS : Hid (tot (l.take q) + tot (l.drop q) = tot l) := Lib.hid (by rw [← tot_append, List.take_append_drop])
    have HR1 := Lib.hid hrd1
    have HR2 := Lib.hid hrd2
    have HH := Lib.hid h
    clear hrd1 hrd2 h hbig
    go_enter Try.func7, Try.ntmps7
    go_wp2_with fail
    refine (law07_alive w).mono ?_
    rintro e w1 ⟨rfl, hb⟩
    have HB := Lib.hid hb
    clear hb
    go_wp2_with fail
    refine (weight_Sum va _ _ (HR1.out _ (HH.out.later HB.out (Nat.le_refl _)))).mono ?_
    rintro e w2 ⟨rfl, hb⟩
    replace HB := Lib.hid (HB.out.trans (hb.mono HB.out.size))
    clear hb
    go_wp2_with fail
    refine (weight_Sum vb _ _ (HR2.out _ (HH.out.later HB.out (Nat.le_refl _)))).mono ?_
    rintro e w3 ⟨rfl, hb⟩
    replace HB := Lib.hid (HB.out.trans (hb.mono HB.out.size))
    clear hb
    go_wp2_with fail
    refine (weight_Sum v _ _ (HH.out.later HB.out (Nat.le_refl _))).mono ?_
    rintro e w4 ⟨rfl, hb⟩
    replace HB := Lib.hid (HB.out.trans (hb.mono HB.out.size))
    clear hb
    go_wp2_with fail
    refine (weight_Add (wV (tot (l.take q))) (wV (tot (l.drop q))) (wV_in _) (wV_in _) _).mono ?_
    rintro e w5 ⟨rfl, hb⟩
    replace HB := Lib.hid (HB.out.trans (hb.mono HB.out.size))
    clear hb
    go_wp2_with fail
    refine (weight_Add (wV (tot (l.drop q))) (wV (tot (l.take q))) (wV_in _) (wV_in _) _).mono ?_
    rintro e w6 ⟨rfl, hb⟩
    replace HB := Lib.hid (HB.out.trans (hb.mono HB.out.size))
    clear hb
    go_wp2_with fail
    refine (weight_Add (wV (tot (l.take q))) 0 (wV_in _) ⟨by omega, by omega⟩ _).mono ?_
    rintro e w7 ⟨rfl, hb⟩
    replace HB := Lib.hid (HB.out.trans (hb.mono HB.out.size))
    clear hb
    rw [Int.add_comm (wV (tot (l.drop q))), Int.add_zero, wV_self (wV_in (tot (l.take q))), wE_in (wV_in (tot (l.take q)))]
    by_cases hA : i64 (tot (l.take q))
    · by_cases hB : i64 (tot (l.drop q))
      · rw [wV_self hA, wV_self hB, wE_in hA, wE_in hB, HS.out]
        go_wp2
        go_ret
        exact ⟨rfl, HB.out⟩
      · rw [wE_in hA, wE_out hB]
        go_wp2
        go_ret
        exact ⟨rfl, HB.out⟩
    · rw [wE_out hA]
      go_wp2
      go_ret
      exact ⟨rfl, HB.out⟩

set_option maxHeartbeats 4000000 in
theorem weightSums_walk (v : Value) (l : List Int) (w : World) (h : RdI .i64 w v l) :
    Calls Try.prog 4 #[v] w fun e w' => e = .returned (.bool true) ∧ Below w.heap.size w w' := by
  have hlen := h.len (t := 27) (by kernel_rfl)
  have hidx := h.idx (t := 27) (by kernel_rfl) (by kernel_rfl)
  have hsm := h.small
  by_cases hbig : 2000 < l.length
  · go_enter Try.func4, Try.ntmps4
    go_wp2_with fail
    refine (law07_alive w).mono ?_
    rintro e w1 ⟨rfl, hb⟩
    have HB := Lib.hid hb
    clear hb
    go_wp2_with fail
    refine (law07_alive _).mono ?_
    rintro e w2 ⟨rfl, hb⟩
    replace HB := Lib.hid (HB.out.trans (hb.mono HB.out.size))
    clear hb
    go_wp2
    go_ret
    exact ⟨rfl, HB.out⟩
  · have hl2 : l.length ≤ 2000 := by omega
    have hnum := h.nums
    have hok := paOk_take hnum hl2
    have hts : ∀ k, -170141183460469231731687303715884105728 ≤ tot (l.take k) ∧ tot (l.take k) < 170141183460469231731687303715884105728 := fun k => by have := hok k; unfold paOk at this; omega
    have hts0 := hts l.length
    rw [List.take_length] at hts0
    have HH := Lib.hid h
    clear h hbig
    go_enter Try.func4, Try.ntmps4
    go_wp2_with fail
    refine (law07_alive w).mono ?_
    rintro e w1 ⟨rfl, hb⟩
    have HB := Lib.hid hb
    clear hb
    go_wp2_with fail
    refine (weight_Sum v _ _ (HH.out.later HB.out (Nat.le_refl _))).mono ?_
    rintro e w2 ⟨rfl, hb⟩
    replace HB := Lib.hid (HB.out.trans (hb.mono HB.out.size))
    clear hb
    go_wp2_with fail
    refine (ref7_Sum v _ _ (HH.out.later HB.out (Nat.le_refl _)) hl2).mono ?_
    rintro e w3 ⟨rfl, hb⟩
    replace HB := Lib.hid (HB.out.trans (hb.mono HB.out.size))
    clear hb
    obtain ⟨tv, htv⟩ : ∃ tv, wV (tot l) = tv := ⟨_, rfl⟩
    obtain ⟨te, hte⟩ : ∃ te, wE (tot l) = te := ⟨_, rfl⟩
    rw [htv, hte]
    have HTV := Lib.hid htv
    have HTE := Lib.hid hte
    clear htv hte
    go_wp2
    obtain ⟨N0, N1, N2, N3⟩ := new2 w3 (.cells #[.int .u64 0, .int .u64 0, .int .i64 0] 37) (.cells #[.int .i64 0, .int .i64 0] 39)
    have HN1 := Lib.hid N1
    have HN2 := Lib.hid N2
    have HB3 := Lib.hid (HB.out.trans (N3.mono HB.out.size))
    have hsz : w.heap.size ≤ w3.heap.size := HB.out.size
    clear N0 N1 N2 N3 HB
    go_loopw [46] (fun i wr => ∃ k : Nat, k ≤ l.length ∧ i = .int .i64 k ∧ Hid (TotR wr w3.heap.size (tot (l.take k)) k) ∧ Hid (wr.heap[w3.heap.size + 1]? = some (.cells #[.int .i64 (paH (tot (l.take k))), .int .i64 (paL (tot (l.take k)))] 39 (0, 0))) ∧ Hid (Below w.heap.size w wr)) (fun i _ => l.length - (intOf i).toNat)
    case atStart => exact ⟨0, by omega, rfl, HN1, HN2, HB3⟩
    case round =>
      obtain ⟨k, hk, rfl, HT, HG, HB⟩ := hrel
      by_cases hlt : k < l.length
      · have c0 := cell_of_row _ _ 0 _ _ _ HG.out
        have c1 := cell_of_row _ _ 1 _ _ _ HG.out
        simp at c0 c1
        have hcel := (HH.out.later HB.out (Nat.le_refl _)).cells k hlt
        have hx := hidx k hlt
        have hn : i64 (atI l k) := hnum _ (by simp [atI, List.getD, hlt])
        obtain ⟨y, hy⟩ : ∃ y, tot (l.take (k + 1)) = y := ⟨_, rfl⟩
        obtain ⟨x, hxx⟩ : ∃ x, tot (l.take k) = x := ⟨_, rfl⟩
        have hsn : x + atI l k = y := by rw [← hy, ← hxx]; exact (tot_snoc l k hlt).symm
        have hw1 := Lib.hid (hok (k + 1))
        have hw2 := Lib.hid (hts (k + 1))
        have hw0 := Lib.hid (hok k)
        rw [hy] at hw1 hw2
        rw [hxx] at hw0 HT c0 c1
        have HY := Lib.hid hy
        have HS := Lib.hid hsn
        clear hidx hts0 hts hok hy hxx hsn
        go_wp2_with fail
        refine (ref_Plus x (atI l k) hw0.out hn _).mono ?_
        rintro e w4 ⟨rfl, hb⟩
        rw [HS.out]
        have hg1 : w4.heap[w3.heap.size + 1]? = _ := (hb.block _ (Array.getElem?_eq_some_iff.1 HG.out).1).trans HG.out
        have ht1 : w4.heap[w3.heap.size]? = _ := (hb.block _ (Array.getElem?_eq_some_iff.1 HT.out).1).trans HT.out
        have c2 := cell_of_row _ _ 0 _ _ _ hg1
        have c3 := cell_of_row _ _ 1 _ _ _ hg1
        have f2 := frozen_of_row _ _ 0 _ _ hg1
        have f3 := frozen_of_row _ _ 1 _ _ hg1
        simp at c2 c3
        have HG1 := Lib.hid hg1
        have HT1 := Lib.hid ht1
        replace HB := Lib.hid (HB.out.trans (hb.mono HB.out.size))
        clear hg1 ht1 hb HG HT c0 c1
        unfold paV
        go_wp2_with fail
        have HG2 := Lib.hid (block_setCell (g := w3.heap.size + 1) (k := 1) (block_setCell (g := w3.heap.size + 1) (k := 0) HG1.out (.int .i64 (paH y))) (.int .i64 (paL y)))
        have HT2 : Hid (TotR ((w4.setCell ⟨w3.heap.size + 1, 0, none⟩ (.int .i64 (paH y))).setCell ⟨w3.heap.size + 1, 1, none⟩ (.int .i64 (paL y))) w3.heap.size x k) := Lib.hid (by
          unfold TotR
          rw [Below.heap_setCell _ _ _ _ (by simp), Below.heap_setCell _ _ _ _ (by simp)]
          exact HT1.out)
        have HB2 := Lib.hid ((HB.out.setCell (p := ⟨w3.heap.size + 1, 0, none⟩) (by show w.heap.size ≤ w3.heap.size + 1; omega) (.int .i64 (paH y))).setCell (p := ⟨w3.heap.size + 1, 1, none⟩) (by show w.heap.size ≤ w3.heap.size + 1; omega) (.int .i64 (paL y)))
        clear HG1 HT1 HB c2 c3 f2 f3
        generalize (w4.setCell ⟨w3.heap.size + 1, 0, none⟩ (.int .i64 (paH y))).setCell ⟨w3.heap.size + 1, 1, none⟩ (.int .i64 (paL y)) = w5 at *
        refine (ref_Whole y _).mono ?_
        rintro e w6 ⟨rfl, hb⟩
        have HG3 := Lib.hid ((hb.block _ (Array.getElem?_eq_some_iff.1 HG2.out).1).trans HG2.out)
        have HT3 : Hid (TotR w6 w3.heap.size x k) := Lib.hid ((hb.block _ (Array.getElem?_eq_some_iff.1 HT2.out).1).trans HT2.out)
        have HB3 := Lib.hid (HB2.out.trans (hb.mono HB2.out.size))
        clear hb HG2 HT2 HB2
        go_wp2_with fail
        refine (total_Add _ x (atI l k) k hn (by omega) _ HT3.out).mono ?_
        rintro e w7 ⟨rfl, ht, ho⟩
        rw [HS.out] at ht
        have HG4 := Lib.hid (ho.keep HG3.out (by show ¬ (w3.heap.size + 1 = w3.heap.size); omega))
        have HB4 := Lib.hid (HB3.out.trans (ho.toBelow (B := w.heap.size) (fun j hj => by show w.heap.size ≤ j; have hj' : j = w3.heap.size := hj; omega) HB3.out.size))
        have HT4 := Lib.hid ht
        clear ht ho HG3 HT3 HB3
        go_wp2_with fail
        refine (total_Count _ y (k + 1) _ HT4.out).mono ?_
        rintro e w8 ⟨rfl, rfl⟩
        have hck : (((k + 1 : Nat) : Int)) = (k : Int) + 1 := by omega
        rw [hck]
        clear hck
        go_wp2_with fail
        refine (total_Sum _ y (k + 1) hw2.out _ HT4.out).mono ?_
        rintro e w8 ⟨rfl, hb⟩
        have HG5 := Lib.hid ((hb.block _ (Array.getElem?_eq_some_iff.1 HG4.out).1).trans HG4.out)
        have HT5 : Hid (TotR w8 w3.heap.size y (k + 1)) := Lib.hid ((hb.block _ (Array.getElem?_eq_some_iff.1 HT4.out).1).trans HT4.out)
        have HB5 := Lib.hid (HB4.out.trans (hb.mono HB4.out.size))
        clear hb HG4 HT4 HB4
        rcases wE_b y with he | he
        · rw [he]
          go_wp2
          go_roundw
          case rel => exact ⟨k + 1, by omega, by go_num, by rw [HY.out]; exact HT5, by rw [HY.out]; exact HG5, HB5⟩
          case measure => simp [intOf]; omega
        · rw [he]
          go_wp2
          go_roundw
          case rel => exact ⟨k + 1, by omega, by go_num, by rw [HY.out]; exact HT5, by rw [HY.out]; exact HG5, HB5⟩
          case measure => simp [intOf]; omega
      · obtain rfl : k = l.length := by omega
        rw [List.take_length] at HT HG
        go_wp2_with fail
        refine (total_Sum _ (tot l) l.length hts0 _ HT.out).mono ?_
        rintro e w8 ⟨rfl, hb⟩
        rw [HTV.out, HTE.out]
        go_wp2
        go_ret
        exact ⟨rfl, HB.out.trans (hb.mono HB.out.size)⟩

end Go.Proofs.Ytpjhpcolhcgfeaa
