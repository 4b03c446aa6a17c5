/-
  Layer 7: the document's sum, in parts.
-/
import Derived.Test.YtpjhpcolhcgfeaaWeight
import Derived.StillTailTactics
set_option linter.unusedVariables false
set_option linter.unusedSimpArgs false
set_option maxRecDepth 1000000
namespace Go.Proofs.Ytpjhpcolhcgfeaa
open Go.RowKit

/-- A sum in parts. -/
def paH (x : Int) : Int := x / 4294967296
def paL (x : Int) : Int := x % 4294967296
def paV (x : Int) : Value := .agg #[.int .i64 (paH x), .int .i64 (paL x)]
/-- What the parts bear. -/
def paOk (x : Int) : Prop := -19807040628566084398385987584 ≤ x ∧ x ≤ 19807040628566084398385987584

theorem ref_Plus (x a : Int) (hx : paOk x) (ha : i64 a) (w : World) :
    Calls Try.prog 14 #[paV x, .int .i64 a] w fun e w' => e = .returned (paV (x + a)) ∧ Below w.heap.size w w' := by
  obtain ⟨x1, x2⟩ := hx
  obtain ⟨a1, a2⟩ := ha
  have hL : 0 ≤ paL x ∧ paL x ≤ 4294967295 := by unfold paL; omega
  have hH : -4611686018427387904 ≤ paH x ∧ paH x ≤ 4611686018427387904 := by unfold paH; omega
  obtain ⟨l1, l2⟩ := hL
  obtain ⟨h1, h2⟩ := hH
  have hw := wrap_lo a
  obtain ⟨m, hm, m1, m2⟩ : ∃ m, loX a % 4294967296 = m ∧ 0 ≤ m ∧ m ≤ 4294967295 := ⟨_, rfl, by unfold loX; omega, by unfold loX; omega⟩
  obtain ⟨q, hq, q1, q2⟩ : ∃ q, a / 4294967296 = q ∧ -2147483648 ≤ q ∧ q ≤ 2147483647 := ⟨_, rfl, by omega, by omega⟩
  have la := loX_b a
  obtain ⟨la1, la2⟩ := la
  have e1 : paH x + q + (paL x + m) / 4294967296 = paH (x + a) := by unfold paH paL loX at *; omega
  have e2 : (paL x + m) % 4294967296 = paL (x + a) := by unfold paL loX at *; omega
  unfold paV
  rw [← e1, ← e2]
  clear e1 e2
  generalize paH x = H at *
  generalize paL x = L at *
  generalize loX a = A at *
  have i1 : -9223372036854775808 ≤ H + q ∧ H + q ≤ 9223372036854775807 := by omega
  have i2 : -9223372036854775808 ≤ H + q + (L + m) / 4294967296 ∧ H + q + (L + m) / 4294967296 ≤ 9223372036854775807 := by omega
  go_enter Try.func14, Try.ntmps14
  go_wp2
  refine bodyPost_ret (by simp [results, Try.results14, go_sem]; try rfl) rfl ?_
  exact ⟨rfl, ((Below.refl w.heap.size w).alloc (Nat.le_refl _) _).alloc (by simp) _⟩

theorem pa_in (x : Int) : i64 x ↔ -2147483648 ≤ paH x ∧ paH x ≤ 2147483647 := by unfold i64 paH; omega
theorem pa_num (x : Int) : paH x * 4294967296 + paL x = x := by unfold paH paL; omega

theorem ref_Whole_in (x : Int) (hx : i64 x) (w : World) :
    Calls Try.prog 15 #[paV x] w fun e w' => e = .returned (.tuple #[.int .i64 x, .bool true]) ∧ Below w.heap.size w w' := by
  obtain ⟨h1, h2⟩ := (pa_in x).1 hx
  have hn := pa_num x
  have hL : 0 ≤ paL x ∧ paL x ≤ 4294967295 := by unfold paL; omega
  unfold paV
  obtain ⟨x1, x2⟩ := hx
  generalize paH x = H at *
  generalize paL x = L at *
  subst hn
  have c1 : decide (H < -2147483648) = false := decide_eq_false (by omega)
  have c2 : decide (2147483647 < H) = false := decide_eq_false (by omega)
  obtain ⟨l1, l2⟩ := hL
  go_enter Try.func15, Try.ntmps15
  go_wp2
  go_ret2
  exact ⟨rfl, (Below.refl w.heap.size w).alloc (Nat.le_refl _) _⟩

theorem ref_Whole_out (x : Int) (hx : ¬ i64 x) (w : World) :
    Calls Try.prog 15 #[paV x] w fun e w' => e = .returned (.tuple #[.int .i64 0, .bool false]) ∧ Below w.heap.size w w' := by
  have h : ¬ (-2147483648 ≤ paH x ∧ paH x ≤ 2147483647) := fun h => hx ((pa_in x).2 h)
  unfold paV
  generalize paH x = H at *
  generalize paL x = L at *
  by_cases c1 : H < -2147483648
  · have c1 : decide (H < -2147483648) = true := decide_eq_true c1
    go_enter Try.func15, Try.ntmps15
    go_wp2
    go_ret2
    exact ⟨rfl, (Below.refl w.heap.size w).alloc (Nat.le_refl _) _⟩
  · have c2 : decide (2147483647 < H) = true := decide_eq_true (by omega)
    have c1 : decide (H < -2147483648) = false := decide_eq_false c1
    go_enter Try.func15, Try.ntmps15
    go_wp2
    go_ret2
    exact ⟨rfl, (Below.refl w.heap.size w).alloc (Nat.le_refl _) _⟩

theorem ref_Whole (x : Int) (w : World) :
    Calls Try.prog 15 #[paV x] w fun e w' => e = .returned (.tuple #[.int .i64 (wV x), .bool (wE x == 0)]) ∧ Below w.heap.size w w' := by
  by_cases h : i64 x
  · rw [show wV x = x from if_pos h, show wE x = 0 from if_pos h]
    exact ref_Whole_in x h w
  · rw [show wV x = 0 from if_neg h, show wE x = 12 from if_neg h]
    exact ref_Whole_out x h w

theorem paOk_take {l : List Int} (h : ∀ x ∈ l, i64 x) (hs : l.length ≤ 2000) (k : Nat) : paOk (tot (l.take k)) := by
  have h1 := tot_bound (l.take k) (fun x hx => h x (List.mem_of_mem_take hx))
  have h2 : (l.take k).length ≤ 2000 := by simp; omega
  unfold paOk
  omega

set_option maxHeartbeats 1000000 in
theorem ref7_Sum (v : Value) (l : List Int) (w : World) (hR : RdI .i64 w v l) (hs : l.length ≤ 2000) :
    Calls Try.prog 9 #[v] w fun e w' => e = .returned (.tuple #[.int .i64 (wV (tot l)), .int .i64 (wE (tot l))]) ∧ Below w.heap.size w w' := by
  have hlen := hR.len (t := 27) (by kernel_rfl)
  have hidx := hR.idx (t := 27) (by kernel_rfl) (by kernel_rfl)
  have hnum := hR.nums
  have hok := paOk_take hnum hs
  go_enter Try.func9, Try.ntmps9
  go_wp2
  go_loopw [5] (fun i wr => ∃ k : Nat, k ≤ l.length ∧ i = .int .i64 k ∧ Hid (wr.heap[w.heap.size]? = some (.cells #[.int .i64 (paH (tot (l.take k))), .int .i64 (paL (tot (l.take k)))] 39 (0, 0))) ∧ Hid (Below w.heap.size w wr)) (fun i _ => l.length - (intOf i).toNat)
  case atStart => exact ⟨0, by omega, rfl, Lib.hid (heap_alloc_new _ _), Lib.hid ((Below.refl _ _).alloc (Nat.le_refl _) _)⟩
  case round =>
    obtain ⟨k, hk, rfl, HG, HB⟩ := hrel
    have c0 := cell_of_row _ _ 0 _ _ _ HG.out
    have c1 := cell_of_row _ _ 1 _ _ _ HG.out
    simp at c0 c1
    by_cases hlt : k < l.length
    · have hcel := (hR.later HB.out (Nat.le_refl _)).cells k hlt
      have hx := hidx k hlt
      clear hidx
      have hn : i64 (atI l k) := hnum _ (by simp [atI, List.getD, hlt])
      go_wp2
      go_still_tail 5, (by kernel_rfl)
      change wpList _ _ _ _ _ wr.drew
      have HG2 : Hid (wr.drew.heap[w.heap.size]? = _) := Lib.hid HG.out
      have HB2 := Lib.hid HB.out.drew
      clear HG HB c0 c1
      generalize wr.drew = w2 at *
      go_wp2_with fail
      refine (ref_Plus (tot (l.take k)) (atI l k) (hok k) hn _).mono ?_
      rintro e w1 ⟨rfl, hb⟩
      rw [← tot_snoc l k hlt]
      have hg1 : w1.heap[w.heap.size]? = _ := (hb.block _ (Array.getElem?_eq_some_iff.1 HG2.out).1).trans HG2.out
      have c2 := cell_of_row _ _ 0 _ _ _ hg1
      have c3 := cell_of_row _ _ 1 _ _ _ hg1
      have f2 := frozen_of_row _ _ 0 _ _ hg1
      have f3 := frozen_of_row _ _ 1 _ _ hg1
      simp at c2 c3
      have HG1 := Lib.hid hg1
      have HB1 := Lib.hid (HB2.out.trans (hb.mono HB2.out.size))
      clear hg1 hb HG2 HB2
      unfold paV
      go_wp2
      go_roundw
      case rel => exact ⟨k + 1, by omega, by go_num, Lib.hid (block_setCell (block_setCell HG1.out _) _), Lib.hid ((HB1.out.setCell (Nat.le_refl _) _).setCell (Nat.le_refl _) _)⟩
      case measure => simp [intOf]; omega
    · obtain rfl : k = l.length := by omega
      rw [List.take_length] at c0 c1
      by_cases hin : i64 (tot l)
      · go_wp2_with fail
        refine (ref_Whole_in (tot l) hin _).mono ?_
        rintro e w1 ⟨rfl, hb⟩
        go_wp2
        go_ret2
        rw [show wV (tot l) = tot l from if_pos hin, show wE (tot l) = 0 from if_pos hin]
        exact ⟨rfl, HB.out.trans (hb.mono HB.out.size)⟩
      · go_wp2_with fail
        refine (ref_Whole_out (tot l) hin _).mono ?_
        rintro e w1 ⟨rfl, hb⟩
        go_wp2
        go_ret2
        rw [show wV (tot l) = 0 from if_neg hin, show wE (tot l) = 12 from if_neg hin]
        exact ⟨rfl, HB.out.trans (hb.mono HB.out.size)⟩

end Go.Proofs.Ytpjhpcolhcgfeaa
