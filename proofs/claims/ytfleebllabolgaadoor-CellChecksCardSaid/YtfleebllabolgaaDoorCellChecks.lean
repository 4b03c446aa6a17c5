/-
  CellChecks: of any kind and any cells what is wrong is the document's, and the order of two; and the kinds' names: the function.
-/
import Derived.Test.YtfleebllabolgaaDoorCellLaws
import Derived.Deep.QuietTactic
import Derived.BigQuiet
set_option linter.unusedVariables false
set_option linter.unusedSimpArgs false
set_option maxRecDepth 1000000
namespace Go.Proofs.YtfleebllabolgaaDoor
open Go.RowKit Go.Shelf

/-- The kinds' names. -/
def nameS (i : Nat) : ByteArray := match i with
  | 0 => ⟨#[105, 110, 116]⟩ | 1 => ⟨#[117, 105, 110, 116]⟩ | 2 => ⟨#[98, 111, 111, 108]⟩ | 3 => ⟨#[98, 121, 116, 101, 115]⟩ | 4 => ⟨#[116, 101, 120, 116]⟩ | _ => ⟨#[102, 108, 111, 97, 116]⟩
def nameCells : Array Value := #[.string (nameS 0), .string (nameS 1), .string (nameS 2), .string (nameS 3), .string (nameS 4), .string (nameS 5)]

theorem cell_Names (w : World) : Calls Tryd.prog 9 #[] w fun e w' => e = .returned (.slice (some ⟨w.heap.size, 0, none⟩) 6 6) ∧ w' = w.alloc (.cells nameCells 9) := by
  go_enter Tryd.func9, Tryd.ntmps9
  go_wp2
  go_ret
  exact ⟨rfl, rfl⟩
theorem ref_Names (w : World) : Calls Tryd.prog 10 #[] w fun e w' => e = .returned (.slice (some ⟨w.heap.size, 0, none⟩) 6 6) ∧ w' = w.alloc (.cells nameCells 9) := by
  go_enter Tryd.func10, Tryd.ntmps10
  go_wp2
  go_ret
  exact ⟨rfl, rfl⟩

theorem keepb {w w' : World} {b : Nat} {o : Obj} (h : w.heap[b]? = some o) (hb : Below w.heap.size w w') : w'.heap[b]? = some o := by
  have hlt : b < w.heap.size := by
    rcases Nat.lt_or_ge b w.heap.size with h' | h'
    · exact h'
    · rw [Array.getElem?_eq_none h'] at h; cases h
  exact (hb.block b hlt).trans h

set_option maxHeartbeats 16000000 in
theorem cellChecks_walk (kind : Int) (x : Nat) (s : ByteArray) (l : List UInt8) (y : Nat) (t : ByteArray) (m : List UInt8) (w : World) (hk : -9223372036854775808 ≤ kind ∧ kind ≤ 9223372036854775807) (hx : x < 18446744073709551616) (hs : RdS s l) (hy : y < 18446744073709551616) (ht : RdS t m) (hT : Tabs w) :
    Calls Tryd.prog 3 #[.int .i64 kind, cellV x s, cellV y t] w fun e w' => e = .returned (.bool true) ∧ Below w.heap.size w w' := by
  obtain ⟨N0, N1, N2, N3⟩ := new2 w (.cells #[.int .u64 (x : Int), .string s] 24) (.cells #[.int .u64 (y : Int), .string t] 24)
  obtain ⟨w0, hw0⟩ : ∃ w0, w0 = (w.alloc (.cells #[.int .u64 (x : Int), .string s] 24)).alloc (.cells #[.int .u64 (y : Int), .string t] 24) := ⟨_, rfl⟩
  rw [← hw0] at N0 N1 N2 N3
  have HB := Lib.hid N3
  have q1 : CellAt w0 w.heap.size x s := N1
  have q2 : CellAt w0 (w.heap.size + 1) y t := N2
  have c1 := q1.c0; have c2 := q1.c1; have c3 := q2.c0; have c4 := q2.c1
  have hlen := hs.len
  have hlen2 := ht.len
  have hcv : ∀ n u, cellV n u = .agg #[.int .u64 (n : Int), .string u] := fun _ _ => rfl
  clear N0 N1 N2 N3
  by_cases hl : 2000 < l.length
  · have hd : decide ((l.length : Int) > 2000) = true := decide_eq_true (by omega)
    clear hl
    go_enter Tryd.func3, Tryd.ntmps3
    go_wp2_with fail
    rw [← hw0]
    clear hw0
    go_wp2_with fail
    refine (law04_alive _ (hT.later HB.out)).mono ?_
    rintro e w9 ⟨rfl, hb⟩
    replace HB := Lib.hid (HB.out.trans (hb.mono HB.out.size))
    clear hb
    go_wp2
    go_ret
    exact ⟨rfl, HB.out⟩
  · have hd : decide ((l.length : Int) > 2000) = false := decide_eq_false (by omega)
    clear hl
    by_cases hm : 2000 < m.length
    · have hd2 : decide ((m.length : Int) > 2000) = true := decide_eq_true (by omega)
      clear hm
      go_enter Tryd.func3, Tryd.ntmps3
      go_wp2_with fail
      rw [← hw0]
      clear hw0
      go_wp2_with fail
      refine (law04_alive _ (hT.later HB.out)).mono ?_
      rintro e w9 ⟨rfl, hb⟩
      replace HB := Lib.hid (HB.out.trans (hb.mono HB.out.size))
      clear hb
      go_wp2
      go_ret
      exact ⟨rfl, HB.out⟩
    · have hd2 : decide ((m.length : Int) > 2000) = false := decide_eq_false (by omega)
      clear hm
      go_enter Tryd.func3, Tryd.ntmps3
      go_wp2_with fail
      rw [← hw0]
      clear hw0

      refine (cell_Names _).mono ?_
      rintro e w1 ⟨rfl, hw1⟩
      obtain ⟨M0, n1, M2⟩ := new1 w0 (.cells nameCells 9)
      rw [← hw1] at M0 n1 M2
      clear hw1 c1 c2 c3 c4
      replace q1 := q1.later M2
      replace q2 := q2.later M2
      replace HB := Lib.hid (HB.out.trans (M2.mono HB.out.size))
      clear M2
      go_wp2_with fail
      refine (ref_Names _).mono ?_
      rintro e w2 ⟨rfl, hw2⟩
      obtain ⟨M3, n2, M4⟩ := new1 w1 (.cells nameCells 9)
      rw [← hw2] at M3 n2 M4
      clear hw2
      replace q1 := q1.later M4
      replace q2 := q2.later M4
      replace n1 := keepb n1 M4
      replace HB := Lib.hid (HB.out.trans (M4.mono HB.out.size))
      generalize w0.heap.size = b1 at *
      generalize w1.heap.size = b2 at *
      clear M4 M0 M3
      go_wp2_with fail
      refine (law04_alive _ (hT.later HB.out)).mono ?_
      rintro e w3 ⟨rfl, hb⟩
      replace q1 := q1.later hb
      replace q2 := q2.later hb
      replace n1 := keepb n1 hb
      replace n2 := keepb n2 hb
      replace HB := Lib.hid (HB.out.trans (hb.mono HB.out.size))
      clear hb
      go_wp2_with fail
      go_loopw [34] (fun i wr => ∃ (k : Nat), k ≤ 6 ∧ i = .int .i64 k ∧ Hid (CellAt wr w.heap.size x s ∧ CellAt wr (w.heap.size + 1) y t ∧ wr.heap[b1]? = some (.cells nameCells 9 (0, 0)) ∧ wr.heap[b2]? = some (.cells nameCells 9 (0, 0)) ∧ Below w.heap.size w wr)) (fun i _ => 6 - (intOf i).toNat)
      case atStart => exact ⟨0, by omega, rfl, Lib.hid ⟨q1, q2, n1, n2, HB.out⟩⟩
      case round =>
        obtain ⟨k, hk6, rfl, HR⟩ := hrel
        obtain ⟨q1, q2, n1, n2, hBB⟩ := HR.out
        have HB := Lib.hid hBB
        clear HR hBB
        obtain rfl | rfl | rfl | rfl | rfl | rfl | rfl : k = 0 ∨ k = 1 ∨ k = 2 ∨ k = 3 ∨ k = 4 ∨ k = 5 ∨ k = 6 := by omega
        · have c1 := new_cellC (i := 0) n1 (show nameCells[0]? = some (.string (nameS 0)) from rfl)
          have c2 := new_cellC (i := 0) n2 (show nameCells[0]? = some (.string (nameS 0)) from rfl)
          go_wp2
          go_quiet (fail)
          go_wp2
          have hd := below_drewNv (Below.refl wr.heap.size wr) nq
          go_roundw
          case rel => exact ⟨0+1, by omega, rfl, Lib.hid ⟨q1.later hd, q2.later hd, keepb n1 hd, keepb n2 hd, HB.out.trans (hd.mono HB.out.size)⟩⟩
          case measure => simp [intOf]
        · have c1 := new_cellC (i := 1) n1 (show nameCells[1]? = some (.string (nameS 1)) from rfl)
          have c2 := new_cellC (i := 1) n2 (show nameCells[1]? = some (.string (nameS 1)) from rfl)
          go_wp2
          go_quiet (fail)
          go_wp2
          have hd := below_drewNv (Below.refl wr.heap.size wr) nq
          go_roundw
          case rel => exact ⟨1+1, by omega, rfl, Lib.hid ⟨q1.later hd, q2.later hd, keepb n1 hd, keepb n2 hd, HB.out.trans (hd.mono HB.out.size)⟩⟩
          case measure => simp [intOf]
        · have c1 := new_cellC (i := 2) n1 (show nameCells[2]? = some (.string (nameS 2)) from rfl)
          have c2 := new_cellC (i := 2) n2 (show nameCells[2]? = some (.string (nameS 2)) from rfl)
          go_wp2
          go_quiet (fail)
          go_wp2
          have hd := below_drewNv (Below.refl wr.heap.size wr) nq
          go_roundw
          case rel => exact ⟨2+1, by omega, rfl, Lib.hid ⟨q1.later hd, q2.later hd, keepb n1 hd, keepb n2 hd, HB.out.trans (hd.mono HB.out.size)⟩⟩
          case measure => simp [intOf]
        · have c1 := new_cellC (i := 3) n1 (show nameCells[3]? = some (.string (nameS 3)) from rfl)
          have c2 := new_cellC (i := 3) n2 (show nameCells[3]? = some (.string (nameS 3)) from rfl)
          go_wp2
          go_quiet (fail)
          go_wp2
          have hd := below_drewNv (Below.refl wr.heap.size wr) nq
          go_roundw
          case rel => exact ⟨3+1, by omega, rfl, Lib.hid ⟨q1.later hd, q2.later hd, keepb n1 hd, keepb n2 hd, HB.out.trans (hd.mono HB.out.size)⟩⟩
          case measure => simp [intOf]
        · have c1 := new_cellC (i := 4) n1 (show nameCells[4]? = some (.string (nameS 4)) from rfl)
          have c2 := new_cellC (i := 4) n2 (show nameCells[4]? = some (.string (nameS 4)) from rfl)
          go_wp2
          go_quiet (fail)
          go_wp2
          have hd := below_drewNv (Below.refl wr.heap.size wr) nq
          go_roundw
          case rel => exact ⟨4+1, by omega, rfl, Lib.hid ⟨q1.later hd, q2.later hd, keepb n1 hd, keepb n2 hd, HB.out.trans (hd.mono HB.out.size)⟩⟩
          case measure => simp [intOf]
        · have c1 := new_cellC (i := 5) n1 (show nameCells[5]? = some (.string (nameS 5)) from rfl)
          have c2 := new_cellC (i := 5) n2 (show nameCells[5]? = some (.string (nameS 5)) from rfl)
          go_wp2
          go_quiet (fail)
          go_wp2
          have hd := below_drewNv (Below.refl wr.heap.size wr) nq
          go_roundw
          case rel => exact ⟨5+1, by omega, rfl, Lib.hid ⟨q1.later hd, q2.later hd, keepb n1 hd, keepb n2 hd, HB.out.trans (hd.mono HB.out.size)⟩⟩
          case measure => simp [intOf]
        · obtain ⟨C, hC⟩ : ∃ C, checkC kind x l = C := ⟨_, rfl⟩
          obtain ⟨D, hD⟩ : ∃ D, cmpC kind x l y m = D := ⟨_, rfl⟩
          have HC := Lib.hid hC
          have HD := Lib.hid hD
          clear hC hD n1 n2
          go_wp2_with fail
          replace q1 : CellAt wr.drew w.heap.size x s := q1
          replace q2 : CellAt wr.drew (w.heap.size + 1) y t := q2
          replace HB := Lib.hid HB.out.drew
          have g1 := q1.g0; have g2 := q1.g1; have g3 := q2.g0; have g4 := q2.g1
          refine Ord.wp_region_ord [(0, false), (1, false), (3, false), (4, false), (2, true), (5, true), (6, false), (7, false), (8, false), (9, false), (10, false), (12, false), (13, false), (14, false), (11, true), (15, true), (16, false), (17, false), (18, false)] (by kernel_rfl) rfl (by kernel_rfl) (by kernel_rfl) (fun _ _ _ d _ h => by cases d <;> exact h) ?_
          refine Ord.ord_still rfl rfl (by kernel_rfl) (fun K hK => ?_)
          go_big_quiet_op
          refine hK _ ?_; clear hK K
          refine Ord.ord_still rfl rfl (by kernel_rfl) (fun K hK => ?_)
          go_big_quiet_op
          refine hK _ ?_; clear hK K
          refine Ord.ord_still rfl rfl (by kernel_rfl) (fun K hK => ?_)
          go_big_quiet_op
          refine hK _ ?_; clear hK K
          refine Ord.ord_still rfl rfl (by kernel_rfl) (fun K hK => ?_)
          go_big_quiet_op
          refine hK _ ?_; clear hK K
          refine Ord.ord_loud rfl (by kernel_rfl) (fun K hK => ?_)
          go_big_op
          refine (cell_Check kind x s l _ hs (hT.later HB.out)).mono ?_
          rintro e w5 ⟨rfl, hb⟩
          rw [HC.out]
          replace q1 := q1.later hb
          replace q2 := q2.later hb
          replace HB := Lib.hid (HB.out.trans (hb.mono HB.out.size))
          clear g1 g2 g3 g4
          have g1 := q1.g0; have g2 := q1.g1; have g3 := q2.g0; have g4 := q2.g1
          refine hK _ _ hb ?_
          clear hb
          clear hK K
          refine Ord.ord_loud rfl (by kernel_rfl) (fun K hK => ?_)
          go_big_op
          refine (ref_Check kind x s l _ hs hk hx).mono ?_
          rintro e w6 ⟨rfl, hb⟩
          rw [HC.out]
          replace q1 := q1.later hb
          replace q2 := q2.later hb
          replace HB := Lib.hid (HB.out.trans (hb.mono HB.out.size))
          clear g1 g2 g3 g4
          have g1 := q1.g0; have g2 := q1.g1; have g3 := q2.g0; have g4 := q2.g1
          refine hK _ _ hb ?_
          clear hb
          clear hK K
          refine Ord.ord_still rfl rfl (by kernel_rfl) (fun K hK => ?_)
          go_big_quiet_op
          refine hK _ ?_; clear hK K
          refine Ord.ord_still rfl rfl (by kernel_rfl) (fun K hK => ?_)
          go_big_quiet_op
          refine hK _ ?_; clear hK K
          refine Ord.ord_still rfl rfl (by kernel_rfl) (fun K hK => ?_)
          go_big_quiet_op
          refine hK _ ?_; clear hK K
          refine Ord.ord_still rfl rfl (by kernel_rfl) (fun K hK => ?_)
          go_big_quiet_op
          refine hK _ ?_; clear hK K
          refine Ord.ord_still rfl rfl (by kernel_rfl) (fun K hK => ?_)
          go_big_quiet_op
          refine hK _ ?_; clear hK K
          refine Ord.ord_still rfl rfl (by kernel_rfl) (fun K hK => ?_)
          go_big_quiet_op
          refine hK _ ?_; clear hK K
          refine Ord.ord_still rfl rfl (by kernel_rfl) (fun K hK => ?_)
          go_big_quiet_op
          refine hK _ ?_; clear hK K
          refine Ord.ord_still rfl rfl (by kernel_rfl) (fun K hK => ?_)
          go_big_quiet_op
          refine hK _ ?_; clear hK K
          refine Ord.ord_loud rfl (by kernel_rfl) (fun K hK => ?_)
          go_big_op
          refine (cell_Compare kind x y hx hy s t l m _ hs ht (hT.later HB.out)).mono ?_
          rintro e w7 ⟨rfl, hb⟩
          rw [HD.out]
          replace q1 := q1.later hb
          replace q2 := q2.later hb
          replace HB := Lib.hid (HB.out.trans (hb.mono HB.out.size))
          clear g1 g2 g3 g4
          have g1 := q1.g0; have g2 := q1.g1; have g3 := q2.g0; have g4 := q2.g1
          refine hK _ _ hb ?_
          clear hb
          clear hK K
          refine Ord.ord_loud rfl (by kernel_rfl) (fun K hK => ?_)
          go_big_op
          refine (ref_Compare kind hk x y hx hy s t l m _ hs ht).mono ?_
          rintro e w8 ⟨rfl, hb⟩
          rw [HD.out]
          replace q1 := q1.later hb
          replace q2 := q2.later hb
          replace HB := Lib.hid (HB.out.trans (hb.mono HB.out.size))
          clear g1 g2 g3 g4
          have g1 := q1.g0; have g2 := q1.g1; have g3 := q2.g0; have g4 := q2.g1
          refine hK _ _ hb ?_
          clear hb
          clear hK K
          refine Ord.ord_still rfl rfl (by kernel_rfl) (fun K hK => ?_)
          go_big_quiet_op
          refine hK _ ?_; clear hK K
          refine Ord.ord_still rfl rfl (by kernel_rfl) (fun K hK => ?_)
          go_big_quiet_op
          refine hK _ ?_; clear hK K
          refine Ord.ord_still rfl rfl (by kernel_rfl) (fun K hK => ?_)
          go_big_quiet_op
          refine hK _ ?_; clear hK K
          refine Ord.ord_nil ?_
          go_wp2
          go_ret
          exact ⟨rfl, HB.out⟩

end Go.Proofs.YtfleebllabolgaaDoor
