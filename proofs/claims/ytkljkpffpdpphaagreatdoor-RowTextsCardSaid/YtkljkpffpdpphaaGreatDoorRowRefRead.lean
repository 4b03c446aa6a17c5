/-
  The document's own answers for layer 6: Read.
-/
import Derived.Test.YtkljkpffpdpphaaGreatDoorRowRead
import Derived.Test.YtkljkpffpdpphaaGreatDoorGSchema
import Derived.Test.YtkljkpffpdpphaaGreatDoorGCut
import Derived.Test.YtkljkpffpdpphaaGreatDoorGRefRead
import Derived.Test.YtkljkpffpdpphaaGreatDoorGReadMath
import Derived.Deep.RegionHeld3
set_option linter.unusedVariables false
set_option linter.unusedSimpArgs false
set_option maxRecDepth 1000000
namespace Go.Proofs.YtkljkpffpdpphaaGreatDoor
open Go.RowKit Go.Shelf

set_option maxHeartbeats 8000000 in
theorem ref_Read06 (v1 : Value) (t : ByteArray) (cs : List ColB) (l : List UInt8) (w : World) (h1 : RdC w v1 cs) (ht : RdS t l) (hC : CS cs) (hl : l.length ≤ 100000) :
    Calls Tryz.prog 20 #[v1, .string t] w (RdRow w cs l) := by
  have hl1 := h1.len
  have R1 := Lib.hid (fun wz (hz : Below w.heap.size w wz) => h1.later hz (Nat.le_refl _))
  obtain ⟨x, hx⟩ : ∃ x, x = errS (colsL cs) := ⟨_, rfl⟩
  have SC := Lib.hid (show Calls Tryz.prog 25 #[v1] w fun e w' => e = .returned (.int .i64 (x : Int)) ∧ Below w.heap.size w w' from by
    rw [hx]; exact ref_Check05 v1 cs w h1 hC)
  obtain ⟨n, hn⟩ : ∃ n, n = cs.length := ⟨_, rfl⟩
  rw [← hn] at hl1
  have HN := Lib.hid hn
  have CU := Lib.hid (fun wz => ref_Cut05 44 t l wz ht hl)
  rw [show (((44 : UInt8).toNat : Nat) : Int) = 44 from rfl] at CU
  clear h1 hn ht
  by_cases h0 : x = 0
  · have hz8 := errS_zero (show errS (colsL cs) = 0 from by omega)
    rw [colsL_length, ← HN.out] at hz8
    obtain ⟨hn0, hn8, _, _⟩ := hz8
    subst h0
    rw [show ((0 : Nat) : Int) = 0 from rfl] at SC
    by_cases hcut : (cutL 44 l).length = n
    · have HC := Lib.hid hcut
      have HE := Lib.hid (show rowE cs l = errQ (cs.zip (strL (cutL 44 l))) from by unfold rowE; rw [if_neg (by omega), if_neg (by rw [hcut, HN.out]; simp)]; rfl)
      have hlz : cs.length = (strL (cutL 44 l)).length := by rw [strL_length, hcut, HN.out]
      have HLZ := Lib.hid hlz
      clear hx hcut hlz
      go_enter Tryz.func20, Tryz.ntmps20
      go_wp2_with fail
      refine SC.out.mono ?_
      rintro e w1 ⟨rfl, hb⟩
      have B1 := Lib.hid hb
      clear hb SC
      go_wp2_with fail
      refine (CU.out w1).mono ?_
      rintro e w2 ⟨pv, rfl, hO, hb⟩
      have B2 := Lib.hid (B1.out.trans (hb.mono B1.out.size))
      have hsl : (strL (cutL 44 l)).length = n := by rw [strL_length, HC.out]
      have hss := hO.rd (by rw [hsl]; omega)
      have hlp := hss.len
      rw [hsl] at hlp
      have P1 := Lib.hid (fun wz (hz : Below w2.heap.size w2 wz) => hss.later hz (Nat.le_refl _))
      have HB2 := Lib.hid (Below.refl w2.heap.size w2)
      have HO0 := Lib.hid (OwnE.nil w2 w2.heap.size)
      clear hb hO hss hsl CU
      go_wp2
      go_loopw [8, 9] (fun a i wr => ∃ k : Nat, k ≤ n ∧ i = .int .i64 k ∧ Hid (OwnE wr w2.heap.size a (cellsQ ((cs.zip (strL (cutL 44 l))).take k))) ∧ Hid (Below w2.heap.size w2 wr) ∧ Hid (errQ ((cs.zip (strL (cutL 44 l))).take k) = 0)) (fun _ i _ => n - (intOf i).toNat)
      case atStart => exact ⟨0, by omega, rfl, HO0, HB2, Lib.hid rfl⟩
      case round =>
        clear HB2 HO0
        obtain ⟨k, hk, rfl, HO, HB, HP⟩ := hrel
        by_cases hlt : k < n
        · have k1 : k < cs.length := by rw [← HN.out]; exact hlt
          have k2 : k < (strL (cutL 44 l)).length := by rw [← HLZ.out]; exact k1
          have HBw := Lib.hid (B2.out.trans (HB.out.mono B2.out.size))
          have hr1 := R1.out wr HBw.out
          have hr2 := P1.out wr HB.out
          obtain ⟨ba, oa, hia, hca, _⟩ := hr1.get k1
          obtain ⟨bb, ob, hib, hcb, _⟩ := hr2.get k2
          obtain ⟨ca0, ca1⟩ := hca _ hr1
          have cb0 := hcb _ hr2
          have hzk := zip_get cs (strL (cutL 44 l)) HLZ.out k k1
          have hsx : RdS ((strL (cutL 44 l)).getD k default) ((strL (cutL 44 l)).getD k default).data.toList := by
            have hmem : (strL (cutL 44 l)).getD k default ∈ strL (cutL 44 l) := by
              rw [show (strL (cutL 44 l)).getD k default = (strL (cutL 44 l))[k] from by simp [List.getD, k2]]
              exact List.getElem_mem _
            generalize (strL (cutL 44 l)).getD k default = z at hmem ⊢
            unfold strL at hmem
            obtain ⟨p, hp9, rfl⟩ := List.mem_map.1 hmem
            exact ⟨rfl, by have := cutL_part 44 l p hp9; simp; omega⟩
          rcases hga : cs.getD k default with ⟨xa, ya⟩
          obtain ⟨xb, hgb⟩ : ∃ xb, xb = (strL (cutL 44 l)).getD k default := ⟨_, rfl⟩
          rw [hga] at ca0 ca1 hzk
          rw [← hgb] at cb0 hzk hsx
          dsimp only at ca0 ca1
          obtain ⟨c, hc⟩ : ∃ c, c = cellO (rdo ((xa, ya), xb)) := ⟨_, rfl⟩
          obtain ⟨j, hj⟩ : ∃ j, j = codeO (rdo ((xa, ya), xb)) := ⟨_, rfl⟩
          have CR := Lib.hid (fun wz (hz : Below wr.heap.size wr wz) => (show Calls Tryz.prog 37 #[.int .i64 ya, .string xb] wz fun e w' => e = .returned (.tuple #[.agg #[.int .u64 (c.1 : Int), .string c.2], .int .i64 (j : Int)]) ∧ Below wz.heap.size wz w' ∧
              w'.cell? ⟨ba, oa + 1, none⟩ = some (.int .i64 ya) ∧ w'.cell? ⟨bb, ob, none⟩ = some (.string xb) from by
            refine (ref_Read ya xb xb.data.toList wz hsx).mono ?_
            rintro e w' ⟨he, hb⟩
            rw [← readR_eq] at he
            exact ⟨by rw [rdVal_of he, rdVal_co, hc, hj]; rfl, hb, keep_cell hb (keep_cell hz ca1), keep_cell hb (keep_cell hz cb0)⟩))
          have HEQ := Lib.hid (show errQ ((cs.zip (strL (cutL 44 l))).take (k + 1)) = j from by rw [hzk, errQ_snoc _ _ HP.out, hj])
          have HCQ := Lib.hid (show cellsQ ((cs.zip (strL (cutL 44 l))).take (k + 1)) = cellsQ ((cs.zip (strL (cutL 44 l))).take k) ++ [c] from by rw [hzk]; unfold cellsQ; rw [List.map_append, hc]; rfl)
          rcases c with ⟨cn, ct⟩
          have hn1 := World.new_ne wr ⟨ba, oa + 1, none⟩ ca1
          have hn2 := World.new_ne wr ⟨bb, ob, none⟩ cb0
          clear hr1 hr2 hca hcb hga hgb hc hj hsx hzk k1 k2 ca0
          by_cases h0 : j = 0
          · subst h0
            rw [show ((0 : Nat) : Int) = 0 from rfl] at CR
            go_wp2
            go_region_held3 (fun u => u.cell? ⟨ba, oa + 1, none⟩ = some (.int .i64 ya) ∧ u.cell? ⟨bb, ob, none⟩ = some (.string xb)) (first | go_keep | (exact ⟨m1, m2⟩))
              ((go_at_call 37; refine (CR.out _ (by first | exact (Below.refl wr.heap.size wr).drew | exact ((Below.refl wr.heap.size wr).drew).alloc (Nat.le_refl _) _)).mono ?_; rintro e w' ⟨rfl, hb, m1, m2⟩; try (have m5 : w'.heap[wr.heap.size]? = some (.cells #[.int .u64 0, .string ⟨#[]⟩] 45 (0, 0)) := (hb.block _ (by simp)).trans (heap_alloc_new wr.drew _); have m6 := new_cellC m5 (i := 0) rfl; have m7 := new_cellC m5 (i := 1) rfl; have m8 := frozen_of_row w' wr.heap.size 0 _ _ m5; have m9 := frozen_of_row w' wr.heap.size 1 _ _ m5)))
            · have q6 : (w'.alloc (.cells #[.int .u64 (cn : Int), .string ct] 45)).heap[w'.heap.size]? = some (.cells #[.int .u64 (cn : Int), .string ct] 45 (0, 0)) := heap_alloc_new w' _
              have b6 : Below wr.heap.size wr (w'.alloc (.cells #[.int .u64 (cn : Int), .string ct] 45)) := ((Below.refl wr.heap.size wr).drew.trans hb).alloc (by have := hb.size; exact this) _
              generalize w'.alloc (.cells #[.int .u64 (cn : Int), .string ct] 45) = W6 at q6 b6 ⊢
              generalize w'.heap.size = P at q6 ⊢
              have HB6 := Lib.hid b6
              have hws6 : wr.heap.size ≤ W6.heap.size := b6.size
              have e1 := new_cellC q6 (i := 0) rfl
              have e2 := new_cellC q6 (i := 1) rfl
              have HOA := Lib.hid ((HO.out.later b6 (Nat.le_refl _)).alloc (.cells #[.int .u64 (cn : Int), .string ct] 45))
              have HBA := Lib.hid (((HB.out.trans (b6.mono HB.out.size))).alloc (by have := HB.out.size; omega) (.cells #[.int .u64 (cn : Int), .string ct] 45))
              have hone := one_cellv W6 (cn, ct)
              have HONE := Lib.hid hone
              have hpl : (cellsQ ((cs.zip (strL (cutL 44 l))).take k)).length ≤ k := by simp only [cellsQ, List.length_map, List.length_take]; omega
              have hn6 : ((cellsQ ((cs.zip (strL (cutL 44 l))).take k)).length + 1) * 24 ≤ 140737488355328 := by omega
              have hz6 : w2.heap.size ≤ (W6.alloc (.cells #[.int .u64 (cn : Int), .string ct] 45)).heap.size := by have := HB.out.size; simp; omega
              clear hb b6 q6 hone hpl m1 m2 ca1 cb0 hia hib CR hn1 hn2
              go_wp2_with (with_reducible refine wplE_append w2.heap.size _ ?hs1 HOA.out ⟨W6.heap.size, 0, none⟩ (cn, ct) ?hx1 HONE.out hn6 hz6 w2.heap.size w2 HBA.out (Nat.le_refl _) ?_)
              all_goals (try rfl)
              intro v7 w7 hO7 hB7 hg7
              have HO7 := Lib.hid (show OwnE w7 w2.heap.size v7 (cellsQ ((cs.zip (strL (cutL 44 l))).take (k + 1))) from by rw [HCQ.out]; exact hO7)
              have HB7 := Lib.hid hB7
              clear hO7 hB7 hg7 e1 e2
              go_wp2
              go_roundw
              case rel => exact ⟨k + 1, by omega, by go_num, HO7, HB7, HEQ⟩
              case measure => simp [intOf]; omega
            · have q6 : ((w'.setCell ⟨wr.heap.size, 0, none⟩ (.int .u64 (cn : Int))).setCell ⟨wr.heap.size, 1, none⟩ (.string ct)).heap[wr.heap.size]? = some (.cells #[.int .u64 (cn : Int), .string ct] 45 (0, 0)) := block_setCell (k := 1) (block_setCell (k := 0) m5 _) _
              have b6 : Below wr.heap.size wr ((w'.setCell ⟨wr.heap.size, 0, none⟩ (.int .u64 (cn : Int))).setCell ⟨wr.heap.size, 1, none⟩ (.string ct)) := (((((Below.refl wr.heap.size wr).drew).alloc (Nat.le_refl _) _).trans (hb.mono (by simp))).setCell (p := ⟨wr.heap.size, 0, none⟩) (Nat.le_refl _) _).setCell (p := ⟨wr.heap.size, 1, none⟩) (Nat.le_refl _) _
              generalize (w'.setCell ⟨wr.heap.size, 0, none⟩ (.int .u64 (cn : Int))).setCell ⟨wr.heap.size, 1, none⟩ (.string ct) = W6 at q6 b6 ⊢
              obtain ⟨P, hP⟩ : ∃ P, P = wr.heap.size := ⟨_, rfl⟩
              rw [← hP] at q6 ⊢
              clear m5 m6 m7 m8 m9 hP
              have HB6 := Lib.hid b6
              have hws6 : wr.heap.size ≤ W6.heap.size := b6.size
              have e1 := new_cellC q6 (i := 0) rfl
              have e2 := new_cellC q6 (i := 1) rfl
              have HOA := Lib.hid ((HO.out.later b6 (Nat.le_refl _)).alloc (.cells #[.int .u64 (cn : Int), .string ct] 45))
              have HBA := Lib.hid (((HB.out.trans (b6.mono HB.out.size))).alloc (by have := HB.out.size; omega) (.cells #[.int .u64 (cn : Int), .string ct] 45))
              have hone := one_cellv W6 (cn, ct)
              have HONE := Lib.hid hone
              have hpl : (cellsQ ((cs.zip (strL (cutL 44 l))).take k)).length ≤ k := by simp only [cellsQ, List.length_map, List.length_take]; omega
              have hn6 : ((cellsQ ((cs.zip (strL (cutL 44 l))).take k)).length + 1) * 24 ≤ 140737488355328 := by omega
              have hz6 : w2.heap.size ≤ (W6.alloc (.cells #[.int .u64 (cn : Int), .string ct] 45)).heap.size := by have := HB.out.size; simp; omega
              clear hb b6 q6 hone hpl m1 m2 ca1 cb0 hia hib CR hn1 hn2
              go_wp2_with (with_reducible refine wplE_append w2.heap.size _ ?hs2 HOA.out ⟨W6.heap.size, 0, none⟩ (cn, ct) ?hx2 HONE.out hn6 hz6 w2.heap.size w2 HBA.out (Nat.le_refl _) ?_)
              all_goals (try rfl)
              intro v7 w7 hO7 hB7 hg7
              have HO7 := Lib.hid (show OwnE w7 w2.heap.size v7 (cellsQ ((cs.zip (strL (cutL 44 l))).take (k + 1))) from by rw [HCQ.out]; exact hO7)
              have HB7 := Lib.hid hB7
              clear hO7 hB7 hg7 e1 e2
              go_wp2
              go_roundw
              case rel => exact ⟨k + 1, by omega, by go_num, HO7, HB7, HEQ⟩
              case measure => simp [intOf]; omega
          · have q : ((j : Int) != 0) = true := by rw [bne_iff_ne]; omega
            go_wp2
            go_region_held3 (fun u => u.cell? ⟨ba, oa + 1, none⟩ = some (.int .i64 ya) ∧ u.cell? ⟨bb, ob, none⟩ = some (.string xb)) (first | go_keep | (exact ⟨m1, m2⟩))
              ((go_at_call 37; refine (CR.out _ (by first | exact (Below.refl wr.heap.size wr).drew | exact ((Below.refl wr.heap.size wr).drew).alloc (Nat.le_refl _) _)).mono ?_; rintro e w' ⟨rfl, hb, m1, m2⟩; try (have m5 : w'.heap[wr.heap.size]? = some (.cells #[.int .u64 0, .string ⟨#[]⟩] 45 (0, 0)) := (hb.block _ (by simp)).trans (heap_alloc_new wr.drew _); have m6 := new_cellC m5 (i := 0) rfl; have m7 := new_cellC m5 (i := 1) rfl; have m8 := frozen_of_row w' wr.heap.size 0 _ _ m5; have m9 := frozen_of_row w' wr.heap.size 1 _ _ m5)))
            · have q6 : (w'.alloc (.cells #[.int .u64 (cn : Int), .string ct] 45)).heap[w'.heap.size]? = some (.cells #[.int .u64 (cn : Int), .string ct] 45 (0, 0)) := heap_alloc_new w' _
              have b6 : Below wr.heap.size wr (w'.alloc (.cells #[.int .u64 (cn : Int), .string ct] 45)) := ((Below.refl wr.heap.size wr).drew.trans hb).alloc (by have := hb.size; exact this) _
              generalize w'.alloc (.cells #[.int .u64 (cn : Int), .string ct] 45) = W6 at q6 b6 ⊢
              generalize w'.heap.size = P at q6 ⊢
              have HB6 := Lib.hid (HBw.out.trans (b6.mono HBw.out.size))
              clear hb b6 q6 m1 m2 ca1 cb0 hia hib CR hn1 hn2
              go_wp2
              go_ret2
              have hE0 : rowE cs l = j := by rw [HE.out, errQ_take (k := k + 1) (by rw [HEQ.out]; exact h0), HEQ.out]
              have hrow : rowC cs l = [] := by unfold rowC; rw [if_neg (by rw [hE0]; exact h0)]
              exact ⟨_, by rw [hE0]; rfl, HB6.out, by rw [hrow]; exact RdE.nil _⟩
            · have q6 : ((w'.setCell ⟨wr.heap.size, 0, none⟩ (.int .u64 (cn : Int))).setCell ⟨wr.heap.size, 1, none⟩ (.string ct)).heap[wr.heap.size]? = some (.cells #[.int .u64 (cn : Int), .string ct] 45 (0, 0)) := block_setCell (k := 1) (block_setCell (k := 0) m5 _) _
              have b6 : Below wr.heap.size wr ((w'.setCell ⟨wr.heap.size, 0, none⟩ (.int .u64 (cn : Int))).setCell ⟨wr.heap.size, 1, none⟩ (.string ct)) := (((((Below.refl wr.heap.size wr).drew).alloc (Nat.le_refl _) _).trans (hb.mono (by simp))).setCell (p := ⟨wr.heap.size, 0, none⟩) (Nat.le_refl _) _).setCell (p := ⟨wr.heap.size, 1, none⟩) (Nat.le_refl _) _
              generalize (w'.setCell ⟨wr.heap.size, 0, none⟩ (.int .u64 (cn : Int))).setCell ⟨wr.heap.size, 1, none⟩ (.string ct) = W6 at q6 b6 ⊢
              obtain ⟨P, hP⟩ : ∃ P, P = wr.heap.size := ⟨_, rfl⟩
              rw [← hP] at q6 ⊢
              clear m5 m6 m7 m8 m9 hP
              have HB6 := Lib.hid (HBw.out.trans (b6.mono HBw.out.size))
              clear hb b6 q6 m1 m2 ca1 cb0 hia hib CR hn1 hn2
              go_wp2
              go_ret2
              have hE0 : rowE cs l = j := by rw [HE.out, errQ_take (k := k + 1) (by rw [HEQ.out]; exact h0), HEQ.out]
              have hrow : rowC cs l = [] := by unfold rowC; rw [if_neg (by rw [hE0]; exact h0)]
              exact ⟨_, by rw [hE0]; rfl, HB6.out, by rw [hrow]; exact RdE.nil _⟩
        · obtain rfl : k = n := by omega
          have hfull : (cs.zip (strL (cutL 44 l))).take k = cs.zip (strL (cutL 44 l)) := List.take_of_length_le (by rw [List.length_zip, ← HLZ.out, ← HN.out]; omega)
          have HF := Lib.hid hfull
          clear hlt hfull
          go_wp2
          go_ret2
          have hE0 : rowE cs l = 0 := by rw [HE.out, ← HF.out]; exact HP.out
          have hrow : rowC cs l = cellsQ (cs.zip (strL (cutL 44 l))) := by unfold rowC; rw [if_pos hE0]; rfl
          refine ⟨_, by rw [hE0]; rfl, B2.out.trans (HB.out.mono B2.out.size), ?_⟩
          rw [hrow, ← HF.out]
          exact HO.out.rd (by simp [cellsQ]; omega)
    · have HE := Lib.hid (show rowE cs l = 6 from by unfold rowE; rw [if_neg (by omega), if_pos (by rw [← HN.out]; exact hcut)])
      have HR := Lib.hid (show rowC cs l = [] from by unfold rowC; rw [if_neg (by rw [HE.out]; decide)])
      have HC := Lib.hid hcut
      have hclen := cutL_le 44 l
      obtain ⟨q, hq⟩ : ∃ q, q = (cutL 44 l).length := ⟨_, rfl⟩
      rw [← hq] at hclen hcut
      have HQ := Lib.hid hq
      clear hx hq
      go_enter Tryz.func20, Tryz.ntmps20
      go_wp2_with fail
      refine SC.out.mono ?_
      rintro e w1 ⟨rfl, hb⟩
      have B1 := Lib.hid hb
      clear hb SC
      go_wp2_with fail
      refine (CU.out w1).mono ?_
      rintro e w2 ⟨pv, rfl, hO, hb⟩
      have B2 := Lib.hid (B1.out.trans (hb.mono B1.out.size))
      have hlp := (hO.rd (by rw [strL_length, ← HQ.out]; omega)).len
      rw [strL_length, ← HQ.out] at hlp
      have q1 : ((q : Int) != (n : Int)) = true := by rw [bne_iff_ne]; omega
      have q2 : (q != n) = true := by simpa using hcut
      clear hb hO CU hcut
      go_wp2
      go_ret2
      exact ⟨_, by rw [HE.out]; rfl, B2.out, by rw [HR.out]; exact RdE.nil _⟩
  · have HE := Lib.hid (show rowE cs l = x from by unfold rowE; rw [if_pos (by omega), hx])
    have HR := Lib.hid (show rowC cs l = [] from by unfold rowC; rw [if_neg (by rw [HE.out]; exact h0)])
    have q : ((x : Int) != 0) = true := by rw [bne_iff_ne]; omega
    clear hx
    go_enter Tryz.func20, Tryz.ntmps20
    go_wp2_with fail
    refine SC.out.mono ?_
    rintro e w1 ⟨rfl, hb⟩
    have B1 := Lib.hid hb
    clear hb
    go_wp2
    go_ret2
    exact ⟨_, by rw [HE.out]; rfl, B1.out, by rw [HR.out]; exact RdE.nil _⟩

end Go.Proofs.YtkljkpffpdpphaaGreatDoor
