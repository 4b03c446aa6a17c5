/-
  row.Compare, and the document's.
-/
import Derived.Test.YtokpphhmmcoeaaaGreatDoorGRow
set_option linter.unusedVariables false
set_option linter.unusedSimpArgs false
set_option maxRecDepth 1000000
namespace Go.Proofs.YtokpphhmmcoeaaaGreatDoor
open Go.RowKit Go.Shelf

attribute [local go_sem] Oper.semAt_some

set_option maxHeartbeats 16000000 in
theorem row_Compare (v1 v2 v3 : Value) (cs : List ColB) (a b : List CellB) (w : World) (h1 : RdC w v1 cs) (h2 : RdE w v2 a) (h3 : RdE w v3 b) (hC : CS cs) (hA : CES a) (hB : CES b) (hT : Tabs w) :
    Calls Tryz.prog 39 #[v1, v2, v3] w fun e w' => e = .returned (.int .i64 (cmpR cs a b)) ∧ Below w.heap.size w w' := by
  have R1 := Lib.hid (fun wz (hz : Below w.heap.size w wz) => h1.later hz (Nat.le_refl _))
  have R2 := Lib.hid (fun wz (hz : Below w.heap.size w wz) => h2.later hz (Nat.le_refl _))
  have R3 := Lib.hid (fun wz (hz : Below w.heap.size w wz) => h3.later hz (Nat.le_refl _))
  have HT := Lib.hid hT
  obtain ⟨x, hx⟩ : ∃ x, x = errRow cs a := ⟨_, rfl⟩
  have CA := Lib.hid (fun wz (hz : Below w.heap.size w wz) => (show Calls Tryz.prog 57 #[v1, v2] wz fun e w' => e = .returned (.int .i64 (x : Int)) ∧ Below wz.heap.size wz w' from by
    rw [hx]; exact row_Check v1 v2 cs a wz (R1.out wz hz) (R2.out wz hz) hC hA (HT.out.later hz)))
  obtain ⟨ao, cap, hv, _⟩ := RdG.shape h1
  generalize (cs.map colV).length = n9 at hv
  subst hv
  clear h1 h2 h3 hT
  by_cases h0 : x = 0
  · obtain ⟨y, hy⟩ : ∃ y, y = errC cs b := ⟨_, rfl⟩
    have CB := Lib.hid (fun wz (hz : Below w.heap.size w wz) => (show Calls Tryz.prog 60 #[.slice ao n9 cap, v3] wz fun e w' => e = .returned (.int .i64 (y : Int)) ∧ Below wz.heap.size wz w' from by
      rw [hy]; exact row_checkCells _ v3 cs b wz (R1.out wz hz) (R3.out wz hz) hC hB (HT.out.later hz)))
    have hxl := errRow_len (show errRow cs a = 0 from by omega)
    have hyb : errRow cs b = y := by unfold errRow; rw [if_pos hxl.1, hy]
    subst h0
    by_cases hy0 : y = 0
    · have hyl := errRow_len (show errRow cs b = 0 from by omega)
      have HE := Lib.hid (show cmpR cs a b = cmpL cs (a.zip b) from by unfold cmpR; rw [if_neg (by omega)])
      subst hy0
      have HLA := Lib.hid hxl.2.1
      have HLB := Lib.hid hyl.2.1
      clear hx hy hxl hyl hyb
      have N0 := Lib.hid (new2 w (.cells #[.slice ao n9 cap] 22) (.cells #[.int .i64 0] 3))
      rw [show ((0 : Nat) : Int) = 0 from rfl] at CA CB
      refine (callsIn_wide (n := 5)).1 ?_
      refine callsIn_of_wp_marks Tryz.func39 rfl trivial ?_ rfl
      simp only [Tryz.ntmps39, List.size_toArray, List.length_cons, List.length_nil, Nat.reduceAdd, Nat.reduceSub, Array.replicate_succ, Array.replicate_zero, List.push_toArray, List.append_toArray, List.nil_append, List.cons_append]
      gi_wp2_with fail
      refine ⟨trivial, ?_⟩
      gi_at_call 57
      refine (callsIn_wide.2 (CA.out _ N0.out.2.2.2)).mono ?_
      rintro e w1 ⟨rfl, hb⟩
      have B1 := Lib.hid (N0.out.2.2.2.trans (hb.mono N0.out.2.2.2.size))
      have hx1 : Boxed w1 w.heap.size 22 (.slice ao n9 cap) := boxed_below N0.out.2.1 hb
      have hx2 : Boxed w1 (w.heap.size + 1) 3 (.int .i64 0) := boxed_below N0.out.2.2.1 hb
      have X1 := Lib.hid hx1
      have X2 := Lib.hid hx2
      have hc1 := hx1.cell
      clear hb hx1 hx2
      gi_wp2_with fail
      refine ⟨trivial, ?_⟩
      gi_at_call 60
      refine (callsIn_wide.2 (CB.out _ B1.out)).mono ?_
      rintro e w2 ⟨rfl, hb⟩
      have B2 := Lib.hid (B1.out.trans (hb.mono B1.out.size))
      have Y1 := Lib.hid (boxed_below X1.out hb)
      have Y2 := Lib.hid (boxed_below X2.out hb)
      have N1 := new1 w2 (.cells #[.int .i64 0] 3)
      have hB3 : Below w.heap.size w (w2.alloc (.cells #[.int .i64 0] 3)) := B2.out.trans (N1.2.2.mono B2.out.size)
      have Y3 : Boxed (w2.alloc (.cells #[.int .i64 0] 3)) w2.heap.size 3 (.int .i64 0) := N1.2.1
      have Z1 : Boxed (w2.alloc (.cells #[.int .i64 0] 3)) w.heap.size 22 (.slice ao n9 cap) := boxed_below Y1.out N1.2.2
      have Z2 : Boxed (w2.alloc (.cells #[.int .i64 0] 3)) (w.heap.size + 1) 3 (.int .i64 0) := boxed_below Y2.out N1.2.2
      have MK := Lib.hid (bothEE_make v2 v3 a b _ (R2.out _ hB3) (R3.out _ hB3))
      have hw12 := X2.out.lt
      have hw2s : w.heap.size + 1 < w2.heap.size := Y2.out.lt
      have HSZ3 := Lib.hid N1.1
      clear hb N1 hc1 hw12
      gi_wp2_with fail
      refine ⟨trivial, ?_⟩
      gi_at_call 61
      generalize w2.alloc (.cells #[.int .i64 0] 3) = w3 at MK hB3 Y3 Z1 Z2 HSZ3 ⊢
      refine (callsIn_wide.2 MK.out).mono ?_
      rintro e w4 ⟨rfl, rfl⟩
      gi_wp2
      obtain ⟨W0, hW0⟩ : ∃ W0, (w3.alloc (.cells #[v2] 73)).alloc (.cells #[v3] 73) = W0 := ⟨_, rfl⟩
      obtain ⟨M0, M1, M2, M3⟩ := new2 w3 (.cells #[v2] 73) (.cells #[v3] 73)
      rw [hW0] at M0 M1 M2 M3 ⊢
      clear hW0
      have bs := Lib.hid (boxed_below Z1 M3)
      have br := Lib.hid (boxed_below Z2 M3)
      have bt := Lib.hid (boxed_below Y3 M3)
      have hB0 : Below w.heap.size w W0 := hB3.trans (M3.mono hB3.size)
      clear Y3 Z1 Z2 MK X1 X2 Y1 Y2 CA CB N0 B1 B2
      have hb1 : Boxed W0 w3.heap.size 73 v2 := M1
      have hb2 : Boxed W0 (w3.heap.size + 1) 73 v3 := M2
      obtain ⟨T, hTe⟩ : ∃ T, T = w2.heap.size := ⟨_, rfl⟩
      have hsz3 := HSZ3.out
      rw [← hTe] at bt hsz3 hw2s ⊢
      rw [hsz3] at M0 hb1 hb2 ⊢
      clear hTe HSZ3 hsz3 M1 M2
      generalize (Value.slice ao n9 cap) = v1 at R1 bs ⊢
      have hab : a.length = b.length := by rw [HLA.out, HLB.out]
      have hzl : (a.zip b).length = cs.length := by rw [List.length_zip, ← hab, HLA.out]; omega
      refine range_through (by omega) (gf := 90) (lb := #[.pointer (some ⟨T + 1, 0, none⟩), .pointer (some ⟨T + 1 + 1, 0, none⟩)]) rfl (enters_of Tryz.func90 (by kernel_rfl) rfl)
        (bothEE_through (5 - 1) (by omega) (T + 1) (T + 1 + 1) v2 v3 a b hab w R2.out R3.out W0 hB0 hb1.cell hb2.cell) only_t (only_b (by omega) (by omega) (by omega)) (fun _ => rfl)
        (fun pre W => ((Boxed W w.heap.size 22 v1 ∧ Boxed W (w.heap.size + 1) 3 (.int .i64 0)) ∧ Boxed W T 3 (.int .i64 (pre.length : Nat))) ∧ Below w.heap.size w W ∧ cmpL cs pre = 0)
        (fun c pre W => (Boxed W (w.heap.size + 1) 3 (.int .i64 (cmpL cs pre)) ∧ Below w.heap.size w W) ∧ (c = .ret ∧ cmpL cs pre ≠ 0))
        (OwnFrom.and (OwnFrom.and (OwnFrom.and (Own.from (boxed_own _ _ _) _) (Own.from (boxed_own _ _ _) _)) (Own.from (boxed_own _ _ _) _)) (OwnFrom.and (ownFrom_below (Nat.le_refl _) (by omega)) (ownFrom_pure _ _)))
        (fun c => OwnFrom.and (OwnFrom.and (Own.from (boxed_own _ _ _) _) (ownFrom_below (Nat.le_refl _) (by omega))) (ownFrom_pure _ _))
        ⟨⟨⟨bs.out, br.out⟩, bt.out⟩, hB0, by cases cs <;> rfl⟩
        (fun (x : CellB × CellB) a' W => ∃ Bx By, (W.heap[Bx]? = some (Obj.cells #[.int .u64 (x.1.1 : Int), .string x.1.2] 71 (0, 0)) ∧ W.heap[By]? = some (Obj.cells #[.int .u64 (x.2.1 : Int), .string x.2.2] 71 (0, 0))) ∧
          a' = { tmps := #[v1, v2, v3, .pointer (some ⟨w.heap.size, 0, none⟩), undef, undef, .pointer (some ⟨w.heap.size + 1, 0, none⟩), .pointer (some ⟨T, 0, none⟩), .pointer (some ⟨Bx, 0, none⟩), .pointer (some ⟨By, 0, none⟩), undef, v1, v2, .int .i64 0, .bool false, .bool false, v1, v3, .int .i64 0, .bool false, .bool false, v2, v3,
            .func (.func 90) #[] #[.pointer (some ⟨T + 1, 0, none⟩), .pointer (some ⟨T + 1 + 1, 0, none⟩)],
            .agg #[.int .u64 (x.1.1 : Int), .string x.1.2], .agg #[.int .u64 (x.2.1 : Int), .string x.2.2], undef, undef, undef, undef, undef, undef, undef, undef, undef, undef, undef, undef, undef], defers := [] })
        ?_ ?_ ?_ ?_ ?_
      · rintro x a' s X Y row ⟨Bx, By, ⟨h4, h5⟩, h6⟩ hg hr
        exact ⟨Bx, By, ⟨cells_kept h4 hg hr, cells_kept h5 hg hr⟩, h6⟩
      · rintro l pre ⟨⟨nm, tx⟩, ⟨nn, ty⟩⟩ W K hi hx hK
        unfold encEE
        dsimp only
        gi_wp2
        obtain ⟨N0, N1, N2, N3⟩ := new2 W (.cells #[.int .u64 (nm : Int), .string tx] 71) (.cells #[.int .u64 (nn : Int), .string ty] 71)
        exact hK _ _ (keepsFrom_below N3) (only_below N3) ⟨⟨⟨boxed_below hi.1.1.1 N3, boxed_below hi.1.1.2 N3⟩, boxed_below hi.1.2 N3⟩, hi.2.1.trans (N3.mono hi.2.1.size), hi.2.2⟩ ⟨_, _, ⟨N1, N2⟩, rfl⟩
      · rintro l pre ⟨⟨nm, tx⟩, ⟨nn, ty⟩⟩ a' W ⟨⟨⟨hi1, hi2⟩, hi3⟩, hi4, hi5⟩ ⟨Bx, By, ⟨hx1, hx2⟩, rfl⟩ hlt hx
        have hmem := List.of_mem_zip hx
        have hce1 := hA _ hmem.1
        have hce2 := hB _ hmem.2
        rw [hzl] at hlt
        have hr1 := R1.out W hi4
        have hsmall := hr1.small
        obtain ⟨ba, oa, hia, hca, _⟩ := hr1.get hlt
        obtain ⟨ca0, ca1⟩ := hca _ hr1
        obtain ⟨K, hK⟩ : ∃ K, K = (cs.getD pre.length default).2 := ⟨_, rfl⟩
        rw [← hK] at ca1
        have p1 := hi1.cell
        have p2 := hi3.cell
        have e2 := new_cellC hx1 (i := 0) rfl
        have e3 := new_cellC hx1 (i := 1) rfl
        have e4 := new_cellC hx2 (i := 0) rfl
        have e5 := new_cellC hx2 (i := 1) rfl
        obtain ⟨c, hc⟩ : ∃ c, c = cmpC K nm tx.data.toList nn ty.data.toList := ⟨_, rfl⟩
        have HC := Lib.hid (show cmpL cs (pre ++ [((nm, tx), (nn, ty))]) = c from by rw [cmpL_snoc cs pre _ hlt hi5, hc, hK]; rfl)
        have CK := Lib.hid (fun wz (hz : Below W.heap.size W wz) => (show Calls Tryz.prog 62 #[.int .i64 K, .agg #[.int .u64 (nm : Int), .string tx], .agg #[.int .u64 (nn : Int), .string ty]] wz fun e w' => e = .returned (.int .i64 c) ∧ Below wz.heap.size wz w' from by
          rw [hc]
          exact cell_Compare K nm nn hce1.1 hce2.1 tx ty _ _ wz (CES.rdS hce1) (CES.rdS hce2) (HT.out.later (hi4.trans (hz.mono hi4.size)))))
        have HI1 := Lib.hid hi1
        have HI2 := Lib.hid hi2
        have HI3 := Lib.hid hi3
        have HI4 := Lib.hid hi4
        have hd : 1 ≤ 5 - 1 - 1 := by omega
        have hdw := Lib.hid ((Below.refl W.heap.size W).drew)
        have hmx : Tryz.prog.follows .mixedOrders = true := by kernel_rfl
        obtain ⟨m, hm⟩ : ∃ m, m = pre.length := ⟨_, rfl⟩
        rw [← hm] at hia p2 HI3 hlt
        have HM := Lib.hid hm
        have hm8 : m < 140737488351232 := by omega
        clear hm hsmall
        clear hr1 hca ca0 hx1 hx2 hmem hce1 hce2 hi1 hi2 hi3 hi4 hi5 hc hK
        gi_wp2
        gi_region_with ((refine ⟨trivial, ?_⟩; gi_at_call 62; refine (CallsIn.inRound l (callsIn_wide.2 (CK.out _ hdw.out))).mono ?_; rintro e w' ⟨rfl, hb⟩))
        all_goals
          have HB5 := Lib.hid (hdw.out.trans (hb.mono (Nat.le_refl _)))
          have br1 := boxed_below HI2.out HB5.out
          have bt1 := boxed_below HI3.out HB5.out
          have q1 := br1.cell
          have q2 := br1.frozen
          have q3 := bt1.cell
          have q4 := bt1.frozen
          have HR1 := Lib.hid br1
          have HT1 := Lib.hid bt1
          have HS1 := Lib.hid (boxed_below HI1.out HB5.out)
          clear hb CK ca1 p1 p2 e2 e3 e4 e5 hia br1 bt1 hmx
          by_cases h0 : c = 0
          · subst h0
            gi_wp2
            refine ⟨(keepsFrom_below HB5.out).trans ((KeepsOthers.setCell _ _ _).from _), (only_below HB5.out).setCell (p := ⟨T, 0, none⟩) ⟨by show w.heap.size ≤ T; omega, by show T ≠ T + 1; omega, by show T ≠ T + 1 + 1; omega⟩ _, ⟨⟨HS1.out.other (by omega) _, HR1.out.other (by omega) _⟩, ?_⟩, ?_, HC.out⟩
            · have := HT1.out.set (.int .i64 ((m : Int) + 1))
              have e9 : (pre ++ [((nm, tx), (nn, ty))]).length = m + 1 := by rw [List.length_append, ← HM.out]; rfl
              rw [e9, show ((m + 1 : Nat) : Int) = (m : Int) + 1 from by omega]
              exact this
            · exact (HI4.out.trans (HB5.out.mono HI4.out.size)).setCell (p := ⟨T, 0, none⟩) (by show w.heap.size ≤ T; omega) _
          · have q5 : (c != 0) = true := by rw [bne_iff_ne]; exact h0
            gi_wp2
            refine ⟨(keepsFrom_below HB5.out).trans ((KeepsOthers.setCell _ _ _).from _), ⟨?_, ?_⟩, rfl, by rw [HC.out]; exact h0⟩
            · rw [HC.out]; exact HR1.out.set _
            · exact (HI4.out.trans (HB5.out.mono HI4.out.size)).setCell (p := ⟨w.heap.size + 1, 0, none⟩) (by show w.heap.size ≤ w.heap.size + 1; omega) _
      · rintro D W hD ⟨⟨⟨hi1, hi2⟩, hi3⟩, hi4, hi5⟩ hK
        have hbc := hi2.cell
        have hbf := hi2.frozen
        gi_wp2
        have hK' := (KeepsOthers.setCell W ⟨w.heap.size + 1, 0, none⟩ (.int .i64 0)).same D _ hK rfl
        have hc5 := cell_kept (hi2.set (.int .i64 0)).cell (grownBy_putObj' _ D (.deferred none)) (fun r e => by cases e; exact ⟨_, hK', rfl⟩)
        refine ⟨by simp, .inl ⟨_, _, rfl, run_takeDeferred hK', ?_⟩⟩
        refine ⟨.int .i64 0, by simp [results, Tryz.results39, go_sem, hc5], by rw [HE.out, hi5], ?_⟩
        exact (hi4.setCell (p := ⟨w.heap.size + 1, 0, none⟩) (by show w.heap.size ≤ w.heap.size + 1; omega) _).trans (belowK_b (w := w) (Nat.le_refl _) _ D _ _ (by omega) hK' rfl rfl)
      · rintro D c k W hD hk ⟨⟨hb, hB⟩, rfl, hp⟩ hK
        gi_wp2
        have hc5 := cell_kept hb.cell (grownBy_putObj' _ D (.deferred none)) (fun r e => by cases e; exact ⟨_, hK, rfl⟩)
        refine ⟨by simp, .inl ⟨_, _, rfl, run_takeDeferred hK, ?_⟩⟩
        refine ⟨_, by simp [results, Tryz.results39, go_sem, hc5]; rfl, by rw [HE.out, cmpL_take (by omega) hp], ?_⟩
        exact hB.trans (belowK_b (w := w) (Nat.le_refl _) _ D _ _ (by omega) hK rfl rfl)
    · have HE := Lib.hid (show cmpR cs a b = 0 from by unfold cmpR; rw [if_pos (.inr (by omega))])
      have q : ((y : Int) != 0) = true := by rw [bne_iff_ne]; omega
      clear hx hy hxl hyb
      rw [show ((0 : Nat) : Int) = 0 from rfl] at CA
      have N0 := Lib.hid (new2 w (.cells #[.slice ao n9 cap] 22) (.cells #[.int .i64 0] 3))
      go_enter Tryz.func39, Tryz.ntmps39
      go_wp2_with fail
      refine (CA.out _ N0.out.2.2.2).mono ?_
      rintro e w1 ⟨rfl, hb⟩
      have B1 := Lib.hid (N0.out.2.2.2.trans (hb.mono N0.out.2.2.2.size))
      have hx1 : Boxed w1 w.heap.size 22 (.slice ao n9 cap) := boxed_below N0.out.2.1 hb
      have hx2 : Boxed w1 (w.heap.size + 1) 3 (.int .i64 0) := boxed_below N0.out.2.2.1 hb
      have X2 := Lib.hid hx2
      have hc1 := hx1.cell
      clear hb hx1 hx2 N0
      go_wp2_with fail
      refine (CB.out _ B1.out).mono ?_
      rintro e w2 ⟨rfl, hb⟩
      have B2 := Lib.hid (B1.out.trans (hb.mono B1.out.size))
      have hy2 := boxed_below X2.out hb
      have hc2 := hy2.cell
      have hf2 := hy2.frozen
      have Y2 := Lib.hid hy2
      clear hb hy2 hc1 X2
      go_wp2
      have hc5 := (Y2.out.set (.int .i64 0)).cell
      refine bodyPost_ret (v := .int .i64 0) (by simp [results, Tryz.results39, go_sem, hc5]) rfl ?_
      exact ⟨by rw [HE.out], B2.out.setCell (p := ⟨w.heap.size + 1, 0, none⟩) (by show w.heap.size ≤ w.heap.size + 1; omega) _⟩
  · have HE := Lib.hid (show cmpR cs a b = 0 from by unfold cmpR; rw [if_pos (.inl (by omega))])
    have q : ((x : Int) != 0) = true := by rw [bne_iff_ne]; omega
    clear hx
    have N0 := Lib.hid (new2 w (.cells #[.slice ao n9 cap] 22) (.cells #[.int .i64 0] 3))
    go_enter Tryz.func39, Tryz.ntmps39
    go_wp2_with fail
    refine (CA.out _ N0.out.2.2.2).mono ?_
    rintro e w1 ⟨rfl, hb⟩
    have B1 := Lib.hid (N0.out.2.2.2.trans (hb.mono N0.out.2.2.2.size))
    have hy2 : Boxed w1 (w.heap.size + 1) 3 (.int .i64 0) := boxed_below N0.out.2.2.1 hb
    have hc2 := hy2.cell
    have hf2 := hy2.frozen
    have Y2 := Lib.hid hy2
    clear hb hy2 N0
    go_wp2
    have hc5 := (Y2.out.set (.int .i64 0)).cell
    refine bodyPost_ret (v := .int .i64 0) (by simp [results, Tryz.results39, go_sem, hc5]) rfl ?_
    exact ⟨by rw [HE.out], B1.out.setCell (p := ⟨w.heap.size + 1, 0, none⟩) (by show w.heap.size ≤ w.heap.size + 1; omega) _⟩

end Go.Proofs.YtokpphhmmcoeaaaGreatDoor
