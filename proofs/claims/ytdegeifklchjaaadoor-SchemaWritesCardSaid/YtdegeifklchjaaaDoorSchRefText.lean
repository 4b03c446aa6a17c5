/-
  The document's own answers for layer 5: Text.
-/
import Derived.Test.YtdegeifklchjaaaDoorSchText
import Derived.Test.YtdegeifklchjaaaDoorOrd
set_option linter.unusedVariables false
set_option linter.unusedSimpArgs false
set_option maxRecDepth 1000000
namespace Go.Proofs.YtdegeifklchjaaaDoor
open Go.RowKit Go.Shelf

theorem names_any (w : World) : Calls Tryd.prog 36 #[] w fun e w' => e = .returned (.slice (some ⟨w.heap.size, 0, none⟩) 6 6) ∧ (∀ q, q < 6 → w'.cell? ⟨w.heap.size, q, none⟩ = some (.string (kindB.getD q default))) ∧ Below w.heap.size w w' := by
  refine (ref_Names w).mono ?_
  rintro e w' ⟨rfl, rfl⟩
  refine ⟨rfl, fun q hq => ?_, (Below.refl _ _).alloc (Nat.le_refl _) _⟩
  rw [cell_of_row _ _ _ _ _ _ (heap_alloc_new w _), List.getElem?_toArray, List.getElem?_map]
  exact kindB_cell hq

theorem txS_succ {cs : List ColB} {k : Nat} (h : k < cs.length) : txS ((colsL cs).take (k + 1)) = if k = 0 then txCol (colL (cs.getD k default)) else txS ((colsL cs).take k) ++ [44] ++ txCol (colL (cs.getD k default)) := by
  unfold txS
  rw [take_succD (by rw [colsL_length]; exact h) default, colsL_getD h, List.map_append, List.map_singleton, join_snoc]
  by_cases h0 : k = 0
  · rw [if_pos h0, if_pos (by rw [h0]; rfl)]
  · rw [if_neg h0, if_neg (by
      intro e
      have := congrArg List.length e
      rw [List.length_map, List.length_take, colsL_length, List.length_nil] at this
      omega)]

set_option maxHeartbeats 8000000 in
theorem ref_Text05 (v : Value) (cs : List ColB) (w : World) (h : RdC w v cs) (h0 : errS (colsL cs) = 0) :
    Calls Tryd.prog 19 #[v] w fun e w' => (∃ t, e = .returned (.string t) ∧ RdS t (txS (colsL cs))) ∧ Below w.heap.size w w' := by
  have hlen := h.len
  have hsm := h.small
  obtain ⟨z1, z2, z3, z4⟩ := errS_zero h0
  rw [colsL_length] at z1 z2
  have HH := Lib.hid h
  have HB0 := Lib.hid (Below.refl w.heap.size w)
  clear h h0
  go_enter Tryd.func19, Tryd.ntmps19
  go_wp2
  go_loopw [3, 4] (fun a i wr => ∃ (k : Nat) (tb : ByteArray), k ≤ cs.length ∧ i = .int .i64 k ∧ a = .string tb ∧ Hid (Below w.heap.size w wr) ∧ Hid (tb = ⟨(txS ((colsL cs).take k)).toArray⟩) ∧ tb.size ≤ 60 * k) (fun _ i _ => cs.length - (intOf i).toNat)
  case atStart => exact ⟨0, _, by omega, rfl, rfl, HB0, Lib.hid rfl, by decide⟩
  case round =>
    clear HB0
    obtain ⟨k, tb, hk, rfl, rfl, HB, HT, htz⟩ := hrel
    by_cases hlt : k < cs.length
    · have hr := HH.out.later HB.out (Nat.le_refl _)
      obtain ⟨b, o, hidx, hcell, hblk⟩ := hr.get hlt
      obtain ⟨hc0, hc1⟩ := hcell _ hr
      have hz := z4 ((colsL cs).getD k default) (by
        rw [show (colsL cs).getD k default = (colsL cs)[k]'(by rw [colsL_length]; exact hlt) from by simp [List.getD, colsL_length, hlt]]
        exact List.getElem_mem _)
      rw [colsL_getD hlt] at hz
      have hts := txS_succ hlt
      rcases hcg : cs.getD k default with ⟨s, kd⟩
      rw [hcg] at hc0 hc1 hz hts
      dsimp only at hc0 hc1
      have hz : s.data.toList.length ≤ 32 ∧ 0 ≤ kd ∧ kd ≤ 5 := hz
      obtain ⟨q, rfl⟩ := Int.eq_ofNat_of_zero_le hz.2.1
      have hq : q < 6 := by omega
      have HTS := Lib.hid hts
      have hss : s.size ≤ 32 := hz.1
      obtain ⟨kt, hkt⟩ : ∃ kt, kt = kindB.getD q default := ⟨_, rfl⟩
      have hks : kt.size ≤ 5 := by
        have := kindB_rd hq
        rw [hkt, this.1.eq]; simpa [ByteArray.size] using this.2
      have HKT := Lib.hid hkt
      have hxe := txB_eq s q hq
      have htxl := txB_list (s, (q : Int))
      have q0 : (0 : Int) ≤ (q : Int) := by omega
      have q1 : (q : Int) < 6 := by omega
      clear hr hcell hcg hts z4 hz hkt
      by_cases hk0 : k = 0
      · have HTE := Lib.hid (show tb ++ s ++ ⟨#[58]⟩ ++ kt = ⟨(txS ((colsL cs).take (k + 1))).toArray⟩ by
          rw [HTS.out, if_pos hk0, HT.out, hk0, ← htxl, hxe, HKT.out]
          apply ByteArray.ext
          simp [txS, Lib.join])
        have d2 : decide (0 < k) = false := decide_eq_false (by omega)
        have d3 : ¬ (0 < k) := by omega
        have p1 : ¬ (9223372036854775807 < tb.size + s.size) := by omega
        have p2 : ¬ (9223372036854775807 < tb.size + s.size + 1) := by omega
        have p3 : ¬ (9223372036854775807 < tb.size + s.size + 1 + kt.size) := by omega
        have g0 : ∀ x : Ord.GW wr.drew, x.val.cell? ⟨b, o, none⟩ = some (.string s) := fun x => by rw [x.grew.cell (p := ⟨b, o, none⟩) hblk]; exact hc0
        have g1 : ∀ x : Ord.GW wr.drew, x.val.cell? ⟨b, o + 1, none⟩ = some (.int .i64 (q : Int)) := fun x => by rw [x.grew.cell (p := ⟨b, o + 1, none⟩) hblk]; exact hc1
        have HTZ := Lib.hid htz
        clear hxe htxl hk0 hc0 hc1
        go_wp2_with fail
        refine Ord.wp_region_ord [(0, false), (1, false), (2, false), (3, false), (4, false), (5, false), (6, false), (7, false), (9, false), (10, false), (11, false), (12, false), (13, false), (8, true), (14, false), (15, false), (16, false), (17, false)] (by kernel_rfl) rfl (by kernel_rfl) (by kernel_rfl) (fun _ _ _ d _ h => by cases d <;> exact h) ?_
        refine Ord.ord_still rfl rfl (by kernel_rfl) (fun K hK => ?_)
        go_big_quiet_op
        refine hK _ ?_; clear hK K
        refine Ord.ord_still rfl rfl (by kernel_rfl) (fun K hK => ?_)
        go_big_quiet_op
        refine hK _ ?_; clear hK K
        refine Ord.ord_still rfl rfl (by kernel_rfl) (fun K hK => ?_)
        go_big_quiet_op
        refine hK _ ?_; clear hK K
        refine Ord.ord_still rfl rfl (by kernel_rfl) (fun K hK => ?_)
        go_big_quiet_op
        refine hK _ ?_; clear hK K
        refine Ord.ord_still rfl rfl (by kernel_rfl) (fun K hK => ?_)
        go_big_quiet_op
        refine hK _ ?_; clear hK K
        refine Ord.ord_still rfl rfl (by kernel_rfl) (fun K hK => ?_)
        go_big_quiet_op
        refine hK _ ?_; clear hK K
        refine Ord.ord_still rfl rfl (by kernel_rfl) (fun K hK => ?_)
        go_big_quiet_op
        refine hK _ ?_; clear hK K
        refine Ord.ord_still rfl rfl (by kernel_rfl) (fun K hK => ?_)
        go_big_quiet_op
        refine hK _ ?_; clear hK K
        refine Ord.ord_still rfl rfl (by kernel_rfl) (fun K hK => ?_)
        go_big_quiet_op
        refine hK _ ?_; clear hK K
        refine Ord.ord_still rfl rfl (by kernel_rfl) (fun K hK => ?_)
        go_big_quiet_op
        refine hK _ ?_; clear hK K
        refine Ord.ord_still rfl rfl (by kernel_rfl) (fun K hK => ?_)
        go_big_quiet_op
        refine hK _ ?_; clear hK K
        refine Ord.ord_still rfl rfl (by kernel_rfl) (fun K hK => ?_)
        go_big_quiet_op
        refine hK _ ?_; clear hK K
        refine Ord.ord_still rfl rfl (by kernel_rfl) (fun K hK => ?_)
        go_big_quiet_op
        refine hK _ ?_; clear hK K
        refine Ord.ord_loud rfl (by kernel_rfl) (fun K hK => ?_)
        go_big_op
        refine (names_any _).mono ?_
        rintro e wn ⟨rfl, hcc, hbn⟩
        have hkc : ∀ x : Ord.GW wn, x.val.cell? ⟨wr.heap.size, q, none⟩ = some (.string kt) := fun x => by
          have h1 := hcc q hq
          rw [← HKT.out] at h1
          have h2 : wn.cell? ⟨wr.heap.size, q, none⟩ = some (.string kt) := h1
          rw [x.grew.cell (p := ⟨wr.heap.size, q, none⟩) (World.block_lt_of_cell? wn _ h2)]; exact h2
        have HBN := Lib.hid (HB.out.trans ((Below.drew (Below.refl wr.heap.size wr)).trans hbn |>.mono HB.out.size))
        refine hK _ _ hbn ?_
        clear hcc hbn
        clear hK K
        refine Ord.ord_still rfl rfl (by kernel_rfl) (fun K hK => ?_)
        go_big_quiet_op
        refine hK _ ?_; clear hK K
        refine Ord.ord_still rfl rfl (by kernel_rfl) (fun K hK => ?_)
        go_big_quiet_op
        refine hK _ ?_; clear hK K
        refine Ord.ord_still rfl rfl (by kernel_rfl) (fun K hK => ?_)
        go_big_quiet_op
        refine hK _ ?_; clear hK K
        refine Ord.ord_still rfl rfl (by kernel_rfl) (fun K hK => ?_)
        go_big_quiet_op
        refine hK _ ?_; clear hK K
        refine Ord.ord_nil ?_
        go_wp2
        go_roundw
        case rel => exact ⟨k + 1, _, by omega, by go_num, rfl, HBN, HTE, by have h9 := HTZ.out; rw [ByteArray.size_append, ByteArray.size_append, ByteArray.size_append]; have e1 : (⟨#[58]⟩ : ByteArray).size = 1 := rfl; have e2 : (⟨#[44]⟩ : ByteArray).size = 1 := rfl; omega⟩
        case measure => simp [intOf]; omega
      · have HTE := Lib.hid (show tb ++ ⟨#[44]⟩ ++ s ++ ⟨#[58]⟩ ++ kt = ⟨(txS ((colsL cs).take (k + 1))).toArray⟩ by
          rw [HTS.out, if_neg hk0, HT.out, ← htxl, hxe, HKT.out]
          apply ByteArray.ext
          simp)
        have d2 : decide (0 < k) = true := decide_eq_true (by omega)
        have d3 : 0 < k := by omega
        have p0 : ¬ (9223372036854775807 < tb.size + 1) := by omega
        have p1 : ¬ (9223372036854775807 < tb.size + 1 + s.size) := by omega
        have p2 : ¬ (9223372036854775807 < tb.size + 1 + s.size + 1) := by omega
        have p3 : ¬ (9223372036854775807 < tb.size + 1 + s.size + 1 + kt.size) := by omega
        have g0 : ∀ x : Ord.GW wr.drew, x.val.cell? ⟨b, o, none⟩ = some (.string s) := fun x => by rw [x.grew.cell (p := ⟨b, o, none⟩) hblk]; exact hc0
        have g1 : ∀ x : Ord.GW wr.drew, x.val.cell? ⟨b, o + 1, none⟩ = some (.int .i64 (q : Int)) := fun x => by rw [x.grew.cell (p := ⟨b, o + 1, none⟩) hblk]; exact hc1
        have HTZ := Lib.hid htz
        clear hxe htxl hk0 hc0 hc1
        go_wp2_with fail
        refine Ord.wp_region_ord [(0, false), (1, false), (2, false), (3, false), (4, false), (5, false), (6, false), (7, false), (9, false), (10, false), (11, false), (12, false), (13, false), (8, true), (14, false), (15, false), (16, false), (17, false)] (by kernel_rfl) rfl (by kernel_rfl) (by kernel_rfl) (fun _ _ _ d _ h => by cases d <;> exact h) ?_
        refine Ord.ord_still rfl rfl (by kernel_rfl) (fun K hK => ?_)
        go_big_quiet_op
        refine hK _ ?_; clear hK K
        refine Ord.ord_still rfl rfl (by kernel_rfl) (fun K hK => ?_)
        go_big_quiet_op
        refine hK _ ?_; clear hK K
        refine Ord.ord_still rfl rfl (by kernel_rfl) (fun K hK => ?_)
        go_big_quiet_op
        refine hK _ ?_; clear hK K
        refine Ord.ord_still rfl rfl (by kernel_rfl) (fun K hK => ?_)
        go_big_quiet_op
        refine hK _ ?_; clear hK K
        refine Ord.ord_still rfl rfl (by kernel_rfl) (fun K hK => ?_)
        go_big_quiet_op
        refine hK _ ?_; clear hK K
        refine Ord.ord_still rfl rfl (by kernel_rfl) (fun K hK => ?_)
        go_big_quiet_op
        refine hK _ ?_; clear hK K
        refine Ord.ord_still rfl rfl (by kernel_rfl) (fun K hK => ?_)
        go_big_quiet_op
        refine hK _ ?_; clear hK K
        refine Ord.ord_still rfl rfl (by kernel_rfl) (fun K hK => ?_)
        go_big_quiet_op
        refine hK _ ?_; clear hK K
        refine Ord.ord_still rfl rfl (by kernel_rfl) (fun K hK => ?_)
        go_big_quiet_op
        refine hK _ ?_; clear hK K
        refine Ord.ord_still rfl rfl (by kernel_rfl) (fun K hK => ?_)
        go_big_quiet_op
        refine hK _ ?_; clear hK K
        refine Ord.ord_still rfl rfl (by kernel_rfl) (fun K hK => ?_)
        go_big_quiet_op
        refine hK _ ?_; clear hK K
        refine Ord.ord_still rfl rfl (by kernel_rfl) (fun K hK => ?_)
        go_big_quiet_op
        refine hK _ ?_; clear hK K
        refine Ord.ord_still rfl rfl (by kernel_rfl) (fun K hK => ?_)
        go_big_quiet_op
        refine hK _ ?_; clear hK K
        refine Ord.ord_loud rfl (by kernel_rfl) (fun K hK => ?_)
        go_big_op
        refine (names_any _).mono ?_
        rintro e wn ⟨rfl, hcc, hbn⟩
        have hkc : ∀ x : Ord.GW wn, x.val.cell? ⟨wr.heap.size, q, none⟩ = some (.string kt) := fun x => by
          have h1 := hcc q hq
          rw [← HKT.out] at h1
          have h2 : wn.cell? ⟨wr.heap.size, q, none⟩ = some (.string kt) := h1
          rw [x.grew.cell (p := ⟨wr.heap.size, q, none⟩) (World.block_lt_of_cell? wn _ h2)]; exact h2
        have HBN := Lib.hid (HB.out.trans ((Below.drew (Below.refl wr.heap.size wr)).trans hbn |>.mono HB.out.size))
        refine hK _ _ hbn ?_
        clear hcc hbn
        clear hK K
        refine Ord.ord_still rfl rfl (by kernel_rfl) (fun K hK => ?_)
        go_big_quiet_op
        refine hK _ ?_; clear hK K
        refine Ord.ord_still rfl rfl (by kernel_rfl) (fun K hK => ?_)
        go_big_quiet_op
        refine hK _ ?_; clear hK K
        refine Ord.ord_still rfl rfl (by kernel_rfl) (fun K hK => ?_)
        go_big_quiet_op
        refine hK _ ?_; clear hK K
        refine Ord.ord_still rfl rfl (by kernel_rfl) (fun K hK => ?_)
        go_big_quiet_op
        refine hK _ ?_; clear hK K
        refine Ord.ord_nil ?_
        go_wp2
        go_roundw
        case rel => exact ⟨k + 1, _, by omega, by go_num, rfl, HBN, HTE, by have h9 := HTZ.out; rw [ByteArray.size_append, ByteArray.size_append, ByteArray.size_append, ByteArray.size_append]; have e1 : (⟨#[58]⟩ : ByteArray).size = 1 := rfl; have e2 : (⟨#[44]⟩ : ByteArray).size = 1 := rfl; omega⟩
        case measure => simp [intOf]; omega
    · obtain rfl : k = cs.length := by omega
      have HF := Lib.hid (show RdS tb (txS (colsL cs)) from ⟨by
        have := HT.out
        rwa [List.take_of_length_le (by rw [colsL_length]; omega)] at this, by
        have := HT.out
        rw [List.take_of_length_le (by rw [colsL_length]; omega)] at this
        have e : tb.size = (txS (colsL cs)).length := by rw [this]; simp [ByteArray.size]
        omega⟩)
      clear hlt
      go_wp2
      go_ret
      exact ⟨⟨_, rfl, HF.out⟩, HB.out⟩

end Go.Proofs.YtdegeifklchjaaaDoor
