/-
  CrcSums: of any bytes the sum is the document's, also in two parts, its bytes, and with it laid behind. For every input.
-/
import Derived.Test.YtagpcplmcagihaaCrcWalks
set_option linter.unusedVariables false
set_option linter.unusedSimpArgs false
namespace Go.Proofs.Ytagpcplmcagihaa
open Go.RowKit

set_option maxHeartbeats 8000000 in
set_option maxRecDepth 20000 in
theorem crcSums_walk (v : Value) (l : List UInt8) (v2 : Value) (c : List UInt8) (w : World) (h : Rd w v l) (h2 : Rd w v2 c) :
    Calls Try.prog 3 #[v, v2] w fun e w' => e = .returned (.bool true) ∧ Below w.heap.size w w' := by
  have hlen := h.len
  have hlen2 := h2.len
  have hsm := h.small
  by_cases hbig : 3000 < l.length ∨ 3000 < c.length
  · by_cases hb2 : 3000 < l.length
    · clear hbig
      go_enter Try.func3, Try.ntmps3
      go_wp2_with fail
      refine (law02_alive w).mono ?_
      rintro e w1 ⟨rfl, hb⟩
      go_wp2
      go_ret
      exact ⟨rfl, hb⟩
    · have hc2 : 3000 < c.length := by omega
      clear hbig
      go_enter Try.func3, Try.ntmps3
      go_wp2_with fail
      refine (law02_alive w).mono ?_
      rintro e w1 ⟨rfl, hb⟩
      go_wp2
      go_ret
      exact ⟨rfl, hb⟩
  · have hl2 : l.length ≤ 3000 := by omega
    have hc2 : c.length ≤ 3000 := by omega
    have hsum := Crc.sum_lt l
    clear hbig
    go_enter Try.func3, Try.ntmps3
    go_wp2_with (with_reducible refine wpl_append w.heap.size _ [] ?hs (own_empty w w.heap.size (Nat.le_refl _)) _ l ?hx (h.alloc _) ?hn ?hbase w.heap.size w ((Below.refl _ _).alloc (Nat.le_refl _) _) (Nat.le_refl _) ?_)
    case hs => rfl
    case hx => rfl
    case hn => simp; omega
    case hbase => simp
    intro v3 w3 ho3 hb3 _
    rw [List.nil_append] at ho3
    go_wp2_with (with_reducible refine wpl_append w.heap.size _ l ?hs ho3 _ c ?hx (h2.later hb3 (Nat.le_refl _)) ?hn ?hbase w.heap.size w hb3 (Nat.le_refl _) ?_)
    case hs => rfl
    case hx => rfl
    case hn => omega
    case hbase => exact hb3.size
    intro v4 w4 ho4 hb4 _
    clear ho3 hb3
    go_wp2_with fail
    refine (ref_Sum _ l _ (h.later hb4 (Nat.le_refl _))).mono ?_
    rintro e w5 ⟨rfl, rfl⟩
    have hbel := hb4.drew
    have hR := (h.later hb4 (Nat.le_refl _)).drew
    have hR2 := (h2.later hb4 (Nat.le_refl _)).drew
    have hR3 := (ho4.rd (by simp; omega)).drew
    clear ho4 hb4
    go_wp2_with fail
    refine Ord.wp_region_ord [(0, true), (1, false), (2, false), (4, false), (3, true), (5, false), (6, false), (7, false), (8, false), (9, false), (11, false), (10, true), (12, true), (13, false), (14, false), (15, false), (16, false), (18, false), (17, true), (19, true), (20, false), (21, false), (22, false), (23, false), (26, false), (24, true), (25, false), (27, true), (28, false), (29, false), (30, false), (31, false), (32, false), (35, false), (33, true), (34, false), (36, true), (37, false), (38, false), (39, false), (40, false)] (by kernel_rfl) rfl (by kernel_rfl) (by kernel_rfl) (fun _ _ _ d _ h => by cases d <;> exact h) ?_
    refine Ord.ord_loud rfl (by kernel_rfl) (fun K hK => ?_)
    go_big_op
    refine (law02_alive _).mono ?_
    rintro e w1 ⟨rfl, hb1⟩
    replace hR := hR.later hb1 (Nat.le_refl _)
    replace hR2 := hR2.later hb1 (Nat.le_refl _)
    replace hR3 := hR3.later hb1 (Nat.le_refl _)
    replace hbel := hbel.trans (hb1.mono hbel.size)
    refine hK _ _ hb1 ?_
    clear hb1
    clear hK K
    refine Ord.ord_still rfl rfl (by kernel_rfl) (fun K hK => ?_)
    go_big_quiet_op
    refine hK _ ?_; clear hK K
    refine Ord.ord_still rfl rfl (by kernel_rfl) (fun K hK => ?_)
    go_big_quiet_op
    refine hK _ ?_; clear hK K
    refine Ord.ord_still rfl rfl (by kernel_rfl) (fun K hK => ?_)
    go_big_quiet_op
    refine hK _ ?_; clear hK K
    refine Ord.ord_loud rfl (by kernel_rfl) (fun K hK => ?_)
    go_big_op
    refine (crc_Sum _ l _ hR).mono ?_
    rintro e w1 ⟨rfl, hb1⟩
    replace hR := hR.later hb1 (Nat.le_refl _)
    replace hR2 := hR2.later hb1 (Nat.le_refl _)
    replace hR3 := hR3.later hb1 (Nat.le_refl _)
    replace hbel := hbel.trans (hb1.mono hbel.size)
    refine hK _ _ hb1 ?_
    clear hb1
    clear hK K
    refine Ord.ord_still rfl rfl (by kernel_rfl) (fun K hK => ?_)
    go_big_quiet_op
    refine hK _ ?_; clear hK K
    refine Ord.ord_still rfl rfl (by kernel_rfl) (fun K hK => ?_)
    go_big_quiet_op
    refine hK _ ?_; clear hK K
    refine Ord.ord_still rfl rfl (by kernel_rfl) (fun K hK => ?_)
    go_big_quiet_op
    refine hK _ ?_; clear hK K
    refine Ord.ord_still rfl rfl (by kernel_rfl) (fun K hK => ?_)
    go_big_quiet_op
    refine hK _ ?_; clear hK K
    refine Ord.ord_still rfl rfl (by kernel_rfl) (fun K hK => ?_)
    go_big_quiet_op
    refine hK _ ?_; clear hK K
    refine Ord.ord_still rfl rfl (by kernel_rfl) (fun K hK => ?_)
    go_big_quiet_op
    refine hK _ ?_; clear hK K
    refine Ord.ord_loud rfl (by kernel_rfl) (fun K hK => ?_)
    go_big_op
    refine (crc_More _ hsum _ c _ hR2).mono ?_
    rintro e w1 ⟨rfl, hb1⟩
    rw [Crc.more_sum]
    replace hR := hR.later hb1 (Nat.le_refl _)
    replace hR2 := hR2.later hb1 (Nat.le_refl _)
    replace hR3 := hR3.later hb1 (Nat.le_refl _)
    replace hbel := hbel.trans (hb1.mono hbel.size)
    refine hK _ _ hb1 ?_
    clear hb1
    clear hK K
    refine Ord.ord_loud rfl (by kernel_rfl) (fun K hK => ?_)
    go_big_op
    refine (ref_Sum _ (l ++ c) _ hR3).mono ?_
    rintro e w1 ⟨rfl, rfl⟩
    refine hK _ _ (Ord.Grew.refl _) ?_
    clear hK K
    refine Ord.ord_still rfl rfl (by kernel_rfl) (fun K hK => ?_)
    go_big_quiet_op
    refine hK _ ?_; clear hK K
    refine Ord.ord_still rfl rfl (by kernel_rfl) (fun K hK => ?_)
    go_big_quiet_op
    refine hK _ ?_; clear hK K
    refine Ord.ord_still rfl rfl (by kernel_rfl) (fun K hK => ?_)
    go_big_quiet_op
    refine hK _ ?_; clear hK K
    refine Ord.ord_still rfl rfl (by kernel_rfl) (fun K hK => ?_)
    go_big_quiet_op
    refine hK _ ?_; clear hK K
    refine Ord.ord_still rfl rfl (by kernel_rfl) (fun K hK => ?_)
    go_big_quiet_op
    refine hK _ ?_; clear hK K
    refine Ord.ord_loud rfl (by kernel_rfl) (fun K hK => ?_)
    go_big_op
    refine (crc_More 0 (by decide) _ c _ hR2).mono ?_
    rintro e w1 ⟨rfl, hb1⟩
    rw [Crc.more_zero]
    replace hR := hR.later hb1 (Nat.le_refl _)
    replace hR2 := hR2.later hb1 (Nat.le_refl _)
    replace hR3 := hR3.later hb1 (Nat.le_refl _)
    replace hbel := hbel.trans (hb1.mono hbel.size)
    refine hK _ _ hb1 ?_
    clear hb1
    clear hK K
    refine Ord.ord_loud rfl (by kernel_rfl) (fun K hK => ?_)
    go_big_op
    refine (crc_Sum _ c _ hR2).mono ?_
    rintro e w1 ⟨rfl, hb1⟩
    replace hR := hR.later hb1 (Nat.le_refl _)
    replace hR2 := hR2.later hb1 (Nat.le_refl _)
    replace hR3 := hR3.later hb1 (Nat.le_refl _)
    replace hbel := hbel.trans (hb1.mono hbel.size)
    refine hK _ _ hb1 ?_
    clear hb1
    clear hK K
    refine Ord.ord_still rfl rfl (by kernel_rfl) (fun K hK => ?_)
    go_big_quiet_op
    refine hK _ ?_; clear hK K
    refine Ord.ord_still rfl rfl (by kernel_rfl) (fun K hK => ?_)
    go_big_quiet_op
    refine hK _ ?_; clear hK K
    refine Ord.ord_still rfl rfl (by kernel_rfl) (fun K hK => ?_)
    go_big_quiet_op
    refine hK _ ?_; clear hK K
    refine Ord.ord_still rfl rfl (by kernel_rfl) (fun K hK => ?_)
    go_big_quiet_op
    refine hK _ ?_; clear hK K
    refine Ord.ord_still rfl rfl (by kernel_rfl) (fun K hK => ?_)
    go_big_quiet_op
    refine hK _ ?_; clear hK K
    refine Ord.ord_loud rfl (by kernel_rfl) (fun K hK => ?_)
    go_big_op
    refine (crc_Put _ hsum _).mono ?_
    rintro e w1 ⟨v6, rfl, ho1, hb1⟩
    have hs6 := str_later ho1 (by simp [Crc.put_length])
    clear ho1
    replace hR := hR.later hb1 (Nat.le_refl _)
    replace hR2 := hR2.later hb1 (Nat.le_refl _)
    replace hR3 := hR3.later hb1 (Nat.le_refl _)
    replace hbel := hbel.trans (hb1.mono hbel.size)
    refine hK _ _ hb1 ?_
    clear hb1
    clear hK K
    refine Ord.ord_still rfl rfl (by kernel_rfl) (fun K hK => ?_)
    go_big_quiet_op
    refine hK _ ?_; clear hK K
    refine Ord.ord_loud rfl (by kernel_rfl) (fun K hK => ?_)
    go_big_op
    refine (ref_Put02 _ hsum _).mono ?_
    rintro e w1 ⟨v7, rfl, ho1, hb1⟩
    have hs7 := str_later ho1 (by simp [Crc.put_length])
    clear ho1
    replace hR := hR.later hb1 (Nat.le_refl _)
    replace hR2 := hR2.later hb1 (Nat.le_refl _)
    replace hR3 := hR3.later hb1 (Nat.le_refl _)
    replace hbel := hbel.trans (hb1.mono hbel.size)
    refine hK _ _ hb1 ?_
    clear hb1
    clear hK K
    refine Ord.ord_still rfl rfl (by kernel_rfl) (fun K hK => ?_)
    go_big_quiet_op
    refine hK _ ?_; clear hK K
    refine Ord.ord_still rfl rfl (by kernel_rfl) (fun K hK => ?_)
    go_big_quiet_op
    refine hK _ ?_; clear hK K
    refine Ord.ord_still rfl rfl (by kernel_rfl) (fun K hK => ?_)
    go_big_quiet_op
    refine hK _ ?_; clear hK K
    refine Ord.ord_still rfl rfl (by kernel_rfl) (fun K hK => ?_)
    go_big_quiet_op
    refine hK _ ?_; clear hK K
    refine Ord.ord_still rfl rfl (by kernel_rfl) (fun K hK => ?_)
    go_big_quiet_op
    refine hK _ ?_; clear hK K
    refine Ord.ord_still rfl rfl (by kernel_rfl) (fun K hK => ?_)
    go_big_quiet_op
    refine hK _ ?_; clear hK K
    refine Ord.ord_loud rfl (by kernel_rfl) (fun K hK => ?_)
    go_big_op
    refine (crc_Seal _ l _ hR).mono ?_
    rintro e w1 ⟨v8, rfl, ho1, hb1⟩
    have hs8 := str_later ho1 (by simp [Crc.put_length]; omega)
    clear ho1
    replace hR := hR.later hb1 (Nat.le_refl _)
    replace hR2 := hR2.later hb1 (Nat.le_refl _)
    replace hR3 := hR3.later hb1 (Nat.le_refl _)
    replace hbel := hbel.trans (hb1.mono hbel.size)
    refine hK _ _ hb1 ?_
    clear hb1
    clear hK K
    refine Ord.ord_still rfl rfl (by kernel_rfl) (fun K hK => ?_)
    go_big_quiet_op
    refine hK _ ?_; clear hK K
    refine Ord.ord_loud rfl (by kernel_rfl) (fun K hK => ?_)
    go_big_op
    refine (ref_Seal _ l _ hR).mono ?_
    rintro e w1 ⟨v9, rfl, ho1, hb1⟩
    have hs9 := str_later ho1 (by simp [Crc.put_length]; omega)
    clear ho1
    replace hR := hR.later hb1 (Nat.le_refl _)
    replace hR2 := hR2.later hb1 (Nat.le_refl _)
    replace hR3 := hR3.later hb1 (Nat.le_refl _)
    replace hbel := hbel.trans (hb1.mono hbel.size)
    refine hK _ _ hb1 ?_
    clear hb1
    clear hK K
    refine Ord.ord_still rfl rfl (by kernel_rfl) (fun K hK => ?_)
    go_big_quiet_op
    refine hK _ ?_; clear hK K
    refine Ord.ord_still rfl rfl (by kernel_rfl) (fun K hK => ?_)
    go_big_quiet_op
    refine hK _ ?_; clear hK K
    refine Ord.ord_still rfl rfl (by kernel_rfl) (fun K hK => ?_)
    go_big_quiet_op
    refine hK _ ?_; clear hK K
    refine Ord.ord_still rfl rfl (by kernel_rfl) (fun K hK => ?_)
    go_big_quiet_op
    refine hK _ ?_; clear hK K
    refine Ord.ord_nil ?_
    go_wp2
    go_ret
    exact ⟨rfl, hbel⟩

end Go.Proofs.Ytagpcplmcagihaa
