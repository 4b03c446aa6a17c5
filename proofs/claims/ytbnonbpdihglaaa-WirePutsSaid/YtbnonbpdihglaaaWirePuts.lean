/-
  WirePuts: of any numbers and bytes the bytes are the document's, and how many a number has. For every input.
-/
import Derived.Test.YtbnonbpdihglaaaAlive
import Derived.Test.YtbnonbpdihglaaaWireRef2
import Derived.Test.YtbnonbpdihglaaaLater
set_option linter.unusedVariables false
set_option linter.unusedSimpArgs false
namespace Go.Proofs.Ytbnonbpdihglaaa
open Go.RowKit

set_option maxHeartbeats 4000000 in
set_option maxRecDepth 20000 in
theorem wirePuts_walk (x y : Int) (v : Value) (l : List UInt8) (w : World) (hx : 0 ≤ x ∧ x ≤ 18446744073709551615) (hy : -9223372036854775808 ≤ y ∧ y ≤ 9223372036854775807) (h : Rd w v l) :
    Calls Try.prog 3 #[.int .u64 x, .int .i64 y, v] w fun e w' => e = .returned (.bool true) ∧ Below w.heap.size w w' := by
  have hlen := h.len
  have hl1 := encU_le x.toNat (by omega)
  have hl2 := encU_le (zig y) (zig_lt y hy.1 hy.2)
  by_cases hbig : 2000 < l.length
  · go_enter Try.func3, Try.ntmps3
    go_wp2_with fail
    refine (law01_alive w).mono ?_
    rintro e w1 ⟨rfl, hb⟩
    go_wp2_with fail
    go_ret
    exact ⟨rfl, hb⟩
  · have hl3 : (encB l).length ≤ 140737488351232 := by
      have := encU_le l.length (by omega)
      rw [encB_length]; omega
    go_enter Try.func3, Try.ntmps3
    go_wp2_with fail
    have hR := h.drew
    have hbel : Below w.heap.size w w.drew := (Below.refl _ _).drew
    refine Ord.wp_region_ord [(0, true), (1, false), (2, false), (5, false), (3, true), (4, false), (6, true), (7, false), (8, false), (9, false), (10, false), (11, false), (13, false), (12, true), (14, true), (15, false), (16, false), (17, false), (18, false), (19, false), (22, false), (20, true), (21, false), (23, true), (24, false), (25, false), (26, false), (27, false), (28, false), (31, false), (29, true), (30, false), (32, true), (33, false), (34, false), (35, false), (36, false), (37, false), (39, false), (38, true), (40, true), (41, false), (42, false), (43, false), (44, false), (46, false), (45, true), (47, true), (48, false), (49, false), (50, false)] (by kernel_rfl) rfl (by kernel_rfl) (by kernel_rfl) (fun _ _ _ d _ h => by cases d <;> exact h) ?_
    refine Ord.ord_loud rfl (by kernel_rfl) (fun K hK => ?_)
    go_big_op
    refine (law01_alive _).mono ?_
    rintro e w0 ⟨rfl, hb0⟩
    replace hR := hR.later hb0 (Nat.le_refl _)
    replace hbel := hbel.trans (hb0.mono hbel.size)
    refine hK _ _ hb0 ?_
    clear hb0
    clear hK K
    refine Ord.ord_still rfl rfl (by kernel_rfl) (fun K hK => ?_)
    go_big_quiet_op
    refine hK _ ?_; clear hK K
    refine Ord.ord_still rfl rfl (by kernel_rfl) (fun K hK => ?_)
    go_big_quiet_op
    refine hK _ ?_; clear hK K
    refine Ord.ord_still rfl rfl (by kernel_rfl) (fun K hK => ?_)
    go_big_quiet_op
    refine hK _ ?_; clear hK K
    refine Ord.ord_loud rfl (by kernel_rfl) (fun K hK => ?_)
    go_big_op
    refine (wire_Uint x hx.1 hx.2 _).mono ?_
    rintro e w3 ⟨v3, rfl, ho3, hb3⟩
    have hs3 := str_later ho3 (by omega)
    have hn3 := len_own ho3 (by omega)
    replace hR := hR.later hb3 (Nat.le_refl _)
    replace hbel := hbel.trans (hb3.mono hbel.size)
    clear ho3
    refine hK _ _ hb3 ?_
    clear hb3
    clear hK K
    refine Ord.ord_still rfl rfl (by kernel_rfl) (fun K hK => ?_)
    go_big_quiet_op
    refine hK _ ?_; clear hK K
    refine Ord.ord_loud rfl (by kernel_rfl) (fun K hK => ?_)
    go_big_op
    refine (ref_Uint x hx.1 hx.2 _).mono ?_
    rintro e w6 ⟨v6, rfl, ho6, hb6⟩
    have hs6 := str_later ho6 (by omega)
    have hn6 := len_own ho6 (by omega)
    replace hR := hR.later hb6 (Nat.le_refl _)
    replace hbel := hbel.trans (hb6.mono hbel.size)
    clear ho6
    refine hK _ _ hb6 ?_
    clear hb6
    clear hK K
    refine Ord.ord_still rfl rfl (by kernel_rfl) (fun K hK => ?_)
    go_big_quiet_op
    refine hK _ ?_; clear hK K
    refine Ord.ord_still rfl rfl (by kernel_rfl) (fun K hK => ?_)
    go_big_quiet_op
    refine hK _ ?_; clear hK K
    refine Ord.ord_still rfl rfl (by kernel_rfl) (fun K hK => ?_)
    go_big_quiet_op
    refine hK _ ?_; clear hK K
    refine Ord.ord_still rfl rfl (by kernel_rfl) (fun K hK => ?_)
    go_big_quiet_op
    refine hK _ ?_; clear hK K
    refine Ord.ord_still rfl rfl (by kernel_rfl) (fun K hK => ?_)
    go_big_quiet_op
    refine hK _ ?_; clear hK K
    refine Ord.ord_still rfl rfl (by kernel_rfl) (fun K hK => ?_)
    go_big_quiet_op
    refine hK _ ?_; clear hK K
    refine Ord.ord_loud rfl (by kernel_rfl) (fun K hK => ?_)
    go_big_op
    refine (wire_Size x hx.1 hx.2 _).mono ?_
    rintro e w12 ⟨rfl, rfl⟩
    refine hK _ _ (Ord.Grew.refl _) ?_
    clear hK K
    refine Ord.ord_loud rfl (by kernel_rfl) (fun K hK => ?_)
    go_big_op
    refine (ref_Uint x hx.1 hx.2 _).mono ?_
    rintro e w14 ⟨v14, rfl, ho14, hb14⟩
    have hs14 := str_later ho14 (by omega)
    have hn14 := len_own ho14 (by omega)
    replace hR := hR.later hb14 (Nat.le_refl _)
    replace hbel := hbel.trans (hb14.mono hbel.size)
    clear ho14
    refine hK _ _ hb14 ?_
    clear hb14
    clear hK K
    refine Ord.ord_still rfl rfl (by kernel_rfl) (fun K hK => ?_)
    go_big_quiet_op
    refine hK _ ?_; clear hK K
    refine Ord.ord_still rfl rfl (by kernel_rfl) (fun K hK => ?_)
    go_big_quiet_op
    refine hK _ ?_; clear hK K
    refine Ord.ord_still rfl rfl (by kernel_rfl) (fun K hK => ?_)
    go_big_quiet_op
    refine hK _ ?_; clear hK K
    refine Ord.ord_still rfl rfl (by kernel_rfl) (fun K hK => ?_)
    go_big_quiet_op
    refine hK _ ?_; clear hK K
    refine Ord.ord_still rfl rfl (by kernel_rfl) (fun K hK => ?_)
    go_big_quiet_op
    refine hK _ ?_; clear hK K
    refine Ord.ord_still rfl rfl (by kernel_rfl) (fun K hK => ?_)
    go_big_quiet_op
    refine hK _ ?_; clear hK K
    refine Ord.ord_loud rfl (by kernel_rfl) (fun K hK => ?_)
    go_big_op
    refine (wire_Int y hy.1 hy.2 _).mono ?_
    rintro e w20 ⟨v20, rfl, ho20, hb20⟩
    have hs20 := str_later ho20 (by omega)
    have hn20 := len_own ho20 (by omega)
    replace hR := hR.later hb20 (Nat.le_refl _)
    replace hbel := hbel.trans (hb20.mono hbel.size)
    clear ho20
    refine hK _ _ hb20 ?_
    clear hb20
    clear hK K
    refine Ord.ord_still rfl rfl (by kernel_rfl) (fun K hK => ?_)
    go_big_quiet_op
    refine hK _ ?_; clear hK K
    refine Ord.ord_loud rfl (by kernel_rfl) (fun K hK => ?_)
    go_big_op
    refine (ref_Int y hy.1 hy.2 _).mono ?_
    rintro e w23 ⟨v23, rfl, ho23, hb23⟩
    have hs23 := str_later ho23 (by omega)
    have hn23 := len_own ho23 (by omega)
    replace hR := hR.later hb23 (Nat.le_refl _)
    replace hbel := hbel.trans (hb23.mono hbel.size)
    clear ho23
    refine hK _ _ hb23 ?_
    clear hb23
    clear hK K
    refine Ord.ord_still rfl rfl (by kernel_rfl) (fun K hK => ?_)
    go_big_quiet_op
    refine hK _ ?_; clear hK K
    refine Ord.ord_still rfl rfl (by kernel_rfl) (fun K hK => ?_)
    go_big_quiet_op
    refine hK _ ?_; clear hK K
    refine Ord.ord_still rfl rfl (by kernel_rfl) (fun K hK => ?_)
    go_big_quiet_op
    refine hK _ ?_; clear hK K
    refine Ord.ord_still rfl rfl (by kernel_rfl) (fun K hK => ?_)
    go_big_quiet_op
    refine hK _ ?_; clear hK K
    refine Ord.ord_still rfl rfl (by kernel_rfl) (fun K hK => ?_)
    go_big_quiet_op
    refine hK _ ?_; clear hK K
    refine Ord.ord_still rfl rfl (by kernel_rfl) (fun K hK => ?_)
    go_big_quiet_op
    refine hK _ ?_; clear hK K
    refine Ord.ord_loud rfl (by kernel_rfl) (fun K hK => ?_)
    go_big_op
    refine (wire_Bytes _ _ _ hR).mono ?_
    rintro e w29 ⟨v29, rfl, ho29, hb29⟩
    have hs29 := str_later ho29 (by omega)
    have hn29 := len_own ho29 (by omega)
    replace hR := hR.later hb29 (Nat.le_refl _)
    replace hbel := hbel.trans (hb29.mono hbel.size)
    clear ho29
    refine hK _ _ hb29 ?_
    clear hb29
    clear hK K
    refine Ord.ord_still rfl rfl (by kernel_rfl) (fun K hK => ?_)
    go_big_quiet_op
    refine hK _ ?_; clear hK K
    refine Ord.ord_loud rfl (by kernel_rfl) (fun K hK => ?_)
    go_big_op
    refine (ref_Bytes _ _ _ hR).mono ?_
    rintro e w32 ⟨v32, rfl, ho32, hb32⟩
    have hs32 := str_later ho32 (by omega)
    have hn32 := len_own ho32 (by omega)
    replace hR := hR.later hb32 (Nat.le_refl _)
    replace hbel := hbel.trans (hb32.mono hbel.size)
    clear ho32
    refine hK _ _ hb32 ?_
    clear hb32
    clear hK K
    refine Ord.ord_still rfl rfl (by kernel_rfl) (fun K hK => ?_)
    go_big_quiet_op
    refine hK _ ?_; clear hK K
    refine Ord.ord_still rfl rfl (by kernel_rfl) (fun K hK => ?_)
    go_big_quiet_op
    refine hK _ ?_; clear hK K
    refine Ord.ord_still rfl rfl (by kernel_rfl) (fun K hK => ?_)
    go_big_quiet_op
    refine hK _ ?_; clear hK K
    refine Ord.ord_still rfl rfl (by kernel_rfl) (fun K hK => ?_)
    go_big_quiet_op
    refine hK _ ?_; clear hK K
    refine Ord.ord_still rfl rfl (by kernel_rfl) (fun K hK => ?_)
    go_big_quiet_op
    refine hK _ ?_; clear hK K
    refine Ord.ord_still rfl rfl (by kernel_rfl) (fun K hK => ?_)
    go_big_quiet_op
    refine hK _ ?_; clear hK K
    refine Ord.ord_loud rfl (by kernel_rfl) (fun K hK => ?_)
    go_big_op
    refine (wire_Zig y hy.1 hy.2 _).mono ?_
    rintro e w38 ⟨rfl, rfl⟩
    refine hK _ _ (Ord.Grew.refl _) ?_
    clear hK K
    refine Ord.ord_loud rfl (by kernel_rfl) (fun K hK => ?_)
    go_big_op
    refine (ref_Zig y hy.1 hy.2 _).mono ?_
    rintro e w40 ⟨rfl, rfl⟩
    refine hK _ _ (Ord.Grew.refl _) ?_
    clear hK K
    refine Ord.ord_still rfl rfl (by kernel_rfl) (fun K hK => ?_)
    go_big_quiet_op
    refine hK _ ?_; clear hK K
    refine Ord.ord_still rfl rfl (by kernel_rfl) (fun K hK => ?_)
    go_big_quiet_op
    refine hK _ ?_; clear hK K
    refine Ord.ord_still rfl rfl (by kernel_rfl) (fun K hK => ?_)
    go_big_quiet_op
    refine hK _ ?_; clear hK K
    refine Ord.ord_still rfl rfl (by kernel_rfl) (fun K hK => ?_)
    go_big_quiet_op
    refine hK _ ?_; clear hK K
    refine Ord.ord_still rfl rfl (by kernel_rfl) (fun K hK => ?_)
    go_big_quiet_op
    refine hK _ ?_; clear hK K
    refine Ord.ord_loud rfl (by kernel_rfl) (fun K hK => ?_)
    go_big_op
    refine (wire_Zag x hx.1 hx.2 _).mono ?_
    rintro e w45 ⟨rfl, rfl⟩
    refine hK _ _ (Ord.Grew.refl _) ?_
    clear hK K
    refine Ord.ord_loud rfl (by kernel_rfl) (fun K hK => ?_)
    go_big_op
    refine (ref_Zag x hx.1 hx.2 _).mono ?_
    rintro e w47 ⟨rfl, rfl⟩
    refine hK _ _ (Ord.Grew.refl _) ?_
    clear hK K
    refine Ord.ord_still rfl rfl (by kernel_rfl) (fun K hK => ?_)
    go_big_quiet_op
    refine hK _ ?_; clear hK K
    refine Ord.ord_still rfl rfl (by kernel_rfl) (fun K hK => ?_)
    go_big_quiet_op
    refine hK _ ?_; clear hK K
    refine Ord.ord_still rfl rfl (by kernel_rfl) (fun K hK => ?_)
    go_big_quiet_op
    refine hK _ ?_; clear hK K
    simp only [Ord.wpOrd]
    go_wp2
    go_ret
    exact ⟨rfl, hbel⟩

end Go.Proofs.Ytbnonbpdihglaaa
