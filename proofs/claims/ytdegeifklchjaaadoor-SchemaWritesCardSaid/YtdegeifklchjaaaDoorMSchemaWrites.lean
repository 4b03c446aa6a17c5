/-
  Layer 5's law: its example, and whether columns are too many.
-/
import Derived.Test.YtdegeifklchjaaaDoorSchParse
import Derived.Test.YtdegeifklchjaaaDoorSchWrite
import Derived.Test.YtdegeifklchjaaaDoorSchRefWrite
import Derived.Test.YtdegeifklchjaaaDoorSchRefText
import Derived.Test.YtdegeifklchjaaaDoorSchText
import Derived.Test.YtdegeifklchjaaaDoorSchSame
import Derived.Test.YtdegeifklchjaaaDoorSchRefCheck
import Derived.Test.YtdegeifklchjaaaDoorLater
import Derived.Test.YtdegeifklchjaaaDoorLawKit
import Derived.Lib.LaidU8T
import Derived.PinnedBridge
import Derived.Lay
import Derived.Handed
import Derived.OpenVars
import Derived.ShapedOpen
import Derived.Shelf.Vars
import Derived.Lib.SmallJoins
import Derived.Deep.Slices
import Derived.Test.YtdegeifklchjaaaDoorTie
import Derived.Test.YtdegeifklchjaaaDoorCards
import Derived.LaidOnce
import Derived.SevenTiedAt
set_option linter.unusedVariables false
set_option linter.unusedSimpArgs false
set_option maxRecDepth 1000000
namespace Go.Proofs.YtdegeifklchjaaaDoor
open Go.RowKit Go.Shelf

/-- The example's text. -/
def exT : List UInt8 := [105, 100, 58, 105, 110, 116, 44, 110, 97, 109, 101, 58, 116, 101, 120, 116]
def exC : List Col := [([105, 100], 0), ([110, 97, 109, 101], 4)]
theorem exC_fine : errS exC = 0 := by decide +kernel
theorem exC_bytes : wrS exC = [2, 2, 105, 100, 0, 4, 110, 97, 109, 101, 4] := by decide +kernel
theorem exT_parts : prParts (cutL 44 exT) = some exC := by
  have e : cutL 44 exT = [[105, 100, 58, 105, 110, 116], [110, 97, 109, 101, 58, 116, 101, 120, 116]] := by decide +kernel
  rw [e]
  have h1 : prPart [105, 100, 58, 105, 110, 116] = some ([105, 100], 0) := by
    rw [prPart_cut, show Lib.cut [105, 100, 58, 105, 110, 116] [58] = ([105, 100], [105, 110, 116], true) by decide +kernel]
    dsimp only
    rw [kindI_eq]; rfl
  have h2 : prPart [110, 97, 109, 101, 58, 116, 101, 120, 116] = some ([110, 97, 109, 101], 4) := by
    rw [prPart_cut, show Lib.cut [110, 97, 109, 101, 58, 116, 101, 120, 116] [58] = ([110, 97, 109, 101], [116, 101, 120, 116], true) by decide +kernel]
    dsimp only
    rw [kindI_eq]; rfl
  rw [prParts, h1]; dsimp only
  rw [prParts, h2]; dsimp only
  rfl
theorem exT_pr : prS exT = (exC, 0) := by
  unfold prS
  rw [exT_parts]
  exact if_pos exC_fine

set_option maxHeartbeats 4000000 in
theorem law05_alive (w : World) (hT : Tabs w) (hX : Mx w) :
    Calls Tryd.prog 8 #[] w fun e w' => e = .returned (.bool true) ∧ Below w.heap.size w w' := by
  have hS : RdS ({ data := #[105, 100, 58, 105, 110, 116, 44, 110, 97, 109, 101, 58, 116, 101, 120, 116] } : ByteArray) exT := ⟨rfl, by unfold exT; simp⟩
  have HP := Lib.hid (schema_Parse _ exT w hS (by unfold exT; simp) hT hX)
  have HT := Lib.hid hT
  clear hS hX hT
  go_enter Tryd.func8, Tryd.ntmps8
  go_wp2_with fail
  refine HP.out.mono ?_
  rintro e w1 ⟨hb1, tv, cs, rfl, hO, hC, hl8, hcs⟩
  rw [exT_pr] at hcs
  rw [exT_pr]
  dsimp only at hcs ⊢
  have HW := schema_Write tv cs w1 (hO.rd (by omega)) hC (HT.out.later hb1)
  rw [hcs] at HW
  have HW := Lib.hid HW
  have HB1 := Lib.hid hb1
  clear hb1 hO hC hl8 hcs HP HT
  go_wp2_with fail
  refine HW.out.mono ?_
  rintro e w2 ⟨bv, rfl, hb2, hres⟩
  rw [exC_fine] at hres
  rw [exC_fine]
  rw [exC_bytes] at hres
  rcases hres with ⟨h, _⟩ | ⟨_, hO⟩
  · exact absurd rfl h
  have HB2 := Lib.hid (HB1.out.trans (hb2.mono HB1.out.size))
  have hR := hO.rd (by decide)
  have HR := Lib.hid hR
  clear hb2 hO HW
  have hstr := HR.out.str
  go_wp2
  go_ret
  exact ⟨rfl, HB2.out⟩

set_option maxHeartbeats 4000000 in
theorem law05_great (v : Value) (cs : List ColB) (w : World) (h : RdC w v cs) (hC : CS cs) :
    Calls Tryd.prog 9 #[v] w fun e w' => ∃ b, e = .returned (.bool b) ∧ Below w.heap.size w w' := by
  have hlen := h.len
  have hsm := h.small
  have HH := Lib.hid h
  obtain ⟨n, hn⟩ : ∃ n, n = cs.length := ⟨_, rfl⟩
  rw [← hn] at hlen hsm
  have HN := Lib.hid hn
  clear h hn
  go_enter Tryd.func9, Tryd.ntmps9
  go_wp2
  go_loopw [3, 8] (fun a i wr => ∃ (k : Nat) (x : Int), k ≤ n ∧ i = .int .i64 k ∧ a = .int .i64 x ∧ Hid (Below w.heap.size w wr)) (fun _ i _ => n - (intOf i).toNat)
  case atStart => exact ⟨0, 0, by omega, rfl, rfl, Lib.hid (Below.refl _ _)⟩
  case round =>
    obtain ⟨k, x, hk, rfl, rfl, HB⟩ := hrel
    by_cases hlt : k < n
    · have hr := HH.out.later HB.out (Nat.le_refl _)
      have hl2 : k < cs.length := by rw [← HN.out]; exact hlt
      obtain ⟨b, o, hidx, hcell, hblk⟩ := hr.get hl2
      obtain ⟨hc0, hc1⟩ := hcell _ hr
      obtain ⟨hs1, hk1, hk2⟩ := hC.get hl2
      rcases hcg : cs.getD k default with ⟨s, kd⟩
      rw [hcg] at hc0 hc1 hs1 hk1 hk2
      dsimp only at hc0 hc1 hs1 hk1 hk2
      have HB1 := Lib.hid (HB.out.alloc HB.out.size (.cells #[.string s, .int .i64 kd] 51))
      clear hr hcell hcg hl2 hblk
      go_wp2
      go_roundw
      case rel => exact ⟨k + 1, _, by omega, by go_num, rfl, HB1⟩
      case measure => simp [intOf]; omega
    · obtain rfl : k = n := by omega
      clear hlt
      go_wp2
      go_ret
      exact ⟨_, rfl, HB.out⟩

end Go.Proofs.YtdegeifklchjaaaDoor


/-
  SchemaWrites: the law's own walk.
-/
namespace Go.Proofs.YtdegeifklchjaaaDoor
open Go.RowKit Go.Shelf

theorem rdS_same' {s t : ByteArray} {l : List UInt8} (h : RdS s l) (h2 : RdS t l) : s = t := h.eq.trans h2.eq.symm

set_option maxHeartbeats 8000000 in
theorem schemaWrites_walk (v : Value) (cs : List ColB) (u : Value) (ds : List ColB) (w : World) (hR1 : RdC w v cs) (hC1 : CS cs) (hR2 : RdC w u ds) (hC2 : CS ds) (hT : Tabs w) (hX : Mx w) :
    Calls Tryd.prog 3 #[v, u] w fun e w' => e = .returned (.bool true) ∧ Below w.heap.size w w' := by
  have HT := Lib.hid hT
  have HX := Lib.hid hX
  have R1 := Lib.hid (fun wz (hz : Below w.heap.size w wz) => hR1.later hz (Nat.le_refl _))
  have R2 := Lib.hid (fun wz (hz : Below w.heap.size w wz) => hR2.later hz (Nat.le_refl _))
  have C1 := Lib.hid hC1
  have C2 := Lib.hid hC2
  obtain ⟨y, hy⟩ : ∃ y, y = decide (cs = ds) := ⟨_, rfl⟩
  have SS := Lib.hid (fun wz (hz : Below w.heap.size w wz) => (show Calls Tryd.prog 15 #[v, u] wz fun e w' => e = .returned (.bool y) ∧ Below wz.heap.size wz w' from by rw [hy]; exact schema_Same v u cs ds wz (R1.out wz hz) (R2.out wz hz)))
  have RS := Lib.hid (fun wz (hz : Below w.heap.size w wz) => (show Calls Tryd.prog 16 #[v, u] wz fun e w' => e = .returned (.bool y) ∧ Below wz.heap.size wz w' from by rw [hy]; exact ref_Same v u cs ds wz (R1.out wz hz) (R2.out wz hz)))
  have SO := Lib.hid (fun wz (hz : Below w.heap.size w wz) => (show Calls Tryd.prog 15 #[v, v] wz fun e w' => e = .returned (.bool true) ∧ Below wz.heap.size wz w' from by have := schema_Same v v cs cs wz (R1.out wz hz) (R1.out wz hz); rwa [decide_eq_true rfl] at this))
  clear hT hX hR1 hR2 hC1 hC2 hy
  by_cases h0 : errS (colsL cs) = 0
  · obtain ⟨L, hL⟩ : ∃ L, L = wrS (colsL cs) := ⟨_, rfl⟩
    obtain ⟨p, hp⟩ : ∃ p : Int, p = (Crc.sum (wrS (colsL cs)) : Nat) := ⟨_, rfl⟩
    have hLz : L.length ≤ 140737488351232 := by rw [hL]; have := wrS_small h0; omega
    have SW := Lib.hid (fun wz (hz : Below w.heap.size w wz) => (show Calls Tryd.prog 10 #[v] wz fun e w' => ∃ bv, e = .returned (.tuple #[bv, .int .i64 0]) ∧ Below wz.heap.size wz w' ∧ Own w' wz.heap.size bv L from by
      refine (schema_Write v cs wz (R1.out wz hz) C1.out (HT.out.later hz)).mono ?_
      rintro e w' ⟨bv, rfl, hb, ⟨h, _⟩ | ⟨_, hO⟩⟩
      · exact absurd h0 h
      · rw [h0]; exact ⟨bv, rfl, hb, by rw [hL]; exact hO⟩))
    have SP := Lib.hid (fun wz (hz : Below w.heap.size w wz) => (show Calls Tryd.prog 11 #[v] wz fun e w' => e = .returned (.tuple #[.int .u32 p, .int .i64 0]) ∧ Below wz.heap.size wz w' from by
      refine (schema_Print v cs wz (R1.out wz hz) C1.out (HT.out.later hz)).mono ?_
      rintro e w' ⟨rfl, hb⟩
      rw [if_pos h0, h0, hp]; exact ⟨rfl, hb⟩))
    obtain ⟨tx, htx⟩ : ∃ tx : ByteArray, tx = ⟨(txS (colsL cs)).toArray⟩ := ⟨_, rfl⟩
    have ST := Lib.hid (fun wz (hz : Below w.heap.size w wz) => (show Calls Tryd.prog 12 #[v] wz fun e w' => e = .returned (.tuple #[.string tx, .int .i64 0]) ∧ Below wz.heap.size wz w' from by
      refine (schema_Text v cs wz (R1.out wz hz) C1.out (HT.out.later hz)).mono ?_
      rintro e w' ⟨t, rfl, hb, ⟨h, _⟩ | ⟨_, ht⟩⟩
      · exact absurd h0 h
      · rw [h0, htx, ← ht.eq]; exact ⟨rfl, hb⟩))
    have SC := Lib.hid (fun wz (hz : Below w.heap.size w wz) => (show Calls Tryd.prog 14 #[v] wz fun e w' => e = .returned (.int .i64 0) ∧ Below wz.heap.size wz w' from by
      have := schema_Check v cs wz (R1.out wz hz) C1.out (HT.out.later hz); rwa [h0] at this))
    have RC := Lib.hid (fun wz (hz : Below w.heap.size w wz) => (show Calls Tryd.prog 13 #[v] wz fun e w' => e = .returned (.int .i64 0) ∧ Below wz.heap.size wz w' from by
      have := ref_Check05 v cs wz (R1.out wz hz) C1.out; rwa [h0] at this))
    have RW := Lib.hid (fun wz (hz : Below w.heap.size w wz) => (show Calls Tryd.prog 17 #[v] wz (RetB wz L) from by
      rw [hL]; exact ref_Write05 v cs wz (R1.out wz hz) C1.out h0))
    have RP := Lib.hid (fun wz (hz : Below w.heap.size w wz) => (show Calls Tryd.prog 18 #[v] wz fun e w' => e = .returned (.int .u32 p) ∧ Below wz.heap.size wz w' from by
      rw [hp]; exact ref_Print05 v cs wz (R1.out wz hz) C1.out h0))
    have RT := Lib.hid (fun wz (hz : Below w.heap.size w wz) => (show Calls Tryd.prog 19 #[v] wz fun e w' => e = .returned (.string tx) ∧ Below wz.heap.size wz w' from by
      refine (ref_Text05 v cs wz (R1.out wz hz) h0).mono ?_
      rintro e w' ⟨⟨t, rfl, ht⟩, hb⟩
      rw [htx, ← ht.eq]; exact ⟨rfl, hb⟩))
    clear hL hp htx h0
    go_enter Tryd.func3, Tryd.ntmps3
    go_wp2_with fail
    refine (law05_alive w HT.out HX.out).mono ?_
    rintro e w1 ⟨rfl, hb⟩
    have HB1 := Lib.hid hb
    clear hb
    go_wp2_with fail
    refine (law05_great v cs w1 (R1.out _ HB1.out) C1.out).mono ?_
    rintro e w2 ⟨g1, rfl, hb⟩
    have HB2 := Lib.hid (HB1.out.trans (hb.mono HB1.out.size))
    clear hb
    rcases g1 with _ | _
    rotate_left
    · go_wp2_with fail
      refine (law05_alive w2 (HT.out.later HB2.out) (HX.out.later HB2.out (Nat.le_refl _))).mono ?_
      rintro e wz ⟨rfl, hb⟩
      have HBz := Lib.hid (HB2.out.trans (hb.mono HB2.out.size))
      clear hb
      go_wp2
      go_ret
      exact ⟨rfl, HBz.out⟩
    go_wp2_with fail
    refine (law05_great u ds w2 (R2.out _ HB2.out) C2.out).mono ?_
    rintro e w3 ⟨g2, rfl, hb⟩
    have HB3 := Lib.hid (HB2.out.trans (hb.mono HB2.out.size))
    clear hb
    rcases g2 with _ | _
    rotate_left
    · go_wp2_with fail
      refine (law05_alive w3 (HT.out.later HB3.out) (HX.out.later HB3.out (Nat.le_refl _))).mono ?_
      rintro e wz ⟨rfl, hb⟩
      have HBz := Lib.hid (HB3.out.trans (hb.mono HB3.out.size))
      clear hb
      go_wp2
      go_ret
      exact ⟨rfl, HBz.out⟩
    go_wp2_with fail
    refine (SW.out _ HB3.out).mono ?_
    rintro e w4 ⟨bv, rfl, hb, hO⟩
    have HB4 := Lib.hid (HB3.out.trans (hb.mono HB3.out.size))
    have HO4 := Lib.hid hO
    clear hO
    clear hb
    go_wp2_with fail
    refine (SP.out _ HB4.out).mono ?_
    rintro e w5 ⟨rfl, hb⟩
    have HB5 := Lib.hid (HB4.out.trans (hb.mono HB4.out.size))
    have HO5 := Lib.hid (HO4.out.later hb (Nat.le_refl _))
    clear HO4
    clear hb
    go_wp2_with fail
    refine (ST.out _ HB5.out).mono ?_
    rintro e w6 ⟨rfl, hb⟩
    have HB6 := Lib.hid (HB5.out.trans (hb.mono HB5.out.size))
    have HO6 := Lib.hid (HO5.out.later hb (Nat.le_refl _))
    clear HO5
    clear hb
    go_wp2_with fail
    refine (RC.out _ HB6.out).mono ?_
    rintro e w7 ⟨rfl, hb⟩
    have HB7 := Lib.hid (HB6.out.trans (hb.mono HB6.out.size))
    have HO7 := Lib.hid (HO6.out.later hb (Nat.le_refl _))
    clear HO6
    clear hb
    go_wp2_with fail
    refine (SC.out _ HB7.out).mono ?_
    rintro e w8 ⟨rfl, hb⟩
    have HB8 := Lib.hid (HB7.out.trans (hb.mono HB7.out.size))
    have HO8 := Lib.hid (HO7.out.later hb (Nat.le_refl _))
    clear HO7
    clear hb
    go_wp2_with fail
    refine (SS.out _ HB8.out).mono ?_
    rintro e w9 ⟨rfl, hb⟩
    have HB9 := Lib.hid (HB8.out.trans (hb.mono HB8.out.size))
    have HO9 := Lib.hid (HO8.out.later hb (Nat.le_refl _))
    clear HO8
    clear hb
    go_wp2_with fail
    refine (RS.out _ HB9.out).mono ?_
    rintro e w10 ⟨rfl, hb⟩
    have HB10 := Lib.hid (HB9.out.trans (hb.mono HB9.out.size))
    have HO10 := Lib.hid (HO9.out.later hb (Nat.le_refl _))
    clear HO9
    clear hb
    go_wp2_with fail
    refine (SO.out _ HB10.out).mono ?_
    rintro e w11 ⟨rfl, hb⟩
    have HB11 := Lib.hid (HB10.out.trans (hb.mono HB10.out.size))
    have HO11 := Lib.hid (HO10.out.later hb (Nat.le_refl _))
    clear HO10
    clear hb
    have hs1 := Rd.str_later ((HO11.out.rd (by omega)).drew)
    have HB9 := Lib.hid HB11.out.drew
    clear HO11 SW SP ST RC SC SS RS SO
    go_wp2_with fail
    refine Ord.wp_region_ord [(0, false), (1, false), (2, false), (3, true), (4, false), (5, false), (6, false), (7, false), (8, false), (9, true), (10, false), (11, false), (12, false), (13, false), (14, false), (15, true), (16, false), (17, false), (18, false)] (by kernel_rfl) rfl (by kernel_rfl) (by kernel_rfl) (fun _ _ _ d _ h => by cases d <;> exact h) ?_
    refine Ord.ord_still rfl rfl (by kernel_rfl) (fun K hK => ?_)
    go_big_quiet_op
    refine hK _ ?_; clear hK K
    refine Ord.ord_still rfl rfl (by kernel_rfl) (fun K hK => ?_)
    go_big_quiet_op
    refine hK _ ?_; clear hK K
    refine Ord.ord_still rfl rfl (by kernel_rfl) (fun K hK => ?_)
    go_big_quiet_op
    refine hK _ ?_; clear hK K
    refine Ord.ord_loud rfl (by kernel_rfl) (fun K hK => ?_)
    go_big_op
    refine (RW.out _ HB9.out).mono ?_
    rintro e wa ⟨va, rfl, hOa, hba⟩
    have hsa := str_later hOa (by omega)
    have HBa := Lib.hid (HB9.out.trans (hba.mono HB9.out.size))
    clear hOa
    refine hK _ _ hba ?_
    clear hba
    clear hK K
    refine Ord.ord_still rfl rfl (by kernel_rfl) (fun K hK => ?_)
    go_big_quiet_op
    refine hK _ ?_; clear hK K
    refine Ord.ord_still rfl rfl (by kernel_rfl) (fun K hK => ?_)
    go_big_quiet_op
    refine hK _ ?_; clear hK K
    refine Ord.ord_still rfl rfl (by kernel_rfl) (fun K hK => ?_)
    go_big_quiet_op
    refine hK _ ?_; clear hK K
    refine Ord.ord_still rfl rfl (by kernel_rfl) (fun K hK => ?_)
    go_big_quiet_op
    refine hK _ ?_; clear hK K
    refine Ord.ord_still rfl rfl (by kernel_rfl) (fun K hK => ?_)
    go_big_quiet_op
    refine hK _ ?_; clear hK K
    refine Ord.ord_loud rfl (by kernel_rfl) (fun K hK => ?_)
    go_big_op
    refine (RP.out _ HBa.out).mono ?_
    rintro e wb ⟨rfl, hbb⟩
    have HBb := Lib.hid (HBa.out.trans (hbb.mono HBa.out.size))
    refine hK _ _ hbb ?_
    clear hbb
    clear hK K
    refine Ord.ord_still rfl rfl (by kernel_rfl) (fun K hK => ?_)
    go_big_quiet_op
    refine hK _ ?_; clear hK K
    refine Ord.ord_still rfl rfl (by kernel_rfl) (fun K hK => ?_)
    go_big_quiet_op
    refine hK _ ?_; clear hK K
    refine Ord.ord_still rfl rfl (by kernel_rfl) (fun K hK => ?_)
    go_big_quiet_op
    refine hK _ ?_; clear hK K
    refine Ord.ord_still rfl rfl (by kernel_rfl) (fun K hK => ?_)
    go_big_quiet_op
    refine hK _ ?_; clear hK K
    refine Ord.ord_still rfl rfl (by kernel_rfl) (fun K hK => ?_)
    go_big_quiet_op
    refine hK _ ?_; clear hK K
    refine Ord.ord_loud rfl (by kernel_rfl) (fun K hK => ?_)
    go_big_op
    refine (RT.out _ HBb.out).mono ?_
    rintro e wc ⟨rfl, hbc⟩
    have HBc := Lib.hid (HBb.out.trans (hbc.mono HBb.out.size))
    refine hK _ _ hbc ?_
    clear hbc
    clear hK K
    refine Ord.ord_still rfl rfl (by kernel_rfl) (fun K hK => ?_)
    go_big_quiet_op
    refine hK _ ?_; clear hK K
    refine Ord.ord_still rfl rfl (by kernel_rfl) (fun K hK => ?_)
    go_big_quiet_op
    refine hK _ ?_; clear hK K
    refine Ord.ord_still rfl rfl (by kernel_rfl) (fun K hK => ?_)
    go_big_quiet_op
    refine hK _ ?_; clear hK K
    refine Ord.ord_nil ?_
    go_wp2
    go_ret
    exact ⟨rfl, HBc.out⟩
  · obtain ⟨x, hx⟩ : ∃ x, x = errS (colsL cs) := ⟨_, rfl⟩
    rw [← hx] at h0
    have q0 : ((x : Int) != 0) = true := by rw [bne_iff_ne]; omega
    have SW := Lib.hid (fun wz (hz : Below w.heap.size w wz) => (show Calls Tryd.prog 10 #[v] wz fun e w' => e = .returned (.tuple #[.slice none 0 0, .int .i64 (x : Int)]) ∧ Below wz.heap.size wz w' from by
      refine (schema_Write v cs wz (R1.out wz hz) C1.out (HT.out.later hz)).mono ?_
      rintro e w' ⟨bv, rfl, hb, ⟨_, rfl⟩ | ⟨h, _⟩⟩
      · rw [← hx]; exact ⟨rfl, hb⟩
      · exact absurd (hx.trans h) h0))
    have SP := Lib.hid (fun wz (hz : Below w.heap.size w wz) => (show Calls Tryd.prog 11 #[v] wz fun e w' => e = .returned (.tuple #[.int .u32 0, .int .i64 (x : Int)]) ∧ Below wz.heap.size wz w' from by
      refine (schema_Print v cs wz (R1.out wz hz) C1.out (HT.out.later hz)).mono ?_
      rintro e w' ⟨rfl, hb⟩
      rw [if_neg (by rw [← hx]; exact h0), ← hx]; exact ⟨rfl, hb⟩))
    have ST := Lib.hid (fun wz (hz : Below w.heap.size w wz) => (show Calls Tryd.prog 12 #[v] wz fun e w' => e = .returned (.tuple #[.string ⟨#[]⟩, .int .i64 (x : Int)]) ∧ Below wz.heap.size wz w' from by
      refine (schema_Text v cs wz (R1.out wz hz) C1.out (HT.out.later hz)).mono ?_
      rintro e w' ⟨t, rfl, hb, ⟨_, rfl⟩ | ⟨h, _⟩⟩
      · rw [← hx]; exact ⟨rfl, hb⟩
      · exact absurd (hx.trans h) h0))
    have SC := Lib.hid (fun wz (hz : Below w.heap.size w wz) => (show Calls Tryd.prog 14 #[v] wz fun e w' => e = .returned (.int .i64 (x : Int)) ∧ Below wz.heap.size wz w' from by
      rw [hx]; exact schema_Check v cs wz (R1.out wz hz) C1.out (HT.out.later hz)))
    have RC := Lib.hid (fun wz (hz : Below w.heap.size w wz) => (show Calls Tryd.prog 13 #[v] wz fun e w' => e = .returned (.int .i64 (x : Int)) ∧ Below wz.heap.size wz w' from by
      rw [hx]; exact ref_Check05 v cs wz (R1.out wz hz) C1.out))
    clear hx h0
    go_enter Tryd.func3, Tryd.ntmps3
    go_wp2_with fail
    refine (law05_alive w HT.out HX.out).mono ?_
    rintro e w1 ⟨rfl, hb⟩
    have HB1 := Lib.hid hb
    clear hb
    go_wp2_with fail
    refine (law05_great v cs w1 (R1.out _ HB1.out) C1.out).mono ?_
    rintro e w2 ⟨g1, rfl, hb⟩
    have HB2 := Lib.hid (HB1.out.trans (hb.mono HB1.out.size))
    clear hb
    rcases g1 with _ | _
    rotate_left
    · go_wp2_with fail
      refine (law05_alive w2 (HT.out.later HB2.out) (HX.out.later HB2.out (Nat.le_refl _))).mono ?_
      rintro e wz ⟨rfl, hb⟩
      have HBz := Lib.hid (HB2.out.trans (hb.mono HB2.out.size))
      clear hb
      go_wp2
      go_ret
      exact ⟨rfl, HBz.out⟩
    go_wp2_with fail
    refine (law05_great u ds w2 (R2.out _ HB2.out) C2.out).mono ?_
    rintro e w3 ⟨g2, rfl, hb⟩
    have HB3 := Lib.hid (HB2.out.trans (hb.mono HB2.out.size))
    clear hb
    rcases g2 with _ | _
    rotate_left
    · go_wp2_with fail
      refine (law05_alive w3 (HT.out.later HB3.out) (HX.out.later HB3.out (Nat.le_refl _))).mono ?_
      rintro e wz ⟨rfl, hb⟩
      have HBz := Lib.hid (HB3.out.trans (hb.mono HB3.out.size))
      clear hb
      go_wp2
      go_ret
      exact ⟨rfl, HBz.out⟩
    go_wp2_with fail
    refine (SW.out _ HB3.out).mono ?_
    rintro e w4 ⟨rfl, hb⟩
    have HB4 := Lib.hid (HB3.out.trans (hb.mono HB3.out.size))
    clear hb
    go_wp2_with fail
    refine (SP.out _ HB4.out).mono ?_
    rintro e w5 ⟨rfl, hb⟩
    have HB5 := Lib.hid (HB4.out.trans (hb.mono HB4.out.size))
    clear hb
    go_wp2_with fail
    refine (ST.out _ HB5.out).mono ?_
    rintro e w6 ⟨rfl, hb⟩
    have HB6 := Lib.hid (HB5.out.trans (hb.mono HB5.out.size))
    clear hb
    go_wp2_with fail
    refine (RC.out _ HB6.out).mono ?_
    rintro e w7 ⟨rfl, hb⟩
    have HB7 := Lib.hid (HB6.out.trans (hb.mono HB6.out.size))
    clear hb
    go_wp2_with fail
    refine (SC.out _ HB7.out).mono ?_
    rintro e w8 ⟨rfl, hb⟩
    have HB8 := Lib.hid (HB7.out.trans (hb.mono HB7.out.size))
    clear hb
    go_wp2_with fail
    refine (SS.out _ HB8.out).mono ?_
    rintro e w9 ⟨rfl, hb⟩
    have HB9 := Lib.hid (HB8.out.trans (hb.mono HB8.out.size))
    clear hb
    go_wp2_with fail
    refine (RS.out _ HB9.out).mono ?_
    rintro e w10 ⟨rfl, hb⟩
    have HB10 := Lib.hid (HB9.out.trans (hb.mono HB9.out.size))
    clear hb
    go_wp2_with fail
    refine (SO.out _ HB10.out).mono ?_
    rintro e w11 ⟨rfl, hb⟩
    have HB11 := Lib.hid (HB10.out.trans (hb.mono HB10.out.size))
    clear hb
    go_wp2
    go_ret
    exact ⟨rfl, HB11.out⟩

end Go.Proofs.YtdegeifklchjaaaDoor


/-
  What the frames of layer 5's laws want: the library's tables, as the row lists them; the library's number, out of the world's shape; a string, a slice of columns that came in.
-/
namespace Go.Proofs.YtdegeifklchjaaaDoor
open Go.ChangeShapes Go.WideShapes Go.ChangeAt Go.RowKit Go.Shelf

theorem u8Extra : U8Extra Tryd.prog Tryd.laysValid_ren := ⟨by kernel_rfl, by kernel_rfl, by kernel_rfl, by kernel_rfl, by kernel_rfl, by kernel_rfl, by kernel_rfl⟩
theorem accept_eq : (Rows.laid_unicode_utf8_acceptRanges : DataW Unit) = Lib.acceptData := by kernel_rfl
/-- The tables, out of what the row lists. -/
theorem tabs_of {W : World} (h1 : Lib.VarReads Tryd.prog W "unicode/utf8.first" Rows.laid_unicode_utf8_first) (h2 : Lib.VarReads Tryd.prog W "unicode/utf8.acceptRanges" Rows.laid_unicode_utf8_acceptRanges) : Tabs W :=
  utf8Tabs_of_readsT (U8Types.of196 Tryd.laysValid) u8Extra (Pinned.utf8First_eq ▸ h1) (accept_eq ▸ h2)
/-- The library's number, out of the world's shape. -/
theorem mx_of {W : World} (h : W.ShapedOpen Tryd.prog) : Mx W :=
  cell_of_shapedOpen_int (g := Tryd.laysSplit_ren.g 1) (t := 3) (zero := #[.int .i64 0]) h (of_decide_eq_true (by kernel_rfl)) (by kernel_rfl) rfl (by kernel_rfl) (by kernel_rfl) Tryd.underlying3

section
variable {H : Type} {enc : TypeId × Value → H} {W : World}

theorem str_open {base : Nat} {v : Value} {d : DataW H} {ps : List MemPlace} {ts : List TypeId} {ds : List (DataW H)} {j : Nat} (hval : Value.okWide Tryd.prog W .any base 9 v)
    (h : DataW.Trod enc Tryd.prog W 0 (fun _ => true) true 9 v d ps) (hz : (DataW.weightsEach Tryd.prog ts ds).all (· ≤ reachBytes) = true) (ht : ts[j]? = some 9) (hd : ds[j]? = some d) : ∃ (s : ByteArray) (l : List UInt8), v = .string s ∧ RdS s l := by
  obtain ⟨s, rfl, rfl, rfl, hs⟩ := Go.ChangeMaps.open_string Tryd.underlying9 hval h
  have := sized_string hz ht hd
  exact ⟨s, _, rfl, ⟨rfl, by simpa [reachBytes] using this⟩⟩

/-- A law's frame that hands on the world's shape, beside what the row lists. -/
theorem returns_shaped {a : Assume} {C : Checked} {os : Os} {f : FuncId} {fn : Func} {s : ChangeSpec} {conds : List PathCond} {apart fresh handsOn again : Bool} {X : World → Array Value → Prop}
    (hX : ∀ (w w' : World) (args : Array Value), w.heap = w'.heap → X w args → X w' args)
    (own : ownKnob C.prog.godebug = none) (started : os.Started) (noInit : C.prog.inits.idxOf? f = none) (hfn : C.prog.funcs[f]? = some fn)
    (witness : ∃ (w : World) (tape : Tape) (i : Input), w.os = os ∧ (w.forCall tape i).Shaped C.prog ∧ i.vars = [] ∧ Input.okWide C.prog (w.forCall tape i) .any w.heap.size f i ∧
      ((s.pre enc C.prog fn conds apart (w.forCall tape i).memory i.args ∧ X (w.forCall tape i).memory i.args) ∧ sizedMet enc C.prog fn (OpenSpec.ofChange s) apart (w.forCall tape i).memory i.args) ∧ a.holds C.prog (lone (Frame.enter C.prog f i.args .normal) [] (w.forCall tape i)))
    (contract : ∀ (W : World) (base : Nat) (args : Array Value) (ds gs : List (DataW H)) (before : List MemPlace),
      (∀ (j : Nat) t v, fn.params[j]? = some t → args[j]? = some v → Value.okWide C.prog W .any base t v) →
      DataW.Whole enc C.prog fn.params.toList s.vars apart W args.toList ds gs before →
      (DataW.weightsEach C.prog (fn.params.toList ++ s.plain.varTypes C.prog) (ds ++ gs)).all (· ≤ reachBytes) = true → X W args → W.ShapedOpen C.prog →
      Calls C.prog f args W fun e W' => ∃ v, e = .returned v ∧ s.post enc C.prog fn apart fresh handsOn again W args v W') :
    ReturnsInHanded a C os f .any (fun w args => (s.pre enc C.prog fn conds apart w args ∧ X w args) ∧ sizedMet enc C.prog fn (OpenSpec.ofChange s) apart w args) (s.post enc C.prog fn apart fresh handsOn again) := by
  refine returnsInHanded_of_calls own started noInit witness ?_
  intro w tape i _ hsh _ hok hpre _
  obtain ⟨_, _, _, fn2, hf2, _, _, _, _, hval⟩ := hok
  obtain rfl : fn2 = fn := Option.some.inj (hf2.symm.trans hfn)
  obtain ⟨⟨⟨ds, gs, before, hw, _⟩, hx⟩, hz⟩ := hpre
  refine (contract (w.forCall tape i) w.heap.size i.args ds gs before hval (DataW.Whole.of_heap (w' := w.forCall tape i) (by rfl) hw) (hz.weights hw) (hX _ _ _ (by rfl) hx) hsh).mono fun e W' ⟨v, he, hp⟩ => ?_
  subst he
  exact ChangeSpec.post_blind hp
end

end Go.Proofs.YtdegeifklchjaaaDoor


/-
  A slice of columns that came in.
-/
namespace Go.Proofs.YtdegeifklchjaaaDoor
open Go.ChangeShapes Go.WideShapes Go.ChangeAt Go.RowKit Go.Shelf Go.Deep
section
variable {H : Type} {enc : TypeId × Value → H} {W : World}

theorem weights_mem_all5 {P : Program} {e : TypeId} {d : DataW H} {n : Nat} (hn : n ∈ d.weights P e) : ∀ {l : List (DataW H)}, d ∈ l → n ∈ DataW.weightsAll P e l
  | [], h => by simp at h
  | a :: r, h => by
    rw [DataW.weightsAll, List.mem_append]
    rcases List.mem_cons.1 h with rfl | h
    · exact .inl hn
    · exact .inr (weights_mem_all5 hn h)

theorem cells_column : Tryd.prog.cellsOf 51 = 2 := by kernel_rfl

theorem col_part {m : Nat} {cs : List Value} {x : DataW H × List MemPlace} (h : DataW.trod enc Tryd.prog W 0 (fun _ => true) true m 51 cs = some x) :
    ∃ (c : ColB), cs = colV c ∧ x.1 = .agg [.lit (.string c.1.data.toList), .lit (.int .i64 c.2)] ∧ -9223372036854775808 ≤ c.2 ∧ c.2 ≤ 9223372036854775807 := by
  obtain ⟨y0, y1, k, hx, hl, h0, h1⟩ := trod_struct2 Tryd.underlying51 h
  rw [cells_column] at hl
  match cs, hl with
  | [c0, c1], _ =>
    have k9 : Tryd.prog.cellsOf 3 = 1 := by kernel_rfl
    have k8 : Tryd.prog.cellsOf 9 = 1 := by kernel_rfl
    simp [k9, k8] at h0 h1
    obtain ⟨s, e2, e3, _⟩ := DataW.trod_string Tryd.underlying9 h0
    obtain ⟨a, e0, e1, wa⟩ := DataW.trod_int Tryd.underlying3 h1
    simp at e0 e2
    subst e0 e2
    have hb := bd_i64 wa
    exact ⟨(s, a), rfl, by rw [hx]; simp [e1, e3], hb.1, hb.2⟩

theorem cols_open {base : Nat} {v : Value} {d : DataW H} {ps : List MemPlace} {ts : List TypeId} {ds : List (DataW H)} {j : Nat} (hval : Value.okWide Tryd.prog W .any base 22 v)
    (h : DataW.Trod enc Tryd.prog W 0 (fun _ => true) true 22 v d ps) (hz : (DataW.weightsEach Tryd.prog ts ds).all (· ≤ reachBytes) = true) (ht : ts[j]? = some 22) (hd : ds[j]? = some d) : ∃ cs, RdC W v cs ∧ CS cs := by
  have hzd : ∀ n ∈ d.weights Tryd.prog 22, n ≤ reachBytes := fun n hn => by
    have := List.all_eq_true.1 hz _ (DataW.weights_mem_each ht hd n hn)
    simpa using this
  obtain ⟨a0, len, cap, rfl⟩ := okWide_slice Tryd.underlying22 hval
  obtain ⟨fuel, hf⟩ := h
  have hb1 : 1 ≤ Tryd.prog.bytesOf 51 := Nat.le_of_ble_eq_true (by kernel_rfl)
  rcases open_slice Tryd.underlying22 hf with ⟨hcs, _⟩ | ⟨x, l, c, m, n, D, Pl, hcs, _, hl, hm, hmm, hx, hcell⟩
  · simp [Value.cells] at hcs
    obtain ⟨rfl, rfl, rfl⟩ := hcs
    exact ⟨[], RdC.nil W, fun c hc => absurd hc (by simp)⟩
  · simp [Value.cells] at hcs
    obtain ⟨rfl, rfl, rfl⟩ := hcs
    simp only [Prod.mk.injEq] at hx
    obtain ⟨rfl, _⟩ := hx
    simp only [if_true] at hmm
    subst hmm
    have hw : ∀ i, i < len → ∀ k ∈ (D i).weights Tryd.prog 51, k ≤ reachBytes := fun i hi k hk => by
      refine hzd k ?_
      rw [DataW.weights]
      simp only [Tryd.underlying22]
      refine List.mem_cons_of_mem _ (List.mem_append.2 (.inl (weights_mem_all5 hk ?_)))
      exact List.mem_map.2 ⟨i, List.mem_range.2 hi, rfl⟩
    have hs := hzd _ (by rw [DataW.weights]; simp only [Tryd.underlying22]; exact List.mem_cons_self ..)
    simp only [List.length_map, List.length_range, reachBytes] at hs
    have hs2 : len ≤ 140737488351232 := by
      have : (len + (m - len)) * 1 ≤ (len + (m - len)) * Tryd.prog.bytesOf 51 := Nat.mul_le_mul_left _ hb1
      omega
    rw [cells_column] at hcell
    obtain ⟨L, hL⟩ := choose_lt (α := ColB) (p := fun i a => (a.1.size ≤ 140737488351232 ∧ -9223372036854775808 ≤ a.2 ∧ a.2 ≤ 9223372036854775807) ∧ ∀ j u, (colV a)[j]? = some u → W.cell? ((x.add (i * 2)).add j) = some u) (n := len) (fun i hi => by
      obtain ⟨cs', h1, h2⟩ := hcell i (by omega)
      obtain ⟨_, h3, h4⟩ := World.cells?_some h1
      obtain ⟨a, rfl, hwa, hk1, hk2⟩ := col_part h2
      have hsz := hw i hi a.1.data.toList.length (by
        dsimp only at hwa
        rw [hwa]
        simp [DataW.weights, Tryd.underlying51, DataW.weightsEach])
      refine ⟨a, ⟨by simpa [reachBytes] using hsz, hk1, hk2⟩, fun j u hu => ?_⟩
      have hj : j < 2 := by have := (List.getElem?_eq_some_iff.1 hu).1; simpa [colV] using this
      rw [h4 j hj, hu])
    have hlen : ((List.range len).map L).length = len := by simp
    have e : ∀ i, i < len → ((List.range len).map L).getD i default = L i := fun i hi => by simp [List.getD, hi]
    have hsp : 0 < len → ∃ b o, x = ⟨b, o, none⟩ := by
      intro hp
      have h0 := (hL 0 hp).2 0 _ rfl
      obtain ⟨b, o, sp⟩ := x
      cases sp with
      | none => exact ⟨b, o, rfl⟩
      | some s =>
        exfalso
        simp only [Addr.add, if_true, World.cell?] at h0
        split at h0 <;> simp at h0
    refine ⟨(List.range len).map L, ⟨⟨some x, _, by rw [List.length_map, hlen], by rw [List.length_map, hlen]; omega, (by intro h; cases h), fun hp => ?_⟩, ?_, ?_, by rw [List.length_map, hlen]; exact hs2⟩, ?_⟩
    · rw [List.length_map, hlen] at hp
      obtain ⟨b, o, rfl⟩ := hsp hp
      exact ⟨b, o, rfl⟩
    · intro i hi j u hu
      rw [List.length_map, hlen] at hi
      rw [getD_map colV _ i (by rw [hlen]; exact hi) default, e i hi] at hu
      have := (hL i hi).2 j u hu
      obtain ⟨b, o, rfl⟩ := hsp (by omega)
      rw [Addr.add_mid, Addr.add_mid, Nat.add_assoc] at this
      rw [adr_lit]
      exact this
    · intro z hz
      obtain ⟨c, _, rfl⟩ := List.mem_map.1 hz
      rfl
    · intro c hc
      obtain ⟨i, hi, rfl⟩ := List.mem_map.1 hc
      exact (hL i (List.mem_range.1 hi)).1
end

end Go.Proofs.YtdegeifklchjaaaDoor


/-
  SchemaWrites: of any columns the bytes, the print and the text are the document's, or why there are none. For every input.
-/
namespace Go.Proofs.YtdegeifklchjaaaDoor.schemaWrites
open Go.ChangeShapes Go.WideShapes Go.ChangeAt Go.RowKit

set_option maxRecDepth 1000000 in
theorem lifted (os : Os) (started : os.Started) (H : Type) (enc : TypeId × Value → H) :
    ReturnsInHanded {} Tryd.checked os 3 .any (fun w args => (Rows.schemaWritesSpec.pre enc Tryd.prog Tryd.f3 [] false w args ∧ laidMetH Tryd.prog Rows.schemaWritesRow.laid w) ∧ sizedMet enc Tryd.prog Tryd.f3 (OpenSpec.ofChange Rows.schemaWritesSpec) false w args)
      (Rows.schemaWritesSpec.post enc Tryd.prog Tryd.f3 false true false false) := by
  refine returns_shaped (C := Tryd.checked) (X := fun w _ => laidMetH Tryd.prog Rows.schemaWritesRow.laid w) (fun _ _ _ hh h => h.of_heap hh) own started (by kernel_rfl) Tryd.func3
    (ChangeSpec.witness_shaped (enc := enc) (C := Tryd.checked) (os := os) (X := fun w _ => laidMetH Tryd.prog Rows.schemaWritesRow.laid w) false (World.laidAll Tryd.prog os Rows.schemaWritesRow.laid) #[.slice none 0 0, .slice none 0 0] 8 (World.laidAll_os _ _ _)
      (World.shaped_of_ZipB (by kernel_rfl) (by kernel_rfl)) (by kernel_rfl) (by kernel_rfl) (by kernel_rfl)
      (by rw [MakeChecks.laidMetH_plain _ _ _ (by kernel_rfl)]; exact laidMet_laidAll _ (by kernel_rfl) (by kernel_rfl))) ?_
  intro W base args ds gs before hval0 hW hsz0 hL0 hsh
  have hL := hL0
  rw [MakeChecks.laidMetH_plain _ _ _ (by kernel_rfl)] at hL
  have hT : Tabs W := tabs_of (Lib.laidMet.reads hL (.tail _ (.head _))) (Lib.laidMet.reads hL (.head _))
  have hX := mx_of hsh
  have hsz : (DataW.weightsEach Tryd.prog (Tryd.f3.params.toList ++ Rows.schemaWritesSpec.plain.varTypes Tryd.prog) (ds ++ gs)).all (· ≤ reachBytes) = true := hsz0
  have hval : ∀ (j : Nat) t v, Tryd.f3.params[j]? = some t → args[j]? = some v → Value.okWide Tryd.prog W .any base t v := hval0
  have hW' := hW
  obtain ⟨p, q, hA0, hV, rfl, hfz, hnd⟩ := hW
  have hA : DataW.TrodAll enc Tryd.prog W 0 (fun _ => true) true Tryd.f3.params.toList args.toList ds p := hA0
  rw [Tryd.params3] at hA hval hsz
  obtain ⟨v0, vs0, d0, ds0, p0, q0, hargs, rfl, rfl, h0, r0⟩ := trodAll_cons hA
  obtain ⟨v1, vs1, d1, ds1, p1, q1, rfl, rfl, rfl, h1, r1⟩ := trodAll_cons r0
  obtain ⟨rfl, rfl, rfl⟩ := trodAll_nil r1
  obtain rfl : args = #[v0, v1] := by cases args; simp_all
  obtain ⟨rfl, rfl⟩ := trodVars_none hV
  have k0 := h0
  have lt0 : ∀ x ∈ p0, x.block < W.heap.size := by obtain ⟨m, hm⟩ := k0; exact DataW.trod_lt m _ _ _ hm
  obtain ⟨l0, w0, c0⟩ := cols_open (hval 0 22 v0 rfl rfl) h0 hsz (j := 0) rfl rfl
  have k1 := h1
  have lt1 : ∀ x ∈ p1, x.block < W.heap.size := by obtain ⟨m, hm⟩ := k1; exact DataW.trod_lt m _ _ _ hm
  obtain ⟨l1, w1, c1⟩ := cols_open (hval 1 22 v1 rfl rfl) h1 hsz (j := 1) rfl rfl
  clear hA0 hval0 hsz0
  refine (schemaWrites_walk v0 l0 v1 l1 W w0 c0 w1 c1 hT hX).mono fun e W' ⟨he, bel⟩ => ?_
  subst he
  exact ⟨_, rfl, _, _, _, [], _, [], hW', trodAll_mk1 (shut_bool Tryd.underlying4 _), (trodAll_cons_mk (Below.trod laidOut (by kernel_rfl) (of_decide_eq_true (by kernel_rfl)) k0 bel lt0) (trodAll_cons_mk (Below.trod laidOut (by kernel_rfl) (of_decide_eq_true (by kernel_rfl)) k1 bel lt1) trodAll_mk0)), rfl, bel.frame _, fun h => by cases h⟩

theorem over : Rows.schemaWritesRow.holds Tryd.pinned (OpenSpec.ofChange Rows.schemaWritesSpec) :=
  OpenClaim.holds_of_wide 3 Tryd.f3 rfl rfl rfl rfl rfl rfl rfl ⟨rfl, rfl, rfl, rfl, rfl⟩ rfl rfl rfl rfl rfl (by kernel_rfl) Tryd.func3 (by kernel_rfl)
    (of_decide_eq_true (by kernel_rfl)) (by unfold Func.isWrapper; first | (rw [if_pos (by decide +kernel)]; kernel_rfl) | (rw [if_neg (by decide +kernel)]; exact ⟨rfl, rfl⟩))
    (fun os started H enc _ => lifted os started H enc)

theorem proved : Rows.SchemaWritesCardSaid :=
  Claim7.holds_tied_plain_at .later [] _ _ _ _ over (fun _ h => by cases h) (by kernel_rfl) (fun _ h => by cases h) schemaWrites_row_tie rfl ⟨rfl, rfl⟩ (by kernel_rfl) rfl
    (fun f fn hf hfn => by
      obtain rfl : f = 3 := Option.some.inj ((show Tryd.prog.funcNamed "deckle/decklelaw05.SchemaWrites" = some 3 by kernel_rfl).symm.trans hf) |>.symm
      obtain rfl : fn = Tryd.f3 := (Option.some.inj (Tryd.func3.symm.trans hfn)).symm
      exact ⟨by kernel_rfl, fun j t ht => by
        rw [Tryd.params3] at ht
        have hm : t ∈ [22, 22] := by simpa using Array.mem_of_getElem? ht
        have hall : ([22, 22].all fun u => !Tryd.prog.wantsStandIn u) = true := by kernel_rfl
        exact (show Tryd.prog.wantsStandIn t = false by simpa using List.all_eq_true.1 hall t hm)⟩)
    (by kernel_rfl)
#print axioms proved
end Go.Proofs.YtdegeifklchjaaaDoor.schemaWrites

