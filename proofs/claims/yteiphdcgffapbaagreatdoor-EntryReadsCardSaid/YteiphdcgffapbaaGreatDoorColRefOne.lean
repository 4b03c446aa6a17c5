/-
  The document's own answers for layer 9 (deckleref09): one cell off its reader.
-/
import Derived.Test.YteiphdcgffapbaaGreatDoorGColSh
import Derived.Test.YteiphdcgffapbaaGreatDoorGRdr
import Derived.Deep.RegionWith
set_option linter.unusedVariables false
set_option linter.unusedSimpArgs false
set_option maxRecDepth 1000000
namespace Go.Proofs.YteiphdcgffapbaaGreatDoor
open Go.RowKit

/-- What `one` tells: a cell, the place, what is wrong. -/
def OneR (w : World) (m : Nat) (v : Value) (l : List UInt8) (kind : Int) (i : Nat) (p : CellB) (k : Nat) (e : Ending) (w' : World) : Prop :=
  ∃ c : CellB, e = .returned (cellV c.1 c.2) ∧ w.grownBy w' (some m) ∧ Mdl w' m v l (rd1 l kind i (ceL p) k).2.1 (rd1 l kind i (ceL p) k).2.2 ∧ c.1 < 18446744073709551616 ∧ c.2.size ≤ 1000 ∧ ((rd1 l kind i (ceL p) k).2.2 = 0 → ceL c = (rd1 l kind i (ceL p) k).1)

theorem rdB_most {l : List UInt8} {k : Nat} {most : Int} (hk : k ≤ l.length) (hm : 0 ≤ most) : ((rdB l k most).1.length : Int) ≤ most := by
  by_cases h : (rdB l k most).2.2 = 0
  · exact (colB_enc hk h).2.2
  · unfold rdB at h ⊢
    by_cases h1 : (getB (l.drop k) most).2.2 ≠ 0
    · rw [if_pos h1]; simpa using hm
    · rw [if_neg h1] at h; exact absurd rfl h
theorem rd1_of {l : List UInt8} {kind : Int} {i k x k3 x3 k4 x4 x7 x8 : Nat} {p : Ce} {bb : List UInt8} (ht : kind = 3 ∨ kind = 4) (hU : rdU l k p.2.length = (x, k3, x3))
    (hbb : bb = (if x3 = 0 then (rdB l k3 (256 - (x : Int))).1 else [])) (hk4 : k4 = (if x3 = 0 then (rdB l k3 (256 - (x : Int))).2.1 else k3)) (hx4 : x4 = (if x3 = 0 then (rdB l k3 (256 - (x : Int))).2.2 else x3))
    (h7 : x7 = (if x4 = 0 then (if shr p.2 (p.2.take x ++ bb) = x then 0 else 6) else x4)) (h8 : x8 = (if x7 = 0 then (if kind = 4 ∧ utf8 (p.2.take x ++ bb) = false then 11 else 0) else x7)) :
    (rd1 l kind i p k).2.1 = k4 ∧ (rd1 l kind i p k).2.2 = x8 ∧ (x8 = 0 → (rd1 l kind i p k).1 = (0, p.2.take x ++ bb)) := by
  unfold rd1
  rw [if_pos ht, hU]
  dsimp only
  by_cases h3 : x3 = 0
  · rw [if_pos h3] at hbb hk4 hx4
    rw [if_neg (fun h => h h3), ← hbb, ← hx4, ← hk4]
    by_cases h4 : x4 = 0
    · rw [if_pos h4] at h7
      rw [if_neg (fun h => h h4)]
      by_cases hN : shr p.2 (p.2.take x ++ bb) = x
      · rw [if_pos hN] at h7
        rw [if_pos h7] at h8
        rw [if_neg (fun h => h hN)]
        by_cases hu : kind = 4 ∧ utf8 (p.2.take x ++ bb) = false
        · rw [if_pos hu] at h8
          rw [if_pos hu]
          exact ⟨rfl, h8.symm, fun h => by omega⟩
        · rw [if_neg hu] at h8
          rw [if_neg hu]
          exact ⟨rfl, h8.symm, fun _ => rfl⟩
      · rw [if_neg hN] at h7
        rw [if_neg (by omega)] at h8
        rw [if_pos hN]
        exact ⟨rfl, by dsimp only; omega, fun h => by omega⟩
    · rw [if_neg h4] at h7
      rw [if_neg (by omega)] at h8
      rw [if_pos h4]
      exact ⟨rfl, by dsimp only; omega, fun h => by omega⟩
  · rw [if_neg h3] at hk4 hx4
    rw [if_neg (by omega)] at h7
    rw [if_neg (by omega)] at h8
    rw [if_pos h3]
    exact ⟨hk4.symm, by dsimp only; omega, fun h => by omega⟩
theorem _root_.Go.World.grownBy.sets {w w' : World} {m g : Nat} (h : w.grownBy w' (some m)) (hg : w.heap.size ≤ g) (i j : Nat) (a b : Value) : w.grownBy ((w'.setCell ⟨g, i, none⟩ a).setCell ⟨g, j, none⟩ b) (some m) := by
  have hk : w'.grownBy ((w'.setCell ⟨g, i, none⟩ a).setCell ⟨g, j, none⟩ b) (some g) := grown_setCell (grown_setCell (World.grownBy.refl _ _) _) _
  exact ⟨hk.os.trans h.os, hk.tape.trans h.tape, hk.output.trans h.output, Nat.le_trans h.size hk.size, fun q h1 h2 => (hk.block q (Nat.lt_of_lt_of_le h1 h.size) (fun e => by injection e with e; omega)).trans (h.block q h1 h2)⟩

set_option maxHeartbeats 8000000 in
theorem ref_oneU (m : Nat) (v : Value) (l : List UInt8) (k : Nat) (w : World) (hM : Mdl w m v l k 0) (kind : Int) (i : Nat) (px : Nat) (ps : ByteArray) (hpx : px < 18446744073709551616) (hps : ps.size ≤ 256) (hi : i ≤ 140737488351232) (h0 : i = 0) (hz : kind ≠ 0) (h3 : kind ≠ 3) (h4 : kind ≠ 4) :
    Calls Tryz.prog 113 #[.pointer (some ⟨m, 0, none⟩), .int .i64 kind, .int .i64 (i : Int), cellV px ps] w (OneR w m v l kind i (px, ps) k) := by
  unfold cellV
  have hml := hM.lt
  have HM2 := Lib.hid (show Mdl ((w.alloc (.cells #[.int .u64 (px : Int), .string ps] 60)).alloc (.cells #[.int .u64 0, .string ⟨#[]⟩] 60)) m v l k 0 from hM.later (((Below.refl w.heap.size w).alloc (Nat.le_refl _) _).alloc (by rw [World.size_alloc]; omega) _) (Nat.le_refl _))
  have HG2 := Lib.hid (show w.grownBy ((w.alloc (.cells #[.int .u64 (px : Int), .string ps] 60)).alloc (.cells #[.int .u64 0, .string ⟨#[]⟩] 60)) (some m) from below_grown (((Below.refl w.heap.size w).alloc (Nat.le_refl _) _).alloc (by rw [World.size_alloc]; omega) _) _)
  have HP2 := Lib.hid (show ((w.alloc (.cells #[.int .u64 (px : Int), .string ps] 60)).alloc (.cells #[.int .u64 0, .string ⟨#[]⟩] 60)).heap[w.heap.size]? = some (.cells #[.int .u64 (px : Int), .string ps] 60 (0, 0)) from (Below.heap_alloc _ _ _ (by rw [World.size_alloc]; omega)).trans (heap_alloc_new _ _))
  have HR2 := Lib.hid (show ((w.alloc (.cells #[.int .u64 (px : Int), .string ps] 60)).alloc (.cells #[.int .u64 0, .string ⟨#[]⟩] 60)).heap[w.heap.size + 1]? = some (.cells #[.int .u64 0, .string ⟨#[]⟩] 60 (0, 0)) from by have := heap_alloc_new (w.alloc (.cells #[.int .u64 (px : Int), .string ps] 60)) (.cells #[.int .u64 0, .string ⟨#[]⟩] 60); rw [World.size_alloc] at this; exact this)
  have HS2 := Lib.hid (show w.heap.size + 2 ≤ ((w.alloc (.cells #[.int .u64 (px : Int), .string ps] 60)).alloc (.cells #[.int .u64 0, .string ⟨#[]⟩] 60)).heap.size from by rw [World.size_alloc, World.size_alloc]; omega)
  obtain ⟨gp, hgp⟩ : ∃ gp, gp = w.heap.size := ⟨_, rfl⟩
  have HGP := Lib.hid (show m < gp by omega)
  have HGW := Lib.hid (show w.heap.size ≤ gp by omega)
  have HVB := Lib.hid (show ∀ j, j < l.length → (adr v j).block < gp from fun j hj => by rw [hgp]; exact hM.rd.block hj)
  subst h0
  have q3 : (kind == 3) = false := by rw [beq_eq_false_iff_ne]; exact h3
  have q4 : (kind == 4) = false := by rw [beq_eq_false_iff_ne]; exact h4
  have q0 : (kind != 0) = true := by rw [bne_iff_ne]; exact hz
  have HZk := Lib.hid hz
  clear hM
  go_enter Tryz.func113, Tryz.ntmps113
  go_wp2_with fail
  generalize ((w.alloc (.cells #[.int .u64 (px : Int), .string ps] 60)).alloc (.cells #[.int .u64 0, .string ⟨#[]⟩] 60)) = w2 at *
  rw [← hgp] at HP2 HR2 HS2 ⊢
  clear hgp
  refine (model_Uint m v l k w2 HM2.out 18446744073709551615 (by decide)).mono ?_
  rintro e w3 ⟨rfl, hg3, hM3⟩
  have hxl := rdU_lt (l := l) (k := k) (most := 18446744073709551615)
  rcases hr : rdU l k 18446744073709551615 with ⟨x, k3, x3⟩
  rw [hr] at hM3 hxl
  dsimp only at hM3 hxl ⊢
  have HU := Lib.hid hr
  have HM3 := Lib.hid hM3
  have HG3 := Lib.hid (HG2.out.trans hg3)
  have HV3 := Lib.hid (show ∀ j, j < l.length → (adr v j).block ≠ gp + 1 from fun j hj e => by have h1 := HVB.out j hj; omega)
  have HR3 := Lib.hid ((hg3.block (gp + 1) (by have := HS2.out; omega) (by intro e; injection e with e; have := HGP.out; omega)).trans HR2.out)
  clear hr hM3 hg3 HM2 HG2 HP2 HR2
  have c0 : w3.cell? ⟨gp + 1, 0, none⟩ = some (.int .u64 0) := by rw [cell_of_row _ _ _ _ _ _ HR3.out]; rfl
  have f0 : w3.frozen? ⟨gp + 1, 0, none⟩ = false := frozen_of_row _ _ _ _ _ HR3.out
  have c1 : (w3.setCell ⟨gp + 1, 0, none⟩ (.int .u64 (x : Int))).cell? ⟨gp + 1, 1, none⟩ = some (.string ⟨#[]⟩) := by rw [cell_of_row _ _ _ _ _ _ (block_setCell HR3.out _)]; rfl
  have f1 : (w3.setCell ⟨gp + 1, 0, none⟩ (.int .u64 (x : Int))).frozen? ⟨gp + 1, 1, none⟩ = false := frozen_of_row _ _ _ _ _ (block_setCell HR3.out _)
  have e0 : ((w3.setCell ⟨gp + 1, 0, none⟩ (.int .u64 (x : Int))).setCell ⟨gp + 1, 1, none⟩ (.string ⟨#[]⟩)).cell? ⟨gp + 1, 0, none⟩ = some (.int .u64 (x : Int)) := by rw [cell_of_row _ _ _ _ _ _ (block_setCell (block_setCell HR3.out _) _)]; rfl
  have e1 : ((w3.setCell ⟨gp + 1, 0, none⟩ (.int .u64 (x : Int))).setCell ⟨gp + 1, 1, none⟩ (.string ⟨#[]⟩)).cell? ⟨gp + 1, 1, none⟩ = some (.string ⟨#[]⟩) := by rw [cell_of_row _ _ _ _ _ _ (block_setCell (block_setCell HR3.out _) _)]; rfl
  have HM4 := Lib.hid (show Mdl ((w3.setCell ⟨gp + 1, 0, none⟩ (.int .u64 (x : Int))).setCell ⟨gp + 1, 1, none⟩ (.string ⟨#[]⟩)) m v l k3 x3 from by
    have hgv : w3.grownBy ((w3.setCell ⟨gp + 1, 0, none⟩ (.int .u64 (x : Int))).setCell ⟨gp + 1, 1, none⟩ (.string ⟨#[]⟩)) (some (gp + 1)) := grown_setCell (grown_setCell (World.grownBy.refl _ _) _) _
    refine HM3.out.same (hgv.block m HM3.out.lt (by intro e; injection e with e; have := HGP.out; omega)) fun j hj => hgv.block _ (HM3.out.rd.block hj) (fun e => ?_)
    injection e with e
    exact HV3.out j hj e)
  have HG4 := Lib.hid (show w.grownBy ((w3.setCell ⟨gp + 1, 0, none⟩ (.int .u64 (x : Int))).setCell ⟨gp + 1, 1, none⟩ (.string ⟨#[]⟩)) (some m) from HG3.out.sets (by have := HGW.out; omega) _ _ _ _)
  clear HR3 HM3 HG3
  go_wp2
  generalize ((w3.setCell ⟨gp + 1, 0, none⟩ (.int .u64 (x : Int))).setCell ⟨gp + 1, 1, none⟩ (.string ⟨#[]⟩)) = w9 at *
  refine bodyPost_ret (by simp [results, Tryz.results113, go_sem, e0, e1]; try rfl) rfl ?_
  have hrd : rd1 l kind 0 (ceL (px, ps)) k = (if x3 = 0 then ((x, []), k3, 0) else ((0, []), k3, x3)) := by
    unfold rd1
    rw [if_neg (by omega), HU.out]
    dsimp only
    by_cases h9 : x3 = 0
    · rw [if_neg (by omega), if_pos ⟨rfl, HZk.out⟩, if_pos h9]
    · rw [if_pos h9, if_neg h9]
  have hr1 : (rd1 l kind 0 (ceL (px, ps)) k).2.1 = k3 ∧ (rd1 l kind 0 (ceL (px, ps)) k).2.2 = x3 := by
    rw [hrd]; split
    · rename_i h9; exact ⟨rfl, h9.symm⟩
    · exact ⟨rfl, rfl⟩
  refine ⟨(x, ⟨#[]⟩), rfl, HG4.out, by rw [hr1.1, hr1.2]; exact HM4.out, hxl, by simp [ByteArray.size], fun h => ?_⟩
  rw [hr1.2] at h
  rw [hrd, if_pos h]; rfl

set_option maxHeartbeats 8000000 in
theorem ref_oneS2 (m : Nat) (v : Value) (l : List UInt8) (k : Nat) (w : World) (hM : Mdl w m v l k 0) (kind : Int) (i : Nat) (px : Nat) (ps : ByteArray) (hpx : px < 18446744073709551616) (hps : ps.size ≤ 256) (hi : i ≤ 140737488351232) (h0 : i ≠ 0) (h3 : kind ≠ 3) (h4 : kind ≠ 4) :
    Calls Tryz.prog 113 #[.pointer (some ⟨m, 0, none⟩), .int .i64 kind, .int .i64 (i : Int), cellV px ps] w (OneR w m v l kind i (px, ps) k) := by
  unfold cellV
  have hml := hM.lt
  have HM2 := Lib.hid (show Mdl ((w.alloc (.cells #[.int .u64 (px : Int), .string ps] 60)).alloc (.cells #[.int .u64 0, .string ⟨#[]⟩] 60)) m v l k 0 from hM.later (((Below.refl w.heap.size w).alloc (Nat.le_refl _) _).alloc (by rw [World.size_alloc]; omega) _) (Nat.le_refl _))
  have HG2 := Lib.hid (show w.grownBy ((w.alloc (.cells #[.int .u64 (px : Int), .string ps] 60)).alloc (.cells #[.int .u64 0, .string ⟨#[]⟩] 60)) (some m) from below_grown (((Below.refl w.heap.size w).alloc (Nat.le_refl _) _).alloc (by rw [World.size_alloc]; omega) _) _)
  have HP2 := Lib.hid (show ((w.alloc (.cells #[.int .u64 (px : Int), .string ps] 60)).alloc (.cells #[.int .u64 0, .string ⟨#[]⟩] 60)).heap[w.heap.size]? = some (.cells #[.int .u64 (px : Int), .string ps] 60 (0, 0)) from (Below.heap_alloc _ _ _ (by rw [World.size_alloc]; omega)).trans (heap_alloc_new _ _))
  have HR2 := Lib.hid (show ((w.alloc (.cells #[.int .u64 (px : Int), .string ps] 60)).alloc (.cells #[.int .u64 0, .string ⟨#[]⟩] 60)).heap[w.heap.size + 1]? = some (.cells #[.int .u64 0, .string ⟨#[]⟩] 60 (0, 0)) from by have := heap_alloc_new (w.alloc (.cells #[.int .u64 (px : Int), .string ps] 60)) (.cells #[.int .u64 0, .string ⟨#[]⟩] 60); rw [World.size_alloc] at this; exact this)
  have HS2 := Lib.hid (show w.heap.size + 2 ≤ ((w.alloc (.cells #[.int .u64 (px : Int), .string ps] 60)).alloc (.cells #[.int .u64 0, .string ⟨#[]⟩] 60)).heap.size from by rw [World.size_alloc, World.size_alloc]; omega)
  obtain ⟨gp, hgp⟩ : ∃ gp, gp = w.heap.size := ⟨_, rfl⟩
  have HGP := Lib.hid (show m < gp by omega)
  have HGW := Lib.hid (show w.heap.size ≤ gp by omega)
  have HVB := Lib.hid (show ∀ j, j < l.length → (adr v j).block < gp from fun j hj => by rw [hgp]; exact hM.rd.block hj)
  have q3 : (kind == 3) = false := by rw [beq_eq_false_iff_ne]; exact h3
  have q4 : (kind == 4) = false := by rw [beq_eq_false_iff_ne]; exact h4
  have q0 : ((i : Int) == 0) = false := by rw [beq_eq_false_iff_ne]; omega
  have HI0 := Lib.hid (show ¬ (i = 0 ∧ kind ≠ 0) from fun h => h0 h.1)
  clear hM
  go_enter Tryz.func113, Tryz.ntmps113
  go_wp2_with fail
  generalize ((w.alloc (.cells #[.int .u64 (px : Int), .string ps] 60)).alloc (.cells #[.int .u64 0, .string ⟨#[]⟩] 60)) = w2 at *
  rw [← hgp] at HP2 HR2 HS2 ⊢
  clear hgp
  have p0 : w2.cell? ⟨gp, 0, none⟩ = some (.int .u64 (px : Int)) := by rw [cell_of_row _ _ _ _ _ _ HP2.out]; rfl
  have MI := Lib.hid (fun wz (h : w2.grownBy wz none) => model_Int m v l k wz (HM2.out.same (h.block m HM2.out.lt (by simp)) (fun j hj => h.block _ (HM2.out.rd.block hj) (by simp))))
  rcases hr : rdU l k 18446744073709551615 with ⟨x, k3, x3⟩
  rw [hr] at MI
  have HU := Lib.hid hr
  clear hr
  dsimp only at MI
  have HDv := Lib.hid (show IntKind.u64.wrap ((px : Int) + IntKind.u64.wrap (zag x)) = (addZ px x : Int) from by
    rw [IntKind.wrap_u64, IntKind.wrap_u64]; unfold addZ; omega)
  go_region_with (
    go_at_call 86
    have hMI := MI.out w2.drew ⟨rfl, rfl, rfl, Nat.le_refl _, fun _ _ _ => rfl⟩
    refine hMI.mono ?_
    clear hMI
    rintro e w3 ⟨rfl, hg3, hM3⟩
    have HP3 := (hg3.block gp (by have := HS2.out; show gp < w2.heap.size; omega) (by intro e; injection e with e; have := HGP.out; omega)).trans HP2.out
    have HR3 := (hg3.block (gp + 1) (by have := HS2.out; show gp + 1 < w2.heap.size; omega) (by intro e; injection e with e; have := HGP.out; omega)).trans HR2.out
    have p3 : w3.cell? ⟨gp, 0, none⟩ = some (.int .u64 (px : Int)) := by rw [cell_of_row _ _ _ _ _ _ HP3]; rfl
    have c0 : w3.cell? ⟨gp + 1, 0, none⟩ = some (.int .u64 0) := by rw [cell_of_row _ _ _ _ _ _ HR3]; rfl
    have f0 : w3.frozen? ⟨gp + 1, 0, none⟩ = false := frozen_of_row _ _ _ _ _ HR3
    have c1 : (w3.setCell ⟨gp + 1, 0, none⟩ (.int .u64 (IntKind.u64.wrap ((px : Int) + IntKind.u64.wrap (zag x))))).cell? ⟨gp + 1, 1, none⟩ = some (.string ⟨#[]⟩) := by rw [cell_of_row _ _ _ _ _ _ (block_setCell HR3 _)]; rfl
    have f1 : (w3.setCell ⟨gp + 1, 0, none⟩ (.int .u64 (IntKind.u64.wrap ((px : Int) + IntKind.u64.wrap (zag x))))).frozen? ⟨gp + 1, 1, none⟩ = false := frozen_of_row _ _ _ _ _ (block_setCell HR3 _)
    have HP3 := Lib.hid HP3
    have HR3 := Lib.hid HR3
    )
  all_goals (
    rw [HDv.out]
    clear c0 c1 f0 f1 p3 p0
    have HM3 := Lib.hid hM3
    have HG3 := Lib.hid (HG2.out.trans_drew.trans hg3)
    have HV3 := Lib.hid (show ∀ j, j < l.length → (adr v j).block ≠ gp + 1 from fun j hj e => by have h1 := HVB.out j hj; omega)
    clear hM3 hg3 HP3 HM2 HG2 HP2 HR2 MI
    have c0 : w3.cell? ⟨gp + 1, 0, none⟩ = some (.int .u64 0) := by rw [cell_of_row _ _ _ _ _ _ HR3.out]; rfl
    have f0 : w3.frozen? ⟨gp + 1, 0, none⟩ = false := frozen_of_row _ _ _ _ _ HR3.out
    have c1 : (w3.setCell ⟨gp + 1, 0, none⟩ (.int .u64 (addZ px x : Int))).cell? ⟨gp + 1, 1, none⟩ = some (.string ⟨#[]⟩) := by rw [cell_of_row _ _ _ _ _ _ (block_setCell HR3.out _)]; rfl
    have f1 : (w3.setCell ⟨gp + 1, 0, none⟩ (.int .u64 (addZ px x : Int))).frozen? ⟨gp + 1, 1, none⟩ = false := frozen_of_row _ _ _ _ _ (block_setCell HR3.out _)
    have e0 : ((w3.setCell ⟨gp + 1, 0, none⟩ (.int .u64 (addZ px x : Int))).setCell ⟨gp + 1, 1, none⟩ (.string ⟨#[]⟩)).cell? ⟨gp + 1, 0, none⟩ = some (.int .u64 (addZ px x : Int)) := by rw [cell_of_row _ _ _ _ _ _ (block_setCell (block_setCell HR3.out _) _)]; rfl
    have e1 : ((w3.setCell ⟨gp + 1, 0, none⟩ (.int .u64 (addZ px x : Int))).setCell ⟨gp + 1, 1, none⟩ (.string ⟨#[]⟩)).cell? ⟨gp + 1, 1, none⟩ = some (.string ⟨#[]⟩) := by rw [cell_of_row _ _ _ _ _ _ (block_setCell (block_setCell HR3.out _) _)]; rfl
    have HM4 := Lib.hid (show Mdl ((w3.setCell ⟨gp + 1, 0, none⟩ (.int .u64 (addZ px x : Int))).setCell ⟨gp + 1, 1, none⟩ (.string ⟨#[]⟩)) m v l k3 x3 from by
      have hgv : w3.grownBy ((w3.setCell ⟨gp + 1, 0, none⟩ (.int .u64 (addZ px x : Int))).setCell ⟨gp + 1, 1, none⟩ (.string ⟨#[]⟩)) (some (gp + 1)) := grown_setCell (grown_setCell (World.grownBy.refl _ _) _) _
      refine HM3.out.same (hgv.block m HM3.out.lt (by intro e; injection e with e; have := HGP.out; omega)) fun j hj => hgv.block _ (HM3.out.rd.block hj) (fun e => ?_)
      injection e with e
      exact HV3.out j hj e)
    have HG4 := Lib.hid (show w.grownBy ((w3.setCell ⟨gp + 1, 0, none⟩ (.int .u64 (addZ px x : Int))).setCell ⟨gp + 1, 1, none⟩ (.string ⟨#[]⟩)) (some m) from HG3.out.sets (by have := HGW.out; omega) _ _ _ _)
    clear HR3 HM3 HG3
    go_wp2
    generalize ((w3.setCell ⟨gp + 1, 0, none⟩ (.int .u64 (addZ px x : Int))).setCell ⟨gp + 1, 1, none⟩ (.string ⟨#[]⟩)) = w9 at *
    refine bodyPost_ret (by simp [results, Tryz.results113, go_sem, e0, e1]; try rfl) rfl ?_
    have hrd : rd1 l kind i (ceL (px, ps)) k = (if x3 = 0 then ((addZ px x, []), k3, 0) else ((0, []), k3, x3)) := by
      unfold rd1
      rw [if_neg (by omega), HU.out]
      dsimp only
      by_cases h9 : x3 = 0
      · rw [if_neg (by omega), if_neg HI0.out, if_pos h9]; rfl
      · rw [if_pos h9, if_neg h9]
    have hr1 : (rd1 l kind i (ceL (px, ps)) k).2.1 = k3 ∧ (rd1 l kind i (ceL (px, ps)) k).2.2 = x3 := by
      rw [hrd]; split
      · rename_i h9; exact ⟨rfl, h9.symm⟩
      · exact ⟨rfl, rfl⟩
    refine ⟨(addZ px x, ⟨#[]⟩), rfl, HG4.out, by rw [hr1.1, hr1.2]; exact HM4.out, addZ_lt _ _, by simp [ByteArray.size], fun h => ?_⟩
    rw [hr1.2] at h
    rw [hrd, if_pos h]; rfl
    )

set_option maxHeartbeats 8000000 in
theorem ref_oneS0 (m : Nat) (v : Value) (l : List UInt8) (k : Nat) (w : World) (hM : Mdl w m v l k 0) (kind : Int) (i : Nat) (px : Nat) (ps : ByteArray) (hpx : px < 18446744073709551616) (hps : ps.size ≤ 256) (hi : i ≤ 140737488351232) (h0 : i = 0) (hz : kind = 0) :
    Calls Tryz.prog 113 #[.pointer (some ⟨m, 0, none⟩), .int .i64 kind, .int .i64 (i : Int), cellV px ps] w (OneR w m v l kind i (px, ps) k) := by
  unfold cellV
  have hml := hM.lt
  have HM2 := Lib.hid (show Mdl ((w.alloc (.cells #[.int .u64 (px : Int), .string ps] 60)).alloc (.cells #[.int .u64 0, .string ⟨#[]⟩] 60)) m v l k 0 from hM.later (((Below.refl w.heap.size w).alloc (Nat.le_refl _) _).alloc (by rw [World.size_alloc]; omega) _) (Nat.le_refl _))
  have HG2 := Lib.hid (show w.grownBy ((w.alloc (.cells #[.int .u64 (px : Int), .string ps] 60)).alloc (.cells #[.int .u64 0, .string ⟨#[]⟩] 60)) (some m) from below_grown (((Below.refl w.heap.size w).alloc (Nat.le_refl _) _).alloc (by rw [World.size_alloc]; omega) _) _)
  have HP2 := Lib.hid (show ((w.alloc (.cells #[.int .u64 (px : Int), .string ps] 60)).alloc (.cells #[.int .u64 0, .string ⟨#[]⟩] 60)).heap[w.heap.size]? = some (.cells #[.int .u64 (px : Int), .string ps] 60 (0, 0)) from (Below.heap_alloc _ _ _ (by rw [World.size_alloc]; omega)).trans (heap_alloc_new _ _))
  have HR2 := Lib.hid (show ((w.alloc (.cells #[.int .u64 (px : Int), .string ps] 60)).alloc (.cells #[.int .u64 0, .string ⟨#[]⟩] 60)).heap[w.heap.size + 1]? = some (.cells #[.int .u64 0, .string ⟨#[]⟩] 60 (0, 0)) from by have := heap_alloc_new (w.alloc (.cells #[.int .u64 (px : Int), .string ps] 60)) (.cells #[.int .u64 0, .string ⟨#[]⟩] 60); rw [World.size_alloc] at this; exact this)
  have HS2 := Lib.hid (show w.heap.size + 2 ≤ ((w.alloc (.cells #[.int .u64 (px : Int), .string ps] 60)).alloc (.cells #[.int .u64 0, .string ⟨#[]⟩] 60)).heap.size from by rw [World.size_alloc, World.size_alloc]; omega)
  obtain ⟨gp, hgp⟩ : ∃ gp, gp = w.heap.size := ⟨_, rfl⟩
  have HGP := Lib.hid (show m < gp by omega)
  have HGW := Lib.hid (show w.heap.size ≤ gp by omega)
  have HVB := Lib.hid (show ∀ j, j < l.length → (adr v j).block < gp from fun j hj => by rw [hgp]; exact hM.rd.block hj)
  subst h0
  subst hz
  have HI0 := Lib.hid (show ¬ (0 = 0 ∧ (0 : Int) ≠ 0) from fun h => h.2 rfl)
  clear hM
  go_enter Tryz.func113, Tryz.ntmps113
  go_wp2_with fail
  generalize ((w.alloc (.cells #[.int .u64 (px : Int), .string ps] 60)).alloc (.cells #[.int .u64 0, .string ⟨#[]⟩] 60)) = w2 at *
  rw [← hgp] at HP2 HR2 HS2 ⊢
  clear hgp
  have p0 : w2.cell? ⟨gp, 0, none⟩ = some (.int .u64 (px : Int)) := by rw [cell_of_row _ _ _ _ _ _ HP2.out]; rfl
  have MI := Lib.hid (fun wz (h : w2.grownBy wz none) => model_Int m v l k wz (HM2.out.same (h.block m HM2.out.lt (by simp)) (fun j hj => h.block _ (HM2.out.rd.block hj) (by simp))))
  rcases hr : rdU l k 18446744073709551615 with ⟨x, k3, x3⟩
  rw [hr] at MI
  have HU := Lib.hid hr
  clear hr
  dsimp only at MI
  have HDv := Lib.hid (show IntKind.u64.wrap ((px : Int) + IntKind.u64.wrap (zag x)) = (addZ px x : Int) from by
    rw [IntKind.wrap_u64, IntKind.wrap_u64]; unfold addZ; omega)
  go_region_with (
    go_at_call 86
    have hMI := MI.out w2.drew ⟨rfl, rfl, rfl, Nat.le_refl _, fun _ _ _ => rfl⟩
    refine hMI.mono ?_
    clear hMI
    rintro e w3 ⟨rfl, hg3, hM3⟩
    have HP3 := (hg3.block gp (by have := HS2.out; show gp < w2.heap.size; omega) (by intro e; injection e with e; have := HGP.out; omega)).trans HP2.out
    have HR3 := (hg3.block (gp + 1) (by have := HS2.out; show gp + 1 < w2.heap.size; omega) (by intro e; injection e with e; have := HGP.out; omega)).trans HR2.out
    have p3 : w3.cell? ⟨gp, 0, none⟩ = some (.int .u64 (px : Int)) := by rw [cell_of_row _ _ _ _ _ _ HP3]; rfl
    have c0 : w3.cell? ⟨gp + 1, 0, none⟩ = some (.int .u64 0) := by rw [cell_of_row _ _ _ _ _ _ HR3]; rfl
    have f0 : w3.frozen? ⟨gp + 1, 0, none⟩ = false := frozen_of_row _ _ _ _ _ HR3
    have c1 : (w3.setCell ⟨gp + 1, 0, none⟩ (.int .u64 (IntKind.u64.wrap ((px : Int) + IntKind.u64.wrap (zag x))))).cell? ⟨gp + 1, 1, none⟩ = some (.string ⟨#[]⟩) := by rw [cell_of_row _ _ _ _ _ _ (block_setCell HR3 _)]; rfl
    have f1 : (w3.setCell ⟨gp + 1, 0, none⟩ (.int .u64 (IntKind.u64.wrap ((px : Int) + IntKind.u64.wrap (zag x))))).frozen? ⟨gp + 1, 1, none⟩ = false := frozen_of_row _ _ _ _ _ (block_setCell HR3 _)
    have HP3 := Lib.hid HP3
    have HR3 := Lib.hid HR3
    )
  all_goals (
    rw [HDv.out]
    clear c0 c1 f0 f1 p3 p0
    have HM3 := Lib.hid hM3
    have HG3 := Lib.hid (HG2.out.trans_drew.trans hg3)
    have HV3 := Lib.hid (show ∀ j, j < l.length → (adr v j).block ≠ gp + 1 from fun j hj e => by have h1 := HVB.out j hj; omega)
    clear hM3 hg3 HP3 HM2 HG2 HP2 HR2 MI
    have c0 : w3.cell? ⟨gp + 1, 0, none⟩ = some (.int .u64 0) := by rw [cell_of_row _ _ _ _ _ _ HR3.out]; rfl
    have f0 : w3.frozen? ⟨gp + 1, 0, none⟩ = false := frozen_of_row _ _ _ _ _ HR3.out
    have c1 : (w3.setCell ⟨gp + 1, 0, none⟩ (.int .u64 (addZ px x : Int))).cell? ⟨gp + 1, 1, none⟩ = some (.string ⟨#[]⟩) := by rw [cell_of_row _ _ _ _ _ _ (block_setCell HR3.out _)]; rfl
    have f1 : (w3.setCell ⟨gp + 1, 0, none⟩ (.int .u64 (addZ px x : Int))).frozen? ⟨gp + 1, 1, none⟩ = false := frozen_of_row _ _ _ _ _ (block_setCell HR3.out _)
    have e0 : ((w3.setCell ⟨gp + 1, 0, none⟩ (.int .u64 (addZ px x : Int))).setCell ⟨gp + 1, 1, none⟩ (.string ⟨#[]⟩)).cell? ⟨gp + 1, 0, none⟩ = some (.int .u64 (addZ px x : Int)) := by rw [cell_of_row _ _ _ _ _ _ (block_setCell (block_setCell HR3.out _) _)]; rfl
    have e1 : ((w3.setCell ⟨gp + 1, 0, none⟩ (.int .u64 (addZ px x : Int))).setCell ⟨gp + 1, 1, none⟩ (.string ⟨#[]⟩)).cell? ⟨gp + 1, 1, none⟩ = some (.string ⟨#[]⟩) := by rw [cell_of_row _ _ _ _ _ _ (block_setCell (block_setCell HR3.out _) _)]; rfl
    have HM4 := Lib.hid (show Mdl ((w3.setCell ⟨gp + 1, 0, none⟩ (.int .u64 (addZ px x : Int))).setCell ⟨gp + 1, 1, none⟩ (.string ⟨#[]⟩)) m v l k3 x3 from by
      have hgv : w3.grownBy ((w3.setCell ⟨gp + 1, 0, none⟩ (.int .u64 (addZ px x : Int))).setCell ⟨gp + 1, 1, none⟩ (.string ⟨#[]⟩)) (some (gp + 1)) := grown_setCell (grown_setCell (World.grownBy.refl _ _) _) _
      refine HM3.out.same (hgv.block m HM3.out.lt (by intro e; injection e with e; have := HGP.out; omega)) fun j hj => hgv.block _ (HM3.out.rd.block hj) (fun e => ?_)
      injection e with e
      exact HV3.out j hj e)
    have HG4 := Lib.hid (show w.grownBy ((w3.setCell ⟨gp + 1, 0, none⟩ (.int .u64 (addZ px x : Int))).setCell ⟨gp + 1, 1, none⟩ (.string ⟨#[]⟩)) (some m) from HG3.out.sets (by have := HGW.out; omega) _ _ _ _)
    clear HR3 HM3 HG3
    go_wp2
    generalize ((w3.setCell ⟨gp + 1, 0, none⟩ (.int .u64 (addZ px x : Int))).setCell ⟨gp + 1, 1, none⟩ (.string ⟨#[]⟩)) = w9 at *
    refine bodyPost_ret (by simp [results, Tryz.results113, go_sem, e0, e1]; try rfl) rfl ?_
    have hrd : rd1 l (0 : Int) 0 (ceL (px, ps)) k = (if x3 = 0 then ((addZ px x, []), k3, 0) else ((0, []), k3, x3)) := by
      unfold rd1
      rw [if_neg (by omega), HU.out]
      dsimp only
      by_cases h9 : x3 = 0
      · rw [if_neg (by omega), if_neg (fun h => absurd rfl h.2), if_pos h9]; rfl
      · rw [if_pos h9, if_neg h9]
    have hr1 : (rd1 l (0 : Int) 0 (ceL (px, ps)) k).2.1 = k3 ∧ (rd1 l (0 : Int) 0 (ceL (px, ps)) k).2.2 = x3 := by
      rw [hrd]; split
      · rename_i h9; exact ⟨rfl, h9.symm⟩
      · exact ⟨rfl, rfl⟩
    refine ⟨(addZ px x, ⟨#[]⟩), rfl, HG4.out, by rw [hr1.1, hr1.2]; exact HM4.out, addZ_lt _ _, by simp [ByteArray.size], fun h => ?_⟩
    rw [hr1.2] at h
    rw [hrd, if_pos h]; rfl
    )

set_option maxHeartbeats 8000000 in
theorem ref_oneT (m : Nat) (v : Value) (l : List UInt8) (k : Nat) (w : World) (hM : Mdl w m v l k 0) (i : Nat) (px : Nat) (ps : ByteArray) (hpx : px < 18446744073709551616) (hps : ps.size ≤ 256) (hi : i ≤ 140737488351232)  :
    Calls Tryz.prog 113 #[.pointer (some ⟨m, 0, none⟩), .int .i64 3, .int .i64 (i : Int), cellV px ps] w (OneR w m v l (3 : Int) i (px, ps) k) := by
  unfold cellV
  have hml := hM.lt
  have HM2 := Lib.hid (show Mdl ((w.alloc (.cells #[.int .u64 (px : Int), .string ps] 60)).alloc (.cells #[.int .u64 0, .string ⟨#[]⟩] 60)) m v l k 0 from hM.later (((Below.refl w.heap.size w).alloc (Nat.le_refl _) _).alloc (by rw [World.size_alloc]; omega) _) (Nat.le_refl _))
  have HG2 := Lib.hid (show w.grownBy ((w.alloc (.cells #[.int .u64 (px : Int), .string ps] 60)).alloc (.cells #[.int .u64 0, .string ⟨#[]⟩] 60)) (some m) from below_grown (((Below.refl w.heap.size w).alloc (Nat.le_refl _) _).alloc (by rw [World.size_alloc]; omega) _) _)
  have HP2 := Lib.hid (show ((w.alloc (.cells #[.int .u64 (px : Int), .string ps] 60)).alloc (.cells #[.int .u64 0, .string ⟨#[]⟩] 60)).heap[w.heap.size]? = some (.cells #[.int .u64 (px : Int), .string ps] 60 (0, 0)) from (Below.heap_alloc _ _ _ (by rw [World.size_alloc]; omega)).trans (heap_alloc_new _ _))
  have HR2 := Lib.hid (show ((w.alloc (.cells #[.int .u64 (px : Int), .string ps] 60)).alloc (.cells #[.int .u64 0, .string ⟨#[]⟩] 60)).heap[w.heap.size + 1]? = some (.cells #[.int .u64 0, .string ⟨#[]⟩] 60 (0, 0)) from by have := heap_alloc_new (w.alloc (.cells #[.int .u64 (px : Int), .string ps] 60)) (.cells #[.int .u64 0, .string ⟨#[]⟩] 60); rw [World.size_alloc] at this; exact this)
  have HS2 := Lib.hid (show w.heap.size + 2 ≤ ((w.alloc (.cells #[.int .u64 (px : Int), .string ps] 60)).alloc (.cells #[.int .u64 0, .string ⟨#[]⟩] 60)).heap.size from by rw [World.size_alloc, World.size_alloc]; omega)
  obtain ⟨gp, hgp⟩ : ∃ gp, gp = w.heap.size := ⟨_, rfl⟩
  have HGP := Lib.hid (show m < gp by omega)
  have HGW := Lib.hid (show w.heap.size ≤ gp by omega)
  have HVB := Lib.hid (show ∀ j, j < l.length → (adr v j).block < gp from fun j hj => by rw [hgp]; exact hM.rd.block hj)

  clear hM
  have hsz : ps.size = ps.data.toList.length := (rdS_of (s := ps) (by omega)).size9
  obtain ⟨pl, hpl⟩ : ∃ pl, pl = ps.data.toList := ⟨_, rfl⟩
  have HPS := Lib.hid (rdS_of (s := ps) (by omega))
  rw [← hpl] at HPS hsz
  have HPL := Lib.hid hpl
  have p1 : ((w.alloc (.cells #[.int .u64 (px : Int), .string ps] 60)).alloc (.cells #[.int .u64 0, .string ⟨#[]⟩] 60)).cell? ⟨w.heap.size, 1, none⟩ = some (.string ps) := by rw [cell_of_row _ _ _ _ _ _ HP2.out]; rfl
  have hlen := HPS.out.len
  clear hpl
  go_enter Tryz.func113, Tryz.ntmps113
  go_wp2_with fail
  generalize ((w.alloc (.cells #[.int .u64 (px : Int), .string ps] 60)).alloc (.cells #[.int .u64 0, .string ⟨#[]⟩] 60)) = w2 at *
  rw [← hgp] at HP2 HR2 HS2 p1 ⊢
  clear hgp
  refine (model_Uint m v l k w2 HM2.out pl.length (by omega)).mono ?_
  rintro e w3 ⟨rfl, hg3, hM3⟩
  have hxl : (rdU l k pl.length).1 ≤ pl.length := by
    unfold rdU
    split
    · omega
    · split <;> dsimp only <;> omega
  rcases hr : rdU l k pl.length with ⟨x, k3, x3⟩
  rw [hr] at hM3 hxl
  dsimp only at hM3 hxl ⊢
  have HU := Lib.hid hr
  have HM3 := Lib.hid hM3
  have HG3 := Lib.hid (HG2.out.trans hg3)
  have HP3 := Lib.hid ((hg3.block gp (by have := HS2.out; omega) (by intro e; injection e with e; have := HGP.out; omega)).trans HP2.out)
  have HR3 := Lib.hid ((hg3.block (gp + 1) (by have := HS2.out; omega) (by intro e; injection e with e; have := HGP.out; omega)).trans HR2.out)
  have HS3 := Lib.hid (show gp + 2 ≤ w3.heap.size by have := HS2.out; have := hg3.size; omega)
  clear hr hM3 hg3 HM2 HG2 HP2 HR2 HS2 p1 hlen
  have hk3 : k3 ≤ l.length := HM3.out.le
  have hbl := rdB_most (l := l) (k := k3) (most := 256 - (x : Int)) hk3 (by omega)
  go_wp2_with fail
  refine (mod_Bytes m v l k3 x3 w3 HM3.out (256 - (x : Int)) (by omega)).mono ?_
  rintro e w4 ⟨val, ⟨rfl, hg4, hM4⟩, hown⟩
  obtain ⟨bb, hbb⟩ : ∃ bb, bb = (if x3 = 0 then (rdB l k3 (256 - (x : Int))).1 else []) := ⟨_, rfl⟩
  obtain ⟨k4, hk4⟩ : ∃ k4, k4 = (if x3 = 0 then (rdB l k3 (256 - (x : Int))).2.1 else k3) := ⟨_, rfl⟩
  obtain ⟨x4, hx4⟩ : ∃ x4, x4 = (if x3 = 0 then (rdB l k3 (256 - (x : Int))).2.2 else x3) := ⟨_, rfl⟩
  rw [← hbb] at hown
  rw [← hk4, ← hx4] at hM4
  have hbl2 : bb.length ≤ 512 := by
    rw [hbb]; split
    · omega
    · simp
  have hstr := (hown.rd (by omega)).str
  obtain ⟨s2, hs2⟩ : ∃ s : ByteArray, s = ⟨bb.toArray⟩ := ⟨_, rfl⟩
  have hS2 : RdS s2 bb := ⟨hs2, by omega⟩
  rw [← hs2] at hstr
  have hz1 : (ps.extract 0 x).size = x := by rw [(HPS.out.takeS x).size9, List.length_take]; omega
  have hz2 : s2.size = bb.length := hS2.size9
  have hRT : RdS (ps.extract 0 x ++ s2) (pl.take x ++ bb) := (HPS.out.takeS x).app9 hS2 (by rw [List.length_take]; omega)
  have hcat : ¬ ((ps.extract 0 x).size + s2.size > 9223372036854775807) := by omega
  have HRT := Lib.hid hRT
  have HBB := Lib.hid hbb
  have HK4 := Lib.hid hk4
  have HX4 := Lib.hid hx4
  have HM4 := Lib.hid hM4
  have HG4 := Lib.hid (HG3.out.trans hg4)
  have HP4 := Lib.hid ((hg4.block gp (by have := HS3.out; omega) (by intro e; injection e with e; have := HGP.out; omega)).trans HP3.out)
  have HR4 := Lib.hid ((hg4.block (gp + 1) (by have := HS3.out; omega) (by intro e; injection e with e; have := HGP.out; omega)).trans HR3.out)
  have HS4 := Lib.hid (show gp + 2 ≤ w4.heap.size by have := HS3.out; have := hg4.size; omega)
  have p4 : w4.cell? ⟨gp, 1, none⟩ = some (.string ps) := by rw [cell_of_row _ _ _ _ _ _ HP4.out]; rfl
  have HP5 := Lib.hid (show (w4.alloc (.cells #[.int .u64 0, .string (ps.extract 0 x ++ s2)] 60)).heap[gp]? = some (.cells #[.int .u64 (px : Int), .string ps] 60 (0, 0)) from (Below.heap_alloc _ _ _ (by have := HS4.out; omega)).trans HP4.out)
  have HR5 := Lib.hid (show (w4.alloc (.cells #[.int .u64 0, .string (ps.extract 0 x ++ s2)] 60)).heap[gp + 1]? = some (.cells #[.int .u64 0, .string ⟨#[]⟩] 60 (0, 0)) from (Below.heap_alloc _ _ _ (by have := HS4.out; omega)).trans HR4.out)
  have HQ5 := Lib.hid (show (w4.alloc (.cells #[.int .u64 0, .string (ps.extract 0 x ++ s2)] 60)).heap[w4.heap.size]? = some (.cells #[.int .u64 0, .string (ps.extract 0 x ++ s2)] 60 (0, 0)) from heap_alloc_new _ _)
  have HB5 := Lib.hid (show Below w4.heap.size w4 (w4.alloc (.cells #[.int .u64 0, .string (ps.extract 0 x ++ s2)] 60)) from (Below.refl _ _).alloc (Nat.le_refl _) _)
  have HS5 := Lib.hid (show gp + 1 < w4.heap.size ∧ w4.heap.size < (w4.alloc (.cells #[.int .u64 0, .string (ps.extract 0 x ++ s2)] 60)).heap.size from by have := HS4.out; rw [World.size_alloc]; omega)
  have HM5 := Lib.hid (show Mdl (w4.alloc (.cells #[.int .u64 0, .string (ps.extract 0 x ++ s2)] 60)) m v l k4 x4 from HM4.out.later HB5.out (Nat.le_refl _))
  have HG5 := Lib.hid (show w.grownBy (w4.alloc (.cells #[.int .u64 0, .string (ps.extract 0 x ++ s2)] 60)) (some m) from HG4.out.trans (below_grown HB5.out _))
  have p5 : (w4.alloc (.cells #[.int .u64 0, .string (ps.extract 0 x ++ s2)] 60)).cell? ⟨gp, 1, none⟩ = some (.string ps) := by rw [cell_of_row _ _ _ _ _ _ HP5.out]; rfl
  clear hg4 hM4 hown hbb hk4 hx4 hbl hs2 hS2 hRT hk3 HM3 HG3 HP3 HR3 HS3 HP4 HR4 HS4 HM4 HG4 HB5
  go_wp2_with fail
  generalize ps.extract 0 x ++ s2 = T at *
  generalize w4.alloc (.cells #[.int .u64 0, .string T] 60) = w5 at *
  generalize w4.heap.size = gc at *
  refine (ref_Shared ps T pl (pl.take x ++ bb) w5 HPS.out HRT.out).mono ?_
  rintro e w6 ⟨rfl, hb⟩
  have HM6 := Lib.hid (HM5.out.later hb (Nat.le_refl _))
  have HG6 := Lib.hid (HG5.out.trans (below_grown hb _))
  have HR6 := Lib.hid ((hb.block (gp + 1) (by have := HS5.out; omega)).trans HR5.out)
  have HQ6 := Lib.hid ((hb.block gc (by have := HS5.out; omega)).trans HQ5.out)
  have HS6 := Lib.hid (show gp + 1 < gc ∧ gc < w6.heap.size from by have := HS5.out; have := hb.size; omega)
  obtain ⟨N, hN⟩ : ∃ N, N = shr pl (pl.take x ++ bb) := ⟨_, rfl⟩
  rw [← hN]
  have HN := Lib.hid hN
  obtain ⟨okb, hok⟩ : ∃ okb, okb = decide (N = x) := ⟨_, rfl⟩
  have hqb : ((N : Int) == (x : Int)) = okb := by
    rw [hok]
    by_cases h9 : N = x
    · rw [h9]; simp
    · rw [decide_eq_false h9, beq_eq_false_iff_ne]; omega
  have HOK := Lib.hid hok
  clear hb HM5 HG5 HP5 HR5 HQ5 HS5 p5 p4 hN hok hz1 hz2 hcat hstr
  go_wp2_with fail
  refine (mod_Must m v l k4 x4 w6 HM6.out okb 6).mono ?_
  rintro e w7 ⟨rfl, hg7, hM7⟩
  obtain ⟨x7, hx7⟩ : ∃ x7, x7 = (if x4 = 0 then (if okb = true then 0 else 6) else x4) := ⟨_, rfl⟩
  rw [← hx7] at hM7
  have HX7 := Lib.hid hx7
  have HM7 := Lib.hid hM7
  have HG7 := Lib.hid (HG6.out.trans hg7)
  have HR7 := Lib.hid ((hg7.block (gp + 1) (by have := HS6.out; omega) (by intro e; injection e with e; have := HGP.out; omega)).trans HR6.out)
  have HQ7 := Lib.hid ((hg7.block gc (by have := HS6.out; omega) (by intro e; injection e with e; have := HGP.out; have := HS6.out; omega)).trans HQ6.out)
  have HS7 := Lib.hid (show gp + 1 < gc ∧ gc < w7.heap.size from by have := HS6.out; have := hg7.size; omega)
  clear hg7 hM7 hx7 HM6 HG6 HR6 HQ6 HS6
  have HOK2 := Lib.hid (show true = true from rfl)
  clear HOK2
  go_wp2_with fail
  refine (mod_Must m v l k4 x7 w7 HM7.out true 11).mono ?_
  rintro e w8 ⟨rfl, hg8, hM8⟩
  obtain ⟨x8, hx8⟩ : ∃ x8, x8 = (if x7 = 0 then (if true = true then 0 else 11) else x7) := ⟨_, rfl⟩
  rw [← hx8] at hM8
  have HX8 := Lib.hid hx8
  have HM8 := Lib.hid hM8
  have HG8 := Lib.hid (HG7.out.trans hg8)
  have HR8 := Lib.hid ((hg8.block (gp + 1) (by have := HS7.out; omega) (by intro e; injection e with e; have := HGP.out; omega)).trans HR7.out)
  have HQ8 := Lib.hid ((hg8.block gc (by have := HS7.out; omega) (by intro e; injection e with e; have := HGP.out; have := HS7.out; omega)).trans HQ7.out)
  have HS8 := Lib.hid (show gp + 1 < gc ∧ gc < w8.heap.size from by have := HS7.out; have := hg8.size; omega)
  clear hg8 hM8 hx8 HM7 HG7 HR7 HQ7 HS7
  have HR3 := HR8
  have HM3 := HM8
  have HG3 := HG8
  have HV3 := Lib.hid (show ∀ j, j < l.length → (adr v j).block ≠ gp + 1 from fun j hj e => by have h1 := HVB.out j hj; omega)
  have g0 : w8.cell? ⟨gc, 0, none⟩ = some (.int .u64 0) := by rw [cell_of_row _ _ _ _ _ _ HQ8.out]; rfl
  have g1 : w8.cell? ⟨gc, 1, none⟩ = some (.string T) := by rw [cell_of_row _ _ _ _ _ _ HQ8.out]; rfl
  clear HR8 HM8 HG8
  have c0 : w8.cell? ⟨gp + 1, 0, none⟩ = some (.int .u64 0) := by rw [cell_of_row _ _ _ _ _ _ HR3.out]; rfl
  have f0 : w8.frozen? ⟨gp + 1, 0, none⟩ = false := frozen_of_row _ _ _ _ _ HR3.out
  have c1 : (w8.setCell ⟨gp + 1, 0, none⟩ (.int .u64 (0 : Int))).cell? ⟨gp + 1, 1, none⟩ = some (.string ⟨#[]⟩) := by rw [cell_of_row _ _ _ _ _ _ (block_setCell HR3.out _)]; rfl
  have f1 : (w8.setCell ⟨gp + 1, 0, none⟩ (.int .u64 (0 : Int))).frozen? ⟨gp + 1, 1, none⟩ = false := frozen_of_row _ _ _ _ _ (block_setCell HR3.out _)
  have e0 : ((w8.setCell ⟨gp + 1, 0, none⟩ (.int .u64 (0 : Int))).setCell ⟨gp + 1, 1, none⟩ (.string T)).cell? ⟨gp + 1, 0, none⟩ = some (.int .u64 (0 : Int)) := by rw [cell_of_row _ _ _ _ _ _ (block_setCell (block_setCell HR3.out _) _)]; rfl
  have e1 : ((w8.setCell ⟨gp + 1, 0, none⟩ (.int .u64 (0 : Int))).setCell ⟨gp + 1, 1, none⟩ (.string T)).cell? ⟨gp + 1, 1, none⟩ = some (.string T) := by rw [cell_of_row _ _ _ _ _ _ (block_setCell (block_setCell HR3.out _) _)]; rfl
  have HM4 := Lib.hid (show Mdl ((w8.setCell ⟨gp + 1, 0, none⟩ (.int .u64 (0 : Int))).setCell ⟨gp + 1, 1, none⟩ (.string T)) m v l k4 x8 from by
    have hgv : w8.grownBy ((w8.setCell ⟨gp + 1, 0, none⟩ (.int .u64 (0 : Int))).setCell ⟨gp + 1, 1, none⟩ (.string T)) (some (gp + 1)) := grown_setCell (grown_setCell (World.grownBy.refl _ _) _) _
    refine HM3.out.same (hgv.block m HM3.out.lt (by intro e; injection e with e; have := HGP.out; omega)) fun j hj => hgv.block _ (HM3.out.rd.block hj) (fun e => ?_)
    injection e with e
    exact HV3.out j hj e)
  have HG4 := Lib.hid (show w.grownBy ((w8.setCell ⟨gp + 1, 0, none⟩ (.int .u64 (0 : Int))).setCell ⟨gp + 1, 1, none⟩ (.string T)) (some m) from HG3.out.sets (by have := HGW.out; omega) _ _ _ _)
  clear HR3 HM3 HG3
  go_wp2
  generalize ((w8.setCell ⟨gp + 1, 0, none⟩ (.int .u64 (0 : Int))).setCell ⟨gp + 1, 1, none⟩ (.string T)) = w9 at *
  refine bodyPost_ret (by simp [results, Tryz.results113, go_sem, e0, e1]; try rfl) rfl ?_
  have hall := @rd1_of l (3 : Int) i k x k3 x3 k4 x4 x7 x8 (ceL (px, ps)) bb (by decide) (by rw [show (ceL (px, ps)).2 = pl from HPL.out.symm]; exact HU.out) HBB.out HK4.out HX4.out (by rw [HX7.out, HOK.out, HN.out, show (ceL (px, ps)).2 = pl from HPL.out.symm]; simp) (by rw [HX8.out, show (ceL (px, ps)).2 = pl from HPL.out.symm]; simp)
  rw [show (ceL (px, ps)).2 = pl from HPL.out.symm] at hall
  obtain ⟨a1, a2, a3⟩ := hall
  refine ⟨(0, T), rfl, HG4.out, by rw [a1, a2]; exact HM4.out, by show 0 < 18446744073709551616; decide, ?_, fun h => ?_⟩
  · have e := HRT.out.size9
    rw [e, List.length_append, List.length_take]; omega
  · rw [a2] at h
    rw [a3 h]
    exact Prod.ext rfl (by show T.data.toList = _; rw [HRT.out.eq])

set_option maxHeartbeats 8000000 in
theorem ref_oneV (m : Nat) (v : Value) (l : List UInt8) (k : Nat) (w : World) (hM : Mdl w m v l k 0) (i : Nat) (px : Nat) (ps : ByteArray) (hpx : px < 18446744073709551616) (hps : ps.size ≤ 256) (hi : i ≤ 140737488351232)  :
    Calls Tryz.prog 113 #[.pointer (some ⟨m, 0, none⟩), .int .i64 4, .int .i64 (i : Int), cellV px ps] w (OneR w m v l (4 : Int) i (px, ps) k) := by
  unfold cellV
  have hml := hM.lt
  have HM2 := Lib.hid (show Mdl ((w.alloc (.cells #[.int .u64 (px : Int), .string ps] 60)).alloc (.cells #[.int .u64 0, .string ⟨#[]⟩] 60)) m v l k 0 from hM.later (((Below.refl w.heap.size w).alloc (Nat.le_refl _) _).alloc (by rw [World.size_alloc]; omega) _) (Nat.le_refl _))
  have HG2 := Lib.hid (show w.grownBy ((w.alloc (.cells #[.int .u64 (px : Int), .string ps] 60)).alloc (.cells #[.int .u64 0, .string ⟨#[]⟩] 60)) (some m) from below_grown (((Below.refl w.heap.size w).alloc (Nat.le_refl _) _).alloc (by rw [World.size_alloc]; omega) _) _)
  have HP2 := Lib.hid (show ((w.alloc (.cells #[.int .u64 (px : Int), .string ps] 60)).alloc (.cells #[.int .u64 0, .string ⟨#[]⟩] 60)).heap[w.heap.size]? = some (.cells #[.int .u64 (px : Int), .string ps] 60 (0, 0)) from (Below.heap_alloc _ _ _ (by rw [World.size_alloc]; omega)).trans (heap_alloc_new _ _))
  have HR2 := Lib.hid (show ((w.alloc (.cells #[.int .u64 (px : Int), .string ps] 60)).alloc (.cells #[.int .u64 0, .string ⟨#[]⟩] 60)).heap[w.heap.size + 1]? = some (.cells #[.int .u64 0, .string ⟨#[]⟩] 60 (0, 0)) from by have := heap_alloc_new (w.alloc (.cells #[.int .u64 (px : Int), .string ps] 60)) (.cells #[.int .u64 0, .string ⟨#[]⟩] 60); rw [World.size_alloc] at this; exact this)
  have HS2 := Lib.hid (show w.heap.size + 2 ≤ ((w.alloc (.cells #[.int .u64 (px : Int), .string ps] 60)).alloc (.cells #[.int .u64 0, .string ⟨#[]⟩] 60)).heap.size from by rw [World.size_alloc, World.size_alloc]; omega)
  obtain ⟨gp, hgp⟩ : ∃ gp, gp = w.heap.size := ⟨_, rfl⟩
  have HGP := Lib.hid (show m < gp by omega)
  have HGW := Lib.hid (show w.heap.size ≤ gp by omega)
  have HVB := Lib.hid (show ∀ j, j < l.length → (adr v j).block < gp from fun j hj => by rw [hgp]; exact hM.rd.block hj)

  clear hM
  have hsz : ps.size = ps.data.toList.length := (rdS_of (s := ps) (by omega)).size9
  obtain ⟨pl, hpl⟩ : ∃ pl, pl = ps.data.toList := ⟨_, rfl⟩
  have HPS := Lib.hid (rdS_of (s := ps) (by omega))
  rw [← hpl] at HPS hsz
  have HPL := Lib.hid hpl
  have p1 : ((w.alloc (.cells #[.int .u64 (px : Int), .string ps] 60)).alloc (.cells #[.int .u64 0, .string ⟨#[]⟩] 60)).cell? ⟨w.heap.size, 1, none⟩ = some (.string ps) := by rw [cell_of_row _ _ _ _ _ _ HP2.out]; rfl
  have hlen := HPS.out.len
  clear hpl
  go_enter Tryz.func113, Tryz.ntmps113
  go_wp2_with fail
  generalize ((w.alloc (.cells #[.int .u64 (px : Int), .string ps] 60)).alloc (.cells #[.int .u64 0, .string ⟨#[]⟩] 60)) = w2 at *
  rw [← hgp] at HP2 HR2 HS2 p1 ⊢
  clear hgp
  refine (model_Uint m v l k w2 HM2.out pl.length (by omega)).mono ?_
  rintro e w3 ⟨rfl, hg3, hM3⟩
  have hxl : (rdU l k pl.length).1 ≤ pl.length := by
    unfold rdU
    split
    · omega
    · split <;> dsimp only <;> omega
  rcases hr : rdU l k pl.length with ⟨x, k3, x3⟩
  rw [hr] at hM3 hxl
  dsimp only at hM3 hxl ⊢
  have HU := Lib.hid hr
  have HM3 := Lib.hid hM3
  have HG3 := Lib.hid (HG2.out.trans hg3)
  have HP3 := Lib.hid ((hg3.block gp (by have := HS2.out; omega) (by intro e; injection e with e; have := HGP.out; omega)).trans HP2.out)
  have HR3 := Lib.hid ((hg3.block (gp + 1) (by have := HS2.out; omega) (by intro e; injection e with e; have := HGP.out; omega)).trans HR2.out)
  have HS3 := Lib.hid (show gp + 2 ≤ w3.heap.size by have := HS2.out; have := hg3.size; omega)
  clear hr hM3 hg3 HM2 HG2 HP2 HR2 HS2 p1 hlen
  have hk3 : k3 ≤ l.length := HM3.out.le
  have hbl := rdB_most (l := l) (k := k3) (most := 256 - (x : Int)) hk3 (by omega)
  go_wp2_with fail
  refine (mod_Bytes m v l k3 x3 w3 HM3.out (256 - (x : Int)) (by omega)).mono ?_
  rintro e w4 ⟨val, ⟨rfl, hg4, hM4⟩, hown⟩
  obtain ⟨bb, hbb⟩ : ∃ bb, bb = (if x3 = 0 then (rdB l k3 (256 - (x : Int))).1 else []) := ⟨_, rfl⟩
  obtain ⟨k4, hk4⟩ : ∃ k4, k4 = (if x3 = 0 then (rdB l k3 (256 - (x : Int))).2.1 else k3) := ⟨_, rfl⟩
  obtain ⟨x4, hx4⟩ : ∃ x4, x4 = (if x3 = 0 then (rdB l k3 (256 - (x : Int))).2.2 else x3) := ⟨_, rfl⟩
  rw [← hbb] at hown
  rw [← hk4, ← hx4] at hM4
  have hbl2 : bb.length ≤ 512 := by
    rw [hbb]; split
    · omega
    · simp
  have hstr := (hown.rd (by omega)).str
  obtain ⟨s2, hs2⟩ : ∃ s : ByteArray, s = ⟨bb.toArray⟩ := ⟨_, rfl⟩
  have hS2 : RdS s2 bb := ⟨hs2, by omega⟩
  rw [← hs2] at hstr
  have hz1 : (ps.extract 0 x).size = x := by rw [(HPS.out.takeS x).size9, List.length_take]; omega
  have hz2 : s2.size = bb.length := hS2.size9
  have hRT : RdS (ps.extract 0 x ++ s2) (pl.take x ++ bb) := (HPS.out.takeS x).app9 hS2 (by rw [List.length_take]; omega)
  have hcat : ¬ ((ps.extract 0 x).size + s2.size > 9223372036854775807) := by omega
  have HRT := Lib.hid hRT
  have HBB := Lib.hid hbb
  have HK4 := Lib.hid hk4
  have HX4 := Lib.hid hx4
  have HM4 := Lib.hid hM4
  have HG4 := Lib.hid (HG3.out.trans hg4)
  have HP4 := Lib.hid ((hg4.block gp (by have := HS3.out; omega) (by intro e; injection e with e; have := HGP.out; omega)).trans HP3.out)
  have HR4 := Lib.hid ((hg4.block (gp + 1) (by have := HS3.out; omega) (by intro e; injection e with e; have := HGP.out; omega)).trans HR3.out)
  have HS4 := Lib.hid (show gp + 2 ≤ w4.heap.size by have := HS3.out; have := hg4.size; omega)
  have p4 : w4.cell? ⟨gp, 1, none⟩ = some (.string ps) := by rw [cell_of_row _ _ _ _ _ _ HP4.out]; rfl
  have HP5 := Lib.hid (show (w4.alloc (.cells #[.int .u64 0, .string (ps.extract 0 x ++ s2)] 60)).heap[gp]? = some (.cells #[.int .u64 (px : Int), .string ps] 60 (0, 0)) from (Below.heap_alloc _ _ _ (by have := HS4.out; omega)).trans HP4.out)
  have HR5 := Lib.hid (show (w4.alloc (.cells #[.int .u64 0, .string (ps.extract 0 x ++ s2)] 60)).heap[gp + 1]? = some (.cells #[.int .u64 0, .string ⟨#[]⟩] 60 (0, 0)) from (Below.heap_alloc _ _ _ (by have := HS4.out; omega)).trans HR4.out)
  have HQ5 := Lib.hid (show (w4.alloc (.cells #[.int .u64 0, .string (ps.extract 0 x ++ s2)] 60)).heap[w4.heap.size]? = some (.cells #[.int .u64 0, .string (ps.extract 0 x ++ s2)] 60 (0, 0)) from heap_alloc_new _ _)
  have HB5 := Lib.hid (show Below w4.heap.size w4 (w4.alloc (.cells #[.int .u64 0, .string (ps.extract 0 x ++ s2)] 60)) from (Below.refl _ _).alloc (Nat.le_refl _) _)
  have HS5 := Lib.hid (show gp + 1 < w4.heap.size ∧ w4.heap.size < (w4.alloc (.cells #[.int .u64 0, .string (ps.extract 0 x ++ s2)] 60)).heap.size from by have := HS4.out; rw [World.size_alloc]; omega)
  have HM5 := Lib.hid (show Mdl (w4.alloc (.cells #[.int .u64 0, .string (ps.extract 0 x ++ s2)] 60)) m v l k4 x4 from HM4.out.later HB5.out (Nat.le_refl _))
  have HG5 := Lib.hid (show w.grownBy (w4.alloc (.cells #[.int .u64 0, .string (ps.extract 0 x ++ s2)] 60)) (some m) from HG4.out.trans (below_grown HB5.out _))
  have p5 : (w4.alloc (.cells #[.int .u64 0, .string (ps.extract 0 x ++ s2)] 60)).cell? ⟨gp, 1, none⟩ = some (.string ps) := by rw [cell_of_row _ _ _ _ _ _ HP5.out]; rfl
  clear hg4 hM4 hown hbb hk4 hx4 hbl hs2 hS2 hRT hk3 HM3 HG3 HP3 HR3 HS3 HP4 HR4 HS4 HM4 HG4 HB5
  go_wp2_with fail
  generalize ps.extract 0 x ++ s2 = T at *
  generalize w4.alloc (.cells #[.int .u64 0, .string T] 60) = w5 at *
  generalize w4.heap.size = gc at *
  refine (ref_Shared ps T pl (pl.take x ++ bb) w5 HPS.out HRT.out).mono ?_
  rintro e w6 ⟨rfl, hb⟩
  have HM6 := Lib.hid (HM5.out.later hb (Nat.le_refl _))
  have HG6 := Lib.hid (HG5.out.trans (below_grown hb _))
  have HR6 := Lib.hid ((hb.block (gp + 1) (by have := HS5.out; omega)).trans HR5.out)
  have HQ6 := Lib.hid ((hb.block gc (by have := HS5.out; omega)).trans HQ5.out)
  have HS6 := Lib.hid (show gp + 1 < gc ∧ gc < w6.heap.size from by have := HS5.out; have := hb.size; omega)
  obtain ⟨N, hN⟩ : ∃ N, N = shr pl (pl.take x ++ bb) := ⟨_, rfl⟩
  rw [← hN]
  have HN := Lib.hid hN
  obtain ⟨okb, hok⟩ : ∃ okb, okb = decide (N = x) := ⟨_, rfl⟩
  have hqb : ((N : Int) == (x : Int)) = okb := by
    rw [hok]
    by_cases h9 : N = x
    · rw [h9]; simp
    · rw [decide_eq_false h9, beq_eq_false_iff_ne]; omega
  have HOK := Lib.hid hok
  clear hb HM5 HG5 HP5 HR5 HQ5 HS5 p5 p4 hN hok hz1 hz2 hcat hstr
  go_wp2_with fail
  refine (mod_Must m v l k4 x4 w6 HM6.out okb 6).mono ?_
  rintro e w7 ⟨rfl, hg7, hM7⟩
  obtain ⟨x7, hx7⟩ : ∃ x7, x7 = (if x4 = 0 then (if okb = true then 0 else 6) else x4) := ⟨_, rfl⟩
  rw [← hx7] at hM7
  have HX7 := Lib.hid hx7
  have HM7 := Lib.hid hM7
  have HG7 := Lib.hid (HG6.out.trans hg7)
  have HR7 := Lib.hid ((hg7.block (gp + 1) (by have := HS6.out; omega) (by intro e; injection e with e; have := HGP.out; omega)).trans HR6.out)
  have HQ7 := Lib.hid ((hg7.block gc (by have := HS6.out; omega) (by intro e; injection e with e; have := HGP.out; have := HS6.out; omega)).trans HQ6.out)
  have HS7 := Lib.hid (show gp + 1 < gc ∧ gc < w7.heap.size from by have := HS6.out; have := hg7.size; omega)
  clear hg7 hM7 hx7 HM6 HG6 HR6 HQ6 HS6
  obtain ⟨ok2, hok2⟩ : ∃ ok2, ok2 = utf8 (pl.take x ++ bb) := ⟨_, rfl⟩
  have HUt := Lib.hid (ref_UTF8 T (pl.take x ++ bb) w7 HRT.out)
  rw [← hok2] at HUt
  have HOK2 := Lib.hid hok2
  have u1 : w7.cell? ⟨gc, 1, none⟩ = some (.string T) := by rw [cell_of_row _ _ _ _ _ _ HQ7.out]; rfl
  clear hok2
  go_wp2_with fail
  refine HUt.out.mono ?_
  rintro e w8 ⟨rfl, rfl⟩
  go_wp2_with fail
  refine (mod_Must m v l k4 x7 w7 HM7.out ok2 11).mono ?_
  rintro e w8 ⟨rfl, hg8, hM8⟩
  obtain ⟨x8, hx8⟩ : ∃ x8, x8 = (if x7 = 0 then (if ok2 = true then 0 else 11) else x7) := ⟨_, rfl⟩
  rw [← hx8] at hM8
  have HX8 := Lib.hid hx8
  have HM8 := Lib.hid hM8
  have HG8 := Lib.hid (HG7.out.trans hg8)
  have HR8 := Lib.hid ((hg8.block (gp + 1) (by have := HS7.out; omega) (by intro e; injection e with e; have := HGP.out; omega)).trans HR7.out)
  have HQ8 := Lib.hid ((hg8.block gc (by have := HS7.out; omega) (by intro e; injection e with e; have := HGP.out; have := HS7.out; omega)).trans HQ7.out)
  have HS8 := Lib.hid (show gp + 1 < gc ∧ gc < w8.heap.size from by have := HS7.out; have := hg8.size; omega)
  clear hg8 hM8 hx8 HM7 HG7 HR7 HQ7 HS7
  have HR3 := HR8
  have HM3 := HM8
  have HG3 := HG8
  have HV3 := Lib.hid (show ∀ j, j < l.length → (adr v j).block ≠ gp + 1 from fun j hj e => by have h1 := HVB.out j hj; omega)
  have g0 : w8.cell? ⟨gc, 0, none⟩ = some (.int .u64 0) := by rw [cell_of_row _ _ _ _ _ _ HQ8.out]; rfl
  have g1 : w8.cell? ⟨gc, 1, none⟩ = some (.string T) := by rw [cell_of_row _ _ _ _ _ _ HQ8.out]; rfl
  clear HR8 HM8 HG8
  have c0 : w8.cell? ⟨gp + 1, 0, none⟩ = some (.int .u64 0) := by rw [cell_of_row _ _ _ _ _ _ HR3.out]; rfl
  have f0 : w8.frozen? ⟨gp + 1, 0, none⟩ = false := frozen_of_row _ _ _ _ _ HR3.out
  have c1 : (w8.setCell ⟨gp + 1, 0, none⟩ (.int .u64 (0 : Int))).cell? ⟨gp + 1, 1, none⟩ = some (.string ⟨#[]⟩) := by rw [cell_of_row _ _ _ _ _ _ (block_setCell HR3.out _)]; rfl
  have f1 : (w8.setCell ⟨gp + 1, 0, none⟩ (.int .u64 (0 : Int))).frozen? ⟨gp + 1, 1, none⟩ = false := frozen_of_row _ _ _ _ _ (block_setCell HR3.out _)
  have e0 : ((w8.setCell ⟨gp + 1, 0, none⟩ (.int .u64 (0 : Int))).setCell ⟨gp + 1, 1, none⟩ (.string T)).cell? ⟨gp + 1, 0, none⟩ = some (.int .u64 (0 : Int)) := by rw [cell_of_row _ _ _ _ _ _ (block_setCell (block_setCell HR3.out _) _)]; rfl
  have e1 : ((w8.setCell ⟨gp + 1, 0, none⟩ (.int .u64 (0 : Int))).setCell ⟨gp + 1, 1, none⟩ (.string T)).cell? ⟨gp + 1, 1, none⟩ = some (.string T) := by rw [cell_of_row _ _ _ _ _ _ (block_setCell (block_setCell HR3.out _) _)]; rfl
  have HM4 := Lib.hid (show Mdl ((w8.setCell ⟨gp + 1, 0, none⟩ (.int .u64 (0 : Int))).setCell ⟨gp + 1, 1, none⟩ (.string T)) m v l k4 x8 from by
    have hgv : w8.grownBy ((w8.setCell ⟨gp + 1, 0, none⟩ (.int .u64 (0 : Int))).setCell ⟨gp + 1, 1, none⟩ (.string T)) (some (gp + 1)) := grown_setCell (grown_setCell (World.grownBy.refl _ _) _) _
    refine HM3.out.same (hgv.block m HM3.out.lt (by intro e; injection e with e; have := HGP.out; omega)) fun j hj => hgv.block _ (HM3.out.rd.block hj) (fun e => ?_)
    injection e with e
    exact HV3.out j hj e)
  have HG4 := Lib.hid (show w.grownBy ((w8.setCell ⟨gp + 1, 0, none⟩ (.int .u64 (0 : Int))).setCell ⟨gp + 1, 1, none⟩ (.string T)) (some m) from HG3.out.sets (by have := HGW.out; omega) _ _ _ _)
  clear HR3 HM3 HG3
  go_wp2
  generalize ((w8.setCell ⟨gp + 1, 0, none⟩ (.int .u64 (0 : Int))).setCell ⟨gp + 1, 1, none⟩ (.string T)) = w9 at *
  refine bodyPost_ret (by simp [results, Tryz.results113, go_sem, e0, e1]; try rfl) rfl ?_
  have hall := @rd1_of l (4 : Int) i k x k3 x3 k4 x4 x7 x8 (ceL (px, ps)) bb (by decide) (by rw [show (ceL (px, ps)).2 = pl from HPL.out.symm]; exact HU.out) HBB.out HK4.out HX4.out (by rw [HX7.out, HOK.out, HN.out, show (ceL (px, ps)).2 = pl from HPL.out.symm]; simp) (by rw [HX8.out, show (ceL (px, ps)).2 = pl from HPL.out.symm]; rw [HOK2.out]; cases utf8 (List.take x pl ++ bb) <;> simp)
  rw [show (ceL (px, ps)).2 = pl from HPL.out.symm] at hall
  obtain ⟨a1, a2, a3⟩ := hall
  refine ⟨(0, T), rfl, HG4.out, by rw [a1, a2]; exact HM4.out, by show 0 < 18446744073709551616; decide, ?_, fun h => ?_⟩
  · have e := HRT.out.size9
    rw [e, List.length_append, List.length_take]; omega
  · rw [a2] at h
    rw [a3 h]
    exact Prod.ext rfl (by show T.data.toList = _; rw [HRT.out.eq])

theorem ref_one (m : Nat) (v : Value) (l : List UInt8) (k : Nat) (w : World) (hM : Mdl w m v l k 0) (kind : Int) (hk : 0 ≤ kind ∧ kind ≤ 5) (i : Nat) (p : CellB) (hp : Fit kind (ceL p)) (h2 : kind ≠ 2) (hi : i ≤ 140737488351232) :
    Calls Tryz.prog 113 #[.pointer (some ⟨m, 0, none⟩), .int .i64 kind, .int .i64 (i : Int), cellV p.1 p.2] w (OneR w m v l kind i p k) := by
  obtain ⟨px, ps⟩ := p
  have hpx : px < 18446744073709551616 := hp.lt
  have hps : ps.size ≤ 256 := by
    by_cases ht : kind = 3 ∨ kind = 4
    · have := (hp.text ht).2.1
      simpa [ceL] using this
    · have := (hp.num ht).1
      have e : ps.data.toList.length = 0 := by
        have e9 : ps.data.toList = [] := this
        rw [e9]; rfl
      have : ps.size = 0 := by simpa using e
      omega
  by_cases h3 : kind = 3
  · subst h3; exact ref_oneT m v l k w hM i px ps hpx hps hi
  · by_cases h4 : kind = 4
    · subst h4; exact ref_oneV m v l k w hM i px ps hpx hps hi
    · by_cases h0 : i = 0
      · by_cases hz : kind = 0
        · exact ref_oneS0 m v l k w hM kind i px ps hpx hps hi h0 hz
        · exact ref_oneU m v l k w hM kind i px ps hpx hps hi h0 hz h3 h4
      · exact ref_oneS2 m v l k w hM kind i px ps hpx hps hi h0 h3 h4

end Go.Proofs.YteiphdcgffapbaaGreatDoor
