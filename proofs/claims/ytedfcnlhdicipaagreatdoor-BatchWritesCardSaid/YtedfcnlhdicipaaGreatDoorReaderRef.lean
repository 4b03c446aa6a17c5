/-
  The document's own answers for layer 3 (deckleref03): the walks of its methods.
-/
import Derived.Test.YtedfcnlhdicipaaGreatDoorReader
import Derived.Test.YtedfcnlhdicipaaGreatDoorGWireR
import Derived.Deep.QuietTactic
import Derived.BigQuiet
set_option linter.unusedVariables false
set_option linter.unusedSimpArgs false
set_option maxRecDepth 1000000
namespace Go.Proofs.YtedfcnlhdicipaaGreatDoor
open Go.RowKit

/-- The model in block m: of the bytes v, which read as l, at place k, with x. -/
structure Mdl (w : World) (m : Nat) (v : Value) (l : List UInt8) (k x : Nat) : Prop where
  blk : w.heap[m]? = some (.cells #[v, .int .i64 (k : Int), .int .i64 (x : Int)] 73 (0, 0))
  le : k ≤ l.length
  rd : Rd w v l
  off : ∀ i, i < l.length → (adr v i).block ≠ m

section
variable {w w' : World} {m : Nat} {v : Value} {l : List UInt8} {k x : Nat}
theorem Mdl.lt (h : Mdl w m v l k x) : m < w.heap.size := (Array.getElem?_eq_some_iff.1 h.blk).1
theorem Mdl.cell0 (h : Mdl w m v l k x) : w.cell? ⟨m, 0, none⟩ = some v := by rw [cell_of_row _ _ _ _ _ _ h.blk]; rfl
theorem Mdl.cell1 (h : Mdl w m v l k x) : w.cell? ⟨m, 1, none⟩ = some (.int .i64 k) := by rw [cell_of_row _ _ _ _ _ _ h.blk]; rfl
theorem Mdl.cell2 (h : Mdl w m v l k x) : w.cell? ⟨m, 2, none⟩ = some (.int .i64 x) := by rw [cell_of_row _ _ _ _ _ _ h.blk]; rfl
theorem Mdl.free (h : Mdl w m v l k x) (i : Nat) : w.frozen? ⟨m, i, none⟩ = false := frozen_of_row _ _ _ _ _ h.blk
theorem Mdl.same (h : Mdl w m v l k x) (hg : w'.heap[m]? = w.heap[m]?) (hs : ∀ i, i < l.length → w'.heap[(adr v i).block]? = w.heap[(adr v i).block]?) : Mdl w' m v l k x :=
  ⟨hg.trans h.blk, h.le, h.rd.same hs, h.off⟩
theorem Mdl.setAt (h : Mdl w m v l k x) {n : Nat} (hn : n ≤ l.length) : Mdl (w.setCell ⟨m, 1, none⟩ (.int .i64 n)) m v l n x :=
  ⟨block_setCell h.blk _, hn, h.rd.same fun i hi => Below.heap_setCell _ _ _ _ (h.off i hi), h.off⟩
theorem Mdl.setErr (h : Mdl w m v l k x) (y : Nat) : Mdl (w.setCell ⟨m, 2, none⟩ (.int .i64 y)) m v l k y :=
  ⟨block_setCell h.blk _, h.le, h.rd.same fun i hi => Below.heap_setCell _ _ _ _ (h.off i hi), h.off⟩
theorem Mdl.later {B : Nat} (h : Mdl w m v l k x) (hb : Below B w w') (hB : w.heap.size ≤ B) : Mdl w' m v l k x :=
  h.same (hb.block _ (Nat.lt_of_lt_of_le h.lt hB)) fun i hi => hb.block _ (Nat.lt_of_lt_of_le (h.rd.block hi) hB)
theorem Mdl.drew (h : Mdl w m v l k x) : Mdl w.drew m v l k x := ⟨h.blk, h.le, h.rd.drew, h.off⟩
theorem Mdl.only {S : Nat → Prop} (h : Mdl w m v l k x) (hO : Only S w w') (hm : ¬ S m) (hS : ∀ i, i < l.length → ¬ S (adr v i).block) : Mdl w' m v l k x :=
  h.same (hO.block _ h.lt hm) fun i hi => hO.block _ (h.rd.block hi) (hS i hi)
end

/-- What a method of the model does. -/
def Does (w : World) (m : Nat) (v : Value) (l : List UInt8) (val : Value) (k' x' : Nat) (e : Ending) (w' : World) : Prop := e = .returned val ∧ w.grownBy w' (some m) ∧ Mdl w' m v l k' x'

theorem model_rest (m : Nat) (v : Value) (l : List UInt8) (k x : Nat) (w : World) (hM : Mdl w m v l k x) :
    Calls Tryz.prog 110 #[.pointer (some ⟨m, 0, none⟩)] w fun e w' => ∃ u, e = .returned u ∧ Below w.heap.size w w' ∧ ∀ w2, Rd w2 v l → Rd w2 u (l.drop k) := by
  have c0 := hM.cell0
  have c1 := hM.cell1
  obtain ⟨vb, hsl, hrd⟩ := hM.rd.from k hM.le
  clear hM
  go_enter Tryz.func110, Tryz.ntmps110
  go_wp2
  go_region
  go_wp2
  go_ret
  exact ⟨_, rfl, (Below.refl _ _).drew, hrd⟩

set_option maxHeartbeats 1000000 in
set_option maxRecDepth 1000000 in
theorem model_Byte (m : Nat) (v : Value) (l : List UInt8) (k : Nat) (w : World) (hM : Mdl w m v l k 0) :
    Calls Tryz.prog 111 #[.pointer (some ⟨m, 0, none⟩)] w (Does w m v l (.int .u8 (if k < l.length then at8 l k else 0)) (if k < l.length then k + 1 else k) (if k < l.length then 0 else 5)) := by
  have hsm := hM.rd.small
  have hle := hM.le
  have e2 := hM.cell2
  by_cases hk : k < l.length
  · simp only [if_pos hk]
    go_enter Tryz.func111, Tryz.ntmps111
    go_wp2_with fail
    refine (model_rest _ _ _ _ _ _ hM).mono ?_
    rintro e w0 ⟨u, rfl, hb0, hu⟩
    have hMd := hM.later hb0 (Nat.le_refl _)
    have hul := (hu _ hMd.rd).len
    have hz : ((((l.drop k).length : Nat) : Int) == 0) = false := by simp; omega
    have c1 := hMd.cell1
    have f1 := hMd.free 1
    have hS := hMd.setAt (n := k + 1) (by omega)
    have d0 := hS.cell0
    have d1 := hS.cell1
    have hidx := hS.rd.idx k hk
    have hcel := hS.rd.cells k hk
    have hg : w.grownBy (w0.setCell ⟨m, 1, none⟩ (.int .i64 ((k + 1 : Nat) : Int))) (some m) := grown_setCell (below_grown hb0 _) _
    have HS := Lib.hid hS
    have HG := Lib.hid hg
    clear hM hMd hS hg hu hb0
    rw [show ((k + 1 : Nat) : Int) = (k : Int) + 1 from by omega] at *
    generalize (l.drop k).length = q at *
    go_wp2
    go_region
    go_wp2
    go_ret
    exact ⟨rfl, HG.out.trans_drew, HS.out.drew⟩
  · simp only [if_neg hk]
    obtain rfl : k = l.length := by omega
    go_enter Tryz.func111, Tryz.ntmps111
    go_wp2_with fail
    refine (model_rest _ _ _ _ _ _ hM).mono ?_
    rintro e w0 ⟨u, rfl, hb0, hu⟩
    have hMd := hM.later hb0 (Nat.le_refl _)
    have hul := (hu _ hMd.rd).len
    have hz : ((((l.drop l.length).length : Nat) : Int) == 0) = true := by simp
    have c2 := hMd.cell2
    have f2 := hMd.free 2
    have HS := Lib.hid (hMd.setErr 5)
    have HG : w.grownBy (w0.setCell ⟨m, 2, none⟩ (.int .i64 ((5 : Nat) : Int))) (some m) := grown_setCell (below_grown hb0 _) _
    have HG := Lib.hid HG
    clear hM hMd hu hb0
    generalize (l.drop l.length).length = q at *
    go_wp2
    go_ret
    exact ⟨rfl, HG.out, HS.out⟩

set_option maxHeartbeats 1000000 in
set_option maxRecDepth 1000000 in
theorem model_Uint (m : Nat) (v : Value) (l : List UInt8) (k : Nat) (w : World) (hM : Mdl w m v l k 0) (most : Nat) (hm : most < 18446744073709551616) :
    Calls Tryz.prog 74 #[.pointer (some ⟨m, 0, none⟩), .int .u64 (most : Int)] w (Does w m v l (.int .u64 ((rdU l k most).1 : Int)) (rdU l k most).2.1 (rdU l k most).2.2) := by
  have hsm := hM.rd.small
  have hle := hM.le
  have e2 := hM.cell2
  have hg := getU_good (l.drop k)
  rcases hr : getU (l.drop k) with ⟨x, n, er⟩
  rw [hr] at hg
  dsimp only at hg
  have HU := Lib.hid hr
  by_cases he : er = 0
  · subst he
    obtain ⟨hx, hn1, hn2, hn3⟩ := hg rfl
    simp only [List.length_drop] at hn2
    by_cases hx2 : most < x
    · have hd : rdU l k most = (0, k, 3) := by unfold rdU; rw [hr]; dsimp only; rw [if_neg (by simp), if_pos hx2]
      rw [hd]
      dsimp only
      clear hr hd
      go_enter Tryz.func74, Tryz.ntmps74
      go_wp2_with fail
      refine (model_rest _ _ _ _ _ _ hM).mono ?_
      rintro e w0 ⟨u, rfl, hb0, hu⟩
      have hMd := hM.later hb0 (Nat.le_refl _)
      go_wp2_with fail
      refine (ref_GetUint _ _ _ (hu _ hMd.rd)).mono ?_
      rintro e w1 ⟨rfl, rfl⟩
      rw [HU.out]
      have c2 := hMd.cell2
      have f2 := hMd.free 2
      have HS := Lib.hid (hMd.setErr 3)
      have HG : w.grownBy (w0.setCell ⟨m, 2, none⟩ (.int .i64 ((3 : Nat) : Int))) (some m) := grown_setCell (below_grown hb0 _) _
      have HG := Lib.hid HG
      clear hM hMd hu hb0
      go_wp2
      go_ret
      exact ⟨rfl, HG.out, HS.out⟩
    · have hd : rdU l k most = (x, k + n, 0) := by unfold rdU; rw [hr]; dsimp only; rw [if_neg (by simp), if_neg hx2]
      rw [hd]
      dsimp only
      clear hr hd
      go_enter Tryz.func74, Tryz.ntmps74
      go_wp2_with fail
      refine (model_rest _ _ _ _ _ _ hM).mono ?_
      rintro e w0 ⟨u, rfl, hb0, hu⟩
      have hMd := hM.later hb0 (Nat.le_refl _)
      go_wp2_with fail
      refine (ref_GetUint _ _ _ (hu _ hMd.rd)).mono ?_
      rintro e w1 ⟨rfl, rfl⟩
      rw [HU.out]
      have c1 := hMd.cell1
      have f1 := hMd.free 1
      have hS := hMd.setAt (n := k + n) (by omega)
      have hgs : w.grownBy (w0.setCell ⟨m, 1, none⟩ (.int .i64 ((k + n : Nat) : Int))) (some m) := grown_setCell (below_grown hb0 _) _
      have HS := Lib.hid hS
      have HG := Lib.hid hgs
      clear hM hMd hu hb0 hS hgs
      rw [show ((k + n : Nat) : Int) = (k : Int) + (n : Int) from by omega] at *
      go_wp2
      go_ret
      exact ⟨rfl, HG.out, HS.out⟩
  · have hd : rdU l k most = (0, k, er) := by unfold rdU; rw [hr]; dsimp only; rw [if_pos he]
    rw [hd]
    dsimp only
    have hne : ((er : Int) != 0) = true := by simp; omega
    have hne' : ((er : Int) == 0) = false := by simp; omega
    clear hr hd
    go_enter Tryz.func74, Tryz.ntmps74
    go_wp2_with fail
    refine (model_rest _ _ _ _ _ _ hM).mono ?_
    rintro e w0 ⟨u, rfl, hb0, hu⟩
    have hMd := hM.later hb0 (Nat.le_refl _)
    go_wp2_with fail
    refine (ref_GetUint _ _ _ (hu _ hMd.rd)).mono ?_
    rintro e w1 ⟨rfl, rfl⟩
    rw [HU.out]
    have c2 := hMd.cell2
    have f2 := hMd.free 2
    have HS := Lib.hid (hMd.setErr er)
    have HG : w.grownBy (w0.setCell ⟨m, 2, none⟩ (.int .i64 (er : Int))) (some m) := grown_setCell (below_grown hb0 _) _
    have HG := Lib.hid HG
    clear hM hMd hu hb0
    go_wp2
    go_ret
    exact ⟨rfl, HG.out, HS.out⟩

theorem rdU_lt {l : List UInt8} {k most : Nat} : (rdU l k most).1 < 2 ^ 64 := by
  unfold rdU
  split
  · simp
  · split
    · simp
    · rename_i h _
      exact (getU_good _ (Decidable.of_not_not h)).1

theorem model_Int (m : Nat) (v : Value) (l : List UInt8) (k : Nat) (w : World) (hM : Mdl w m v l k 0) :
    Calls Tryz.prog 76 #[.pointer (some ⟨m, 0, none⟩)] w (Does w m v l (.int .i64 (zag (rdU l k 18446744073709551615).1)) (rdU l k 18446744073709551615).2.1 (rdU l k 18446744073709551615).2.2) := by
  have hx := rdU_lt (l := l) (k := k) (most := 18446744073709551615)
  rcases hr : rdU l k 18446744073709551615 with ⟨x, n, er⟩
  rw [hr] at hx
  dsimp only at hx ⊢
  have HR := Lib.hid hr
  clear hr
  go_enter Tryz.func76, Tryz.ntmps76
  go_wp2_with fail
  refine (model_Uint m v l k _ hM 18446744073709551615 (by decide)).mono ?_
  rw [HR.out]
  dsimp only
  rintro e w1 ⟨rfl, hg1, hM1⟩
  go_wp2_with fail
  refine (ref_Zag (x : Int) (by omega) (by omega) _).mono ?_
  rintro e w2 ⟨rfl, rfl⟩
  go_wp2
  go_ret
  exact ⟨rfl, hg1, hM1⟩

set_option maxHeartbeats 1000000 in
set_option maxRecDepth 1000000 in
theorem model_Bytes (m : Nat) (v : Value) (l : List UInt8) (k : Nat) (w : World) (hM : Mdl w m v l k 0) (most : Int) (hm : -9223372036854775808 ≤ most ∧ most ≤ 9223372036854775807) :
    Calls Tryz.prog 143 #[.pointer (some ⟨m, 0, none⟩), .int .i64 most] w fun e w' => ∃ val, Does w m v l val (rdB l k most).2.1 (rdB l k most).2.2 e w' ∧ Own w' w.heap.size val (rdB l k most).1 := by
  have hsm := hM.rd.small
  have hle := hM.le
  have hml := hM.lt
  have e2 := hM.cell2
  have hg := getB_good (l.drop k) most
  rcases hr : getB (l.drop k) most with ⟨x, n, er⟩
  rw [hr] at hg
  dsimp only at hg
  obtain ⟨hn2, hn3, hn4⟩ := hg
  simp only [List.length_drop] at hn2
  have HU := Lib.hid hr
  by_cases he : er = 0
  · subst he
    have hd : rdB l k most = (x, k + n, 0) := by unfold rdB; rw [hr]; dsimp only; rw [if_neg (by simp)]
    rw [hd]
    clear hr hd hn4
    go_enter Tryz.func143, Tryz.ntmps143
    go_wp2_with fail
    refine (model_rest _ _ _ _ _ _ hM).mono ?_
    rintro e w0 ⟨u, rfl, hb0, hu⟩
    have hMd := hM.later hb0 (Nat.le_refl _)
    go_wp2_with fail
    refine (ref_GetBytes _ _ most hm.1 hm.2 _ (hu _ hMd.rd)).mono ?_
    rintro e w1 ⟨v1, rfl, ho1, hb1⟩
    rw [HU.out] at ho1 ⊢
    dsimp only at ho1 ⊢
    have hM1 := hMd.later hb1 (Nat.le_refl _)
    have c1 := hM1.cell1
    have f1 := hM1.free 1
    have hS := hM1.setAt (n := k + n) (by omega)
    have hgs : w.grownBy (w1.setCell ⟨m, 1, none⟩ (.int .i64 ((k + n : Nat) : Int))) (some m) := grown_setCell ((below_grown hb0 _).trans (below_grown hb1 _)) _
    have hO : Own (w1.setCell ⟨m, 1, none⟩ (.int .i64 ((k + n : Nat) : Int))) w.heap.size v1 x := ownsRow_setCell_below (ho1.base hb0.size) (a := ⟨m, 1, none⟩) hml _
    have HS := Lib.hid hS
    have HG := Lib.hid hgs
    clear hM hMd hu hb0 hS hgs hM1 ho1 hb1
    rw [show ((k + n : Nat) : Int) = (k : Int) + (n : Int) from by omega] at *
    go_wp2
    go_ret
    exact ⟨_, ⟨rfl, HG.out, HS.out⟩, hO⟩
  · have hd : rdB l k most = ([], k, er) := by unfold rdB; rw [hr]; dsimp only; rw [if_pos he]
    rw [hd]
    have hne : ((er : Int) != 0) = true := by simp; omega
    clear hr hd hn4
    go_enter Tryz.func143, Tryz.ntmps143
    go_wp2_with fail
    refine (model_rest _ _ _ _ _ _ hM).mono ?_
    rintro e w0 ⟨u, rfl, hb0, hu⟩
    have hMd := hM.later hb0 (Nat.le_refl _)
    go_wp2_with fail
    refine (ref_GetBytes _ _ most hm.1 hm.2 _ (hu _ hMd.rd)).mono ?_
    rintro e w1 ⟨v1, rfl, ho1, hb1⟩
    rw [HU.out] at ho1 ⊢
    dsimp only at ho1 ⊢
    have hM1 := hMd.later hb1 (Nat.le_refl _)
    have c2 := hM1.cell2
    have f2 := hM1.free 2
    have HS := Lib.hid (hM1.setErr er)
    have HG : w.grownBy (w1.setCell ⟨m, 2, none⟩ (.int .i64 (er : Int))) (some m) := grown_setCell ((below_grown hb0 _).trans (below_grown hb1 _)) _
    have HG := Lib.hid HG
    clear hM hMd hu hb0 hM1 ho1 hb1
    go_wp2
    go_ret
    exact ⟨_, ⟨rfl, HG.out, HS.out⟩, own_nil _ _⟩

theorem model_Must (m : Nat) (v : Value) (l : List UInt8) (k : Nat) (w : World) (hM : Mdl w m v l k 0) (ok : Bool) (x : Nat) :
    Calls Tryz.prog 73 #[.pointer (some ⟨m, 0, none⟩), .bool ok, .int .i64 (x : Int)] w (Does w m v l (.tuple #[]) k (if ok then 0 else x)) := by
  have c2 := hM.cell2
  have f2 := hM.free 2
  cases ok with
  | true =>
    simp only [if_true]
    go_enter Tryz.func73, Tryz.ntmps73
    go_wp2
    go_end0
    exact ⟨rfl, World.grownBy.refl _ _, hM⟩
  | false =>
    simp only [Bool.false_eq_true, if_false]
    have HS := Lib.hid (hM.setErr x)
    have HG : w.grownBy (w.setCell ⟨m, 2, none⟩ (.int .i64 (x : Int))) (some m) := grown_setCell (World.grownBy.refl _ _) _
    have HG := Lib.hid HG
    clear hM
    go_enter Tryz.func73, Tryz.ntmps73
    go_wp2
    go_end0
    exact ⟨rfl, HG.out, HS.out⟩

/-- Where it ended, and why. -/
def toldM (l : List UInt8) (k x : Nat) : Nat := if x = 0 then (if k < l.length then 7 else 0) else x

set_option maxHeartbeats 1000000 in
set_option maxRecDepth 1000000 in
theorem model_Done (m : Nat) (v : Value) (l : List UInt8) (k x : Nat) (w : World) (hM : Mdl w m v l k x) :
    Calls Tryz.prog 37 #[.pointer (some ⟨m, 0, none⟩)] w fun e w' => e = .returned (.tuple #[.int .i64 (k : Int), .int .i64 (toldM l k x : Int)]) ∧ Below w.heap.size w w' := by
  have c0 := hM.cell0
  have c1 := hM.cell1
  have c2 := hM.cell2
  have hlen := hM.rd.len
  have hle := hM.le
  clear hM
  by_cases hx : x = 0
  · subst hx
    by_cases hk : k < l.length
    · have ht : toldM l k 0 = 7 := by simp [toldM, hk]
      rw [ht]
      clear ht
      have hd : decide ((k : Int) < (l.length : Int)) = true := decide_eq_true (by omega)
      go_enter Tryz.func37, Tryz.ntmps37
      go_wp2
      go_quiet (fail)
      go_wp2
      go_ret2
      exact ⟨rfl, ⟨rfl, rfl, rfl, Nat.le_refl _, fun _ _ => rfl⟩⟩
    · have ht : toldM l k 0 = 0 := by simp [toldM, hk]
      rw [ht]
      clear ht
      have hd : decide ((k : Int) < (l.length : Int)) = false := decide_eq_false (by omega)
      go_enter Tryz.func37, Tryz.ntmps37
      go_wp2
      go_quiet (fail)
      go_wp2
      go_region
      go_wp2
      go_ret2
      exact ⟨rfl, ⟨rfl, rfl, rfl, Nat.le_refl _, fun _ _ => rfl⟩⟩
  · have ht : toldM l k x = x := if_neg hx
    rw [ht]
    clear ht
    have hne' : ((x : Int) == 0) = false := by simp; omega
    go_enter Tryz.func37, Tryz.ntmps37
    go_wp2
    go_quiet (fail)
    go_wp2
    go_region
    go_wp2
    go_ret2
    exact ⟨rfl, ⟨rfl, rfl, rfl, Nat.le_refl _, fun _ _ => rfl⟩⟩

end Go.Proofs.YtedfcnlhdicipaaGreatDoor
