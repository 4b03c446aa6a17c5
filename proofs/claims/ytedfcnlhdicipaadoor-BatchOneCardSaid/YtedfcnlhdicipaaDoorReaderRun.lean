/-
  Layer 3's Run: the deferred closure in both modes, and Run's own contract.
-/
import Derived.Test.YtedfcnlhdicipaaDoorReader
import Derived.Lib.Builder
set_option linter.unusedVariables false
set_option linter.unusedSimpArgs false
set_option maxRecDepth 1000000
namespace Go.Proofs.YtedfcnlhdicipaaDoor
open Go.RowKit

theorem info_reader : (Tryd.prog.info? 57).isSome = true := by kernel_rfl

/-- A reader's pointer is itself. -/
theorem ptr_same (a : Addr) (u : World) : (binOp .neq 37 (.pointer (some a)) (.pointer (some a))).run Tryd.prog u = .ok (.bool false) u := by
  obtain ⟨j, hj⟩ := Option.isSome_iff_exists.1 info_reader
  exact Lib.run_neq_ptr_same u a Tryd.underlying37 hj

/-- What the deferred closure asks of a reader that reads on. -/
theorem reader_outcome (g : Nat) (v : Value) (l : List UInt8) (k : Nat) (w : World) (hR : Rdr w g v l k) (y : Nat) (hy : (if k < l.length then 7 else 0) = y) :
    Calls Tryd.prog 21 #[.pointer (some ⟨g, 0, none⟩)] w fun e w' => e = .returned (.tuple #[.int .i64 (k : Int), .int .i64 (y : Int)]) ∧ Below w.heap.size w w' := by
  have c3 := hR.cell3
  have hle := hR.le
  by_cases hk : k < l.length
  · have hgt : ((l.length - k : Nat) : Int) > 0 := by omega
    rw [if_pos hk] at hy
    subst hy
    go_enter Tryd.func21, Tryd.ntmps21
    go_wp2_with fail
    refine (reader_Left _ _ _ _ _ hR).mono ?_
    rintro e w1 ⟨rfl, hb⟩
    have c1 := (hR.later hb (Nat.le_refl _)).cell1
    clear hR c3
    go_wp2
    go_ret2
    exact ⟨rfl, hb⟩
  · have hgt : ¬ ((l.length - k : Nat) : Int) > 0 := by omega
    rw [if_neg hk] at hy
    subst hy
    go_enter Tryd.func21, Tryd.ntmps21
    go_wp2_with fail
    refine (reader_Left _ _ _ _ _ hR).mono ?_
    rintro e w1 ⟨rfl, hb⟩
    have c1 := (hR.later hb (Nat.le_refl _)).cell1
    clear hR c3
    go_wp2
    go_ret2
    exact ⟨rfl, hb⟩

/-- .. and of one that has ended. -/
theorem ended_outcome (g : Nat) (v : Value) (l : List UInt8) (k x : Nat) (w : World) (hx : x ≠ 0) (hE : Ended w g v l k x) :
    Calls Tryd.prog 21 #[.pointer (some ⟨g, 0, none⟩)] w fun e w' => e = .returned (.tuple #[.int .i64 (k : Int), .int .i64 (x : Int)]) ∧ Below w.heap.size w w' := by
  have c3 : w.cell? ⟨g, 3, none⟩ = some (.int .i64 x) := by rw [cell_of_row _ _ _ _ _ _ hE.blk]; rfl
  have c4 : w.cell? ⟨g, 4, none⟩ = some (.int .i64 k) := by rw [cell_of_row _ _ _ _ _ _ hE.blk]; rfl
  have hne : ((x : Int) != 0) = true := by simp; omega
  clear hE
  go_enter Tryd.func21, Tryd.ntmps21
  go_wp2
  go_region
  go_wp2
  go_ret2
  exact ⟨rfl, (Below.refl _ _).drew⟩

/-- What the closure leaves: place and error told, the reader shut. -/
def Told (B k y : Nat) (w w' : World) : Prop :=
  w'.heap[B]? = some (.cells #[.int .i64 (k : Int)] 3 (0, 0)) ∧ w'.heap[B + 1]? = some (.cells #[.int .i64 (y : Int)] 26 (0, 0)) ∧ Shut w' (B + 2) ∧ Only (fun j => B ≤ j ∧ j < B + 4) w w'

theorem Told.later {B k y : Nat} {w w1 w2 : World} (h : Told B k y w w1) (hb : Below w1.heap.size w1 w2) (hs : B + 2 < w1.heap.size) : Told B k y w w2 := by
  obtain ⟨h1, h2, ⟨a, b, c, d, h3⟩, h4⟩ := h
  exact ⟨(hb.block _ (by omega)).trans h1, (hb.block _ (by omega)).trans h2, ⟨a, b, c, d, (hb.block _ hs).trans h3⟩, h4.below hb (Nat.le_refl _)⟩

set_option maxHeartbeats 1000000 in
set_option maxRecDepth 1000000 in
/-- Run's deferred closure in a frame that returns. -/
theorem run_idle (B : Nat) (v : Value) (l : List UInt8) (k y : Nat) (hy : (if k < l.length then 7 else 0) = y) (w : World) (hr : w.heap[B + 3]? = some (.cells #[.pointer (some ⟨B + 2, 0, none⟩)] 37 (0, 0)))
    (hn : w.heap[B]? = some (.cells #[.int .i64 0] 3 (0, 0))) (he : w.heap[B + 1]? = some (.cells #[.int .i64 0] 26 (0, 0))) (hR : Rdr w (B + 2) v l k) :
    CallsD Tryd.prog 20 #[.pointer (some ⟨B + 3, 0, none⟩), .pointer (some ⟨B, 0, none⟩), .pointer (some ⟨B + 1, 0, none⟩)] .returning w fun r u' w' =>
      r = .returned (.tuple #[]) ∧ u' = .returning ∧ Told B k y w w' := by
  have hr0 := cell_of_one hr
  have hlt : B + 3 < w.heap.size := (Array.getElem?_eq_some_iff.1 hr).1
  refine callsD_of_wpS Tryd.func20 rfl fun c₀ cs hu => ?_
  simp only [Tryd.ntmps20, List.size_toArray, List.length_cons, List.length_nil, Nat.reduceAdd, Nat.reduceSub, Array.replicate_succ,
     Array.replicate_zero, List.push_toArray, List.append_toArray, List.nil_append, List.cons_append]
  apply wpS_seq
  apply wpS_of_wp
  go_wp2_with fail
  refine (reader_outcome _ _ _ _ _ hR y hy).mono ?_
  rintro e w1 ⟨rfl, hb1⟩
  have hr1 := (hb1.block _ (by omega)).trans hr
  have hn1 := (hb1.block _ (by omega)).trans hn
  have he1 := (hb1.block _ (by omega)).trans he
  have hR1 := (hb1.block _ (by omega)).trans hR.blk
  have hbB : Only (fun j => B ≤ j ∧ j < B + 4) w w1 := (Only.refl _ _).below hb1 (Nat.le_refl _)
  clear hr hn he hR hb1 hr0
  have n0 := cell_of_one hn1
  have n1 := free_of_one hn1
  have e0 := cell_of_one he1
  have e1 := free_of_one he1
  have r0 := cell_of_one hr1
  have HR := Lib.hid hr1
  have HN := Lib.hid hn1
  have HE := Lib.hid he1
  have HD := Lib.hid hR1
  have HB := Lib.hid hbB
  clear hr1 hn1 he1 hR1 hbB
  go_wp2
  simp only [Exit.thenS]
  obtain ⟨w2, hw2⟩ : ∃ w2, w2 = (w1.setCell ⟨B, 0, none⟩ (.int .i64 (k : Int))).setCell ⟨B + 1, 0, none⟩ (.int .i64 (y : Int)) := ⟨_, rfl⟩
  have n2 : w2.heap[B]? = some (.cells #[.int .i64 (k : Int)] 3 (0, 0)) := by rw [hw2]; exact (Below.heap_setCell _ ⟨B + 1, 0, none⟩ _ _ (by simp)).trans (one_setCell HN.out)
  have e2 : w2.heap[B + 1]? = some (.cells #[.int .i64 (y : Int)] 26 (0, 0)) := by rw [hw2]; exact one_setCell ((Below.heap_setCell _ ⟨B, 0, none⟩ _ _ (by simp)).trans HE.out)
  have r2 := (Below.heap_setCell (w1.setCell ⟨B, 0, none⟩ (.int .i64 (k : Int))) ⟨B + 1, 0, none⟩ (.int .i64 (y : Int)) (B + 3) (by simp)).trans ((Below.heap_setCell w1 ⟨B, 0, none⟩ (.int .i64 (k : Int)) (B + 3) (by simp)).trans HR.out)
  have d2 := (Below.heap_setCell (w1.setCell ⟨B, 0, none⟩ (.int .i64 (k : Int))) ⟨B + 1, 0, none⟩ (.int .i64 (y : Int)) (B + 2) (by simp)).trans ((Below.heap_setCell w1 ⟨B, 0, none⟩ (.int .i64 (k : Int)) (B + 2) (by simp)).trans HD.out)
  have b2 : Only (fun j => B ≤ j ∧ j < B + 4) w w2 := by rw [hw2]; exact (HB.out.setCell (p := ⟨B, 0, none⟩) (by dsimp only; omega) _).setCell (p := ⟨B + 1, 0, none⟩) (by dsimp only; omega) _
  rw [← hw2] at r2 d2 ⊢
  clear hw2 n0 n1 e0 e1 r0 HR HN HE HD HB
  have r0 := cell_of_one r2
  have c0 : w2.cell? ⟨B + 2, 0, none⟩ = some v := by rw [cell_of_row _ _ _ _ _ _ d2]; rfl
  have c1 : w2.cell? ⟨B + 2, 1, none⟩ = some (.int .i64 k) := by rw [cell_of_row _ _ _ _ _ _ d2]; rfl
  have c2 : w2.cell? ⟨B + 2, 2, none⟩ = some (.bool true) := by rw [cell_of_row _ _ _ _ _ _ d2]; rfl
  have c3 : w2.cell? ⟨B + 2, 3, none⟩ = some (.int .i64 0) := by rw [cell_of_row _ _ _ _ _ _ d2]; rfl
  have c4 : w2.cell? ⟨B + 2, 4, none⟩ = some (.int .i64 0) := by rw [cell_of_row _ _ _ _ _ _ d2]; rfl
  have f0 : w2.frozen? ⟨B + 2, 0, none⟩ = false := frozen_of_row _ _ _ _ _ d2
  have f1 : w2.frozen? ⟨B + 2, 1, none⟩ = false := frozen_of_row _ _ _ _ _ d2
  have f2 : w2.frozen? ⟨B + 2, 2, none⟩ = false := frozen_of_row _ _ _ _ _ d2
  have f3 : w2.frozen? ⟨B + 2, 3, none⟩ = false := frozen_of_row _ _ _ _ _ d2
  have f4 : w2.frozen? ⟨B + 2, 4, none⟩ = false := frozen_of_row _ _ _ _ _ d2
  have HR := Lib.hid r2
  have HN := Lib.hid n2
  have HE := Lib.hid e2
  have HD := Lib.hid d2
  have HB := Lib.hid b2
  clear r2 n2 e2 d2 b2
  apply wpS_seq
  apply wpS_of_wp
  go_wp2
  simp only [Exit.thenS]
  obtain ⟨w3, hw3⟩ : ∃ w3, w3 = ((((w2.setCell ⟨B + 2, 0, none⟩ (.slice none 0 0)).setCell ⟨B + 2, 1, none⟩ (.int .i64 0)).setCell ⟨B + 2, 2, none⟩ (.bool false)).setCell ⟨B + 2, 3, none⟩ (.int .i64 0)).setCell ⟨B + 2, 4, none⟩ (.int .i64 0) := ⟨_, rfl⟩
  rw [← hw3]
  have old : ∀ j, j ≠ B + 2 → w3.heap[j]? = w2.heap[j]? := fun j hj => by
    rw [hw3, Below.heap_setCell _ _ _ _ hj, Below.heap_setCell _ _ _ _ hj, Below.heap_setCell _ _ _ _ hj, Below.heap_setCell _ _ _ _ hj, Below.heap_setCell _ _ _ _ hj]
  have d3 : w3.heap[B + 2]? = some (.cells #[.slice none 0 0, .int .i64 0, .bool false, .int .i64 0, .int .i64 0] 57 (0, 0)) := by
    rw [hw3]; exact block_setCell (block_setCell (block_setCell (block_setCell (block_setCell HD.out _) _) _) _) _
  have hbel : Only (fun j => B ≤ j ∧ j < B + 4) w w3 := by
    rw [hw3]; exact ((((HB.out.setCell (p := ⟨B + 2, 0, none⟩) (by dsimp only; omega) _).setCell (p := ⟨B + 2, 1, none⟩) (by dsimp only; omega) _).setCell (p := ⟨B + 2, 2, none⟩) (by dsimp only; omega) _).setCell (p := ⟨B + 2, 3, none⟩) (by dsimp only; omega) _).setCell (p := ⟨B + 2, 4, none⟩) (by dsimp only; omega) _
  have r3 := (old (B + 3) (by omega)).trans HR.out
  have n3 := (old B (by omega)).trans HN.out
  have e3 := (old (B + 1) (by omega)).trans HE.out
  have hT : Told B k y w w3 := ⟨n3, e3, ⟨_, _, _, _, d3⟩, hbel⟩
  clear hw3 old d3 hbel n3 e3 HR HN HE HD HB r0 c0 c1 c2 c3 c4 f0 f1 f2 f3 f4
  have r0 := cell_of_one r3
  have HR := Lib.hid r3
  have HT := Lib.hid hT
  clear r3 hT
  apply wpS_seq
  apply wpS_region
  simp [wpOpsS, go_sem, recoverD, hu, Exit.thenS]
  apply wpS_of_wp
  go_wp2
  exact ⟨rfl, _, by cases c₀; simp_all, _, results_none rfl _ _ _, rfl, rfl, HT.out⟩

set_option maxHeartbeats 1000000 in
set_option maxRecDepth 1000000 in
/-- .. in a frame that panics with the reader's own end. -/
theorem run_catch (B : Nat) (v : Value) (l : List UInt8) (k y : Nat) (hx : y ≠ 0) (w : World) (hr : w.heap[B + 3]? = some (.cells #[.pointer (some ⟨B + 2, 0, none⟩)] 37 (0, 0)))
    (hn : w.heap[B]? = some (.cells #[.int .i64 0] 3 (0, 0))) (he : w.heap[B + 1]? = some (.cells #[.int .i64 0] 26 (0, 0))) (hR : Ended w (B + 2) v l k y) :
    CallsD Tryd.prog 20 #[.pointer (some ⟨B + 3, 0, none⟩), .pointer (some ⟨B, 0, none⟩), .pointer (some ⟨B + 1, 0, none⟩)] (.panicking [{ v := stopOf (B + 2) y, recovered := false }]) w fun r u' w' =>
      r = .returned (.tuple #[]) ∧ u' = .panicking [{ v := stopOf (B + 2) y, recovered := true }] ∧ Told B k y w w' := by
  have hpp := ptr_same ⟨B + 2, 0, none⟩
  have hta : ∀ (u : World), (Instr.typeAssert (.iface 60 (.agg #[.pointer (some ⟨B + 2, 0, none⟩)])) 20 60 true).run Tryd.prog u = .ok (.tuple #[.agg #[.pointer (some ⟨B + 2, 0, none⟩)], .bool true]) u := fun u => by kernel_rfl
  have hin : ∀ (u : World), (binOp .eql 20 (.iface 60 (.agg #[.pointer (some ⟨B + 2, 0, none⟩)])) .nilIface).run Tryd.prog u = .ok (.bool false) u := fun u => rfl
  have hr0 := cell_of_one hr
  have hlt : B + 3 < w.heap.size := (Array.getElem?_eq_some_iff.1 hr).1
  refine callsD_of_wpS Tryd.func20 rfl fun c₀ cs hu => ?_
  simp only [Tryd.ntmps20, List.size_toArray, List.length_cons, List.length_nil, Nat.reduceAdd, Nat.reduceSub, Array.replicate_succ,
     Array.replicate_zero, List.push_toArray, List.append_toArray, List.nil_append, List.cons_append]
  apply wpS_seq
  apply wpS_of_wp
  go_wp2_with fail
  refine (ended_outcome _ _ _ _ _ _ hx hR).mono ?_
  rintro e w1 ⟨rfl, hb1⟩
  have hr1 := (hb1.block _ (by omega)).trans hr
  have hn1 := (hb1.block _ (by omega)).trans hn
  have he1 := (hb1.block _ (by omega)).trans he
  have hR1 := (hb1.block _ (by omega)).trans hR.blk
  have hbB : Only (fun j => B ≤ j ∧ j < B + 4) w w1 := (Only.refl _ _).below hb1 (Nat.le_refl _)
  clear hr hn he hR hb1 hr0
  have n0 := cell_of_one hn1
  have n1 := free_of_one hn1
  have e0 := cell_of_one he1
  have e1 := free_of_one he1
  have r0 := cell_of_one hr1
  have HR := Lib.hid hr1
  have HN := Lib.hid hn1
  have HE := Lib.hid he1
  have HD := Lib.hid hR1
  have HB := Lib.hid hbB
  clear hr1 hn1 he1 hR1 hbB
  go_wp2
  simp only [Exit.thenS]
  obtain ⟨w2, hw2⟩ : ∃ w2, w2 = (w1.setCell ⟨B, 0, none⟩ (.int .i64 (k : Int))).setCell ⟨B + 1, 0, none⟩ (.int .i64 (y : Int)) := ⟨_, rfl⟩
  have n2 : w2.heap[B]? = some (.cells #[.int .i64 (k : Int)] 3 (0, 0)) := by rw [hw2]; exact (Below.heap_setCell _ ⟨B + 1, 0, none⟩ _ _ (by simp)).trans (one_setCell HN.out)
  have e2 : w2.heap[B + 1]? = some (.cells #[.int .i64 (y : Int)] 26 (0, 0)) := by rw [hw2]; exact one_setCell ((Below.heap_setCell _ ⟨B, 0, none⟩ _ _ (by simp)).trans HE.out)
  have r2 := (Below.heap_setCell (w1.setCell ⟨B, 0, none⟩ (.int .i64 (k : Int))) ⟨B + 1, 0, none⟩ (.int .i64 (y : Int)) (B + 3) (by simp)).trans ((Below.heap_setCell w1 ⟨B, 0, none⟩ (.int .i64 (k : Int)) (B + 3) (by simp)).trans HR.out)
  have d2 := (Below.heap_setCell (w1.setCell ⟨B, 0, none⟩ (.int .i64 (k : Int))) ⟨B + 1, 0, none⟩ (.int .i64 (y : Int)) (B + 2) (by simp)).trans ((Below.heap_setCell w1 ⟨B, 0, none⟩ (.int .i64 (k : Int)) (B + 2) (by simp)).trans HD.out)
  have b2 : Only (fun j => B ≤ j ∧ j < B + 4) w w2 := by rw [hw2]; exact (HB.out.setCell (p := ⟨B, 0, none⟩) (by dsimp only; omega) _).setCell (p := ⟨B + 1, 0, none⟩) (by dsimp only; omega) _
  rw [← hw2] at r2 d2 ⊢
  clear hw2 n0 n1 e0 e1 r0 HR HN HE HD HB
  have r0 := cell_of_one r2
  have c0 : w2.cell? ⟨B + 2, 0, none⟩ = some v := by rw [cell_of_row _ _ _ _ _ _ d2]; rfl
  have c1 : w2.cell? ⟨B + 2, 1, none⟩ = some (.int .i64 k) := by rw [cell_of_row _ _ _ _ _ _ d2]; rfl
  have c2 : w2.cell? ⟨B + 2, 2, none⟩ = some (.bool true) := by rw [cell_of_row _ _ _ _ _ _ d2]; rfl
  have c3 : w2.cell? ⟨B + 2, 3, none⟩ = some (.int .i64 y) := by rw [cell_of_row _ _ _ _ _ _ d2]; rfl
  have c4 : w2.cell? ⟨B + 2, 4, none⟩ = some (.int .i64 k) := by rw [cell_of_row _ _ _ _ _ _ d2]; rfl
  have f0 : w2.frozen? ⟨B + 2, 0, none⟩ = false := frozen_of_row _ _ _ _ _ d2
  have f1 : w2.frozen? ⟨B + 2, 1, none⟩ = false := frozen_of_row _ _ _ _ _ d2
  have f2 : w2.frozen? ⟨B + 2, 2, none⟩ = false := frozen_of_row _ _ _ _ _ d2
  have f3 : w2.frozen? ⟨B + 2, 3, none⟩ = false := frozen_of_row _ _ _ _ _ d2
  have f4 : w2.frozen? ⟨B + 2, 4, none⟩ = false := frozen_of_row _ _ _ _ _ d2
  have HR := Lib.hid r2
  have HN := Lib.hid n2
  have HE := Lib.hid e2
  have HD := Lib.hid d2
  have HB := Lib.hid b2
  clear r2 n2 e2 d2 b2
  apply wpS_seq
  apply wpS_of_wp
  go_wp2
  simp only [Exit.thenS]
  obtain ⟨w3, hw3⟩ : ∃ w3, w3 = ((((w2.setCell ⟨B + 2, 0, none⟩ (.slice none 0 0)).setCell ⟨B + 2, 1, none⟩ (.int .i64 0)).setCell ⟨B + 2, 2, none⟩ (.bool false)).setCell ⟨B + 2, 3, none⟩ (.int .i64 0)).setCell ⟨B + 2, 4, none⟩ (.int .i64 0) := ⟨_, rfl⟩
  rw [← hw3]
  have old : ∀ j, j ≠ B + 2 → w3.heap[j]? = w2.heap[j]? := fun j hj => by
    rw [hw3, Below.heap_setCell _ _ _ _ hj, Below.heap_setCell _ _ _ _ hj, Below.heap_setCell _ _ _ _ hj, Below.heap_setCell _ _ _ _ hj, Below.heap_setCell _ _ _ _ hj]
  have d3 : w3.heap[B + 2]? = some (.cells #[.slice none 0 0, .int .i64 0, .bool false, .int .i64 0, .int .i64 0] 57 (0, 0)) := by
    rw [hw3]; exact block_setCell (block_setCell (block_setCell (block_setCell (block_setCell HD.out _) _) _) _) _
  have hbel : Only (fun j => B ≤ j ∧ j < B + 4) w w3 := by
    rw [hw3]; exact ((((HB.out.setCell (p := ⟨B + 2, 0, none⟩) (by dsimp only; omega) _).setCell (p := ⟨B + 2, 1, none⟩) (by dsimp only; omega) _).setCell (p := ⟨B + 2, 2, none⟩) (by dsimp only; omega) _).setCell (p := ⟨B + 2, 3, none⟩) (by dsimp only; omega) _).setCell (p := ⟨B + 2, 4, none⟩) (by dsimp only; omega) _
  have r3 := (old (B + 3) (by omega)).trans HR.out
  have n3 := (old B (by omega)).trans HN.out
  have e3 := (old (B + 1) (by omega)).trans HE.out
  have hT : Told B k y w w3 := ⟨n3, e3, ⟨_, _, _, _, d3⟩, hbel⟩
  clear hw3 old d3 hbel n3 e3 HR HN HE HD HB r0 c0 c1 c2 c3 c4 f0 f1 f2 f3 f4
  have r0 := cell_of_one r3
  have HR := Lib.hid r3
  have HT := Lib.hid hT
  clear r3 hT
  apply wpS_seq
  apply wpS_region
  simp [wpOpsS, go_sem, recoverD, hu, Exit.thenS]
  apply wpS_of_wp
  simp only [stopOf]
  have hlt3 : B + 3 < w3.heap.size := (Array.getElem?_eq_some_iff.1 HR.out).1
  have r4 : ∀ o, (w3.alloc o).cell? ⟨B + 3, 0, none⟩ = some (.pointer (some ⟨B + 2, 0, none⟩)) := fun o => (World.cell?_of_block (w := w3) (w' := w3.alloc o) (a := ⟨B + 3, 0, none⟩) (Below.heap_alloc _ _ _ hlt3)).trans r0
  have HT4 : ∀ o, Told B k y w (w3.alloc o) := fun o => HT.out.later ((Below.refl _ w3).alloc (Nat.le_refl _) o) (by omega)
  clear r0
  go_wp2
  exact ⟨rfl, _, rfl, _, results_none rfl _ _ _, rfl, rfl, HT4 _⟩

/-- A function with a body is entered where its value is called. -/
theorem enters_fn {f : FuncId} {fn : Func} {c : Code} (hf : Tryd.prog.funcs[f]? = some fn) (hname : (fn.name == "runtime.NumGoroutine") = false) (hb : fn.body = some c) (args : Array Value) (u : World) : (callFunc f args).run Tryd.prog u = .ok (.enter f args) u := by
  have h1 : fn.name ≠ "runtime.NumGoroutine" := by simpa using hname
  simp [callFunc, hf, h1, hb, mark]

/-- How a function that reads has gone: it returns, the reader at k; or the reader has ended at k with x. -/
def Went (g : Nat) (v : Value) (l : List UInt8) (k x : Nat) (e : Ending) (w : World) : Prop :=
  (x = 0 ∧ e = .returned (.tuple #[]) ∧ Rdr w g v l k) ∨ (x ≠ 0 ∧ e = .panicked [{ v := stopOf g x, recovered := false }] ∧ Ended w g v l k x)

/-- What Run tells. -/
def told (l : List UInt8) (k x : Nat) : Nat := if x = 0 then (if k < l.length then 7 else 0) else x

set_option maxHeartbeats 4000000 in
set_option maxRecDepth 1000000 in
theorem reader_RunK (n : Nat) (hn : ∀ (args : Array Value) (u : World), (callFunc n args).run Tryd.prog u = .ok (.enter n args) u) (cap : Array Value) (v : Value) (l : List UInt8) (w : World) (h : Rd w v l) (Post : Nat → Nat → Nat → World → Prop)
    (hP : ∀ g k x a b, Post g k x a → w.heap.size + 4 ≤ a.heap.size → Only (fun j => w.heap.size ≤ j ∧ j < w.heap.size + 4) a b → Post g k x b)
    (hf : ∀ g w1, w.heap.size ≤ g → w.heap.size + 4 ≤ w1.heap.size → g < w.heap.size + 4 → Below w.heap.size w w1 → Rdr w1 g v l 0 →
      Calls Tryd.prog n (#[.pointer (some ⟨g, 0, none⟩)] ++ cap) w1 fun e w2 => ∃ k x, Kept w.heap.size g w1 w2 ∧ Post g k x w2 ∧ Went g v l k x e w2) :
    Calls Tryd.prog 9 #[v, .func (.func n) #[] cap] w fun e w' => ∃ g k x, k ≤ l.length ∧ w.heap.size ≤ g ∧ Post g k x w' ∧ Shut w' g ∧
      e = .returned (.tuple #[.int .i64 (k : Int), .int .i64 (told l k x : Int)]) := by
  have hmf : ∀ (fn : Fn) (first cap : Array Value) (w : World), (Instr.makeFunc fn first cap).run Tryd.prog w = .ok (.func fn first cap) w := fun _ _ _ _ => rfl
  have hnf : ∀ u, (binOp .eql 39 (.func (.func n) #[] cap) .nilFunc).run Tryd.prog u = .ok (.bool false) u := fun u => rfl
  have HP := Lib.hid hP
  have HF := Lib.hid hf
  clear hP hf
  obtain ⟨ao, c, hv, _⟩ := id h.shape
  subst hv
  go_enter_defers Tryd.func9, Tryd.ntmps9
  go_wp2_with fail
  have hblk : (((w.alloc (.cells #[.int .i64 0] 3)).alloc (.cells #[.int .i64 0] 26)).alloc (.cells #[.slice ao l.length c, .int .i64 0, .bool true, .int .i64 0, .int .i64 0] 57)).heap.size = w.heap.size + 3 := by simp
  obtain ⟨w1, hw1⟩ : ∃ w1, w1 = (((w.alloc (.cells #[.int .i64 0] 3)).alloc (.cells #[.int .i64 0] 26)).alloc (.cells #[.slice ao l.length c, .int .i64 0, .bool true, .int .i64 0, .int .i64 0] 57)).alloc (.cells #[.pointer (some ⟨w.heap.size + 1 + 1, 0, none⟩)] 37) := ⟨_, rfl⟩
  rw [← hw1]
  have hs1 : w1.heap.size = w.heap.size + 4 := by rw [hw1]; simp
  have hb1 : Below w.heap.size w w1 := by
    rw [hw1]
    exact ((((Below.refl _ w).alloc (Nat.le_refl _) _).alloc (by simp) _).alloc (by simp [Nat.add_assoc]) _).alloc (by simp [Nat.add_assoc]) _
  have hB0 : w1.heap[w.heap.size]? = some (.cells #[.int .i64 0] 3 (0, 0)) := by
    rw [hw1, Below.heap_alloc _ _ _ (by simp [Nat.add_assoc]), Below.heap_alloc _ _ _ (by simp [Nat.add_assoc]), Below.heap_alloc _ _ _ (by simp)]; exact heap_alloc_new _ _
  have hB1 : w1.heap[w.heap.size + 1]? = some (.cells #[.int .i64 0] 26 (0, 0)) := by
    rw [hw1, Below.heap_alloc _ _ _ (by simp [Nat.add_assoc]), Below.heap_alloc _ _ _ (by simp)]
    have := heap_alloc_new (w.alloc (.cells #[.int .i64 0] 3)) (.cells #[.int .i64 0] 26 (0, 0))
    simpa using this
  have hB2 : w1.heap[w.heap.size + 2]? = some (.cells #[.slice ao l.length c, .int .i64 0, .bool true, .int .i64 0, .int .i64 0] 57 (0, 0)) := by
    rw [hw1, Below.heap_alloc _ _ _ (by simp)]
    have := heap_alloc_new ((w.alloc (.cells #[.int .i64 0] 3)).alloc (.cells #[.int .i64 0] 26 (0, 0))) (.cells #[.slice ao l.length c, .int .i64 0, .bool true, .int .i64 0, .int .i64 0] 57 (0, 0))
    simpa using this
  have hB3 : w1.heap[w.heap.size + 3]? = some (.cells #[.pointer (some ⟨w.heap.size + 2, 0, none⟩)] 37 (0, 0)) := by
    rw [hw1, ← hblk]; exact heap_alloc_new _ _
  have hR : Rdr w1 (w.heap.size + 2) (.slice ao l.length c) l 0 := ⟨hB2, Nat.zero_le _, h.later hb1 (Nat.le_refl _), fun i hi => by have := h.block hi; omega⟩
  clear hw1 hblk
  rw [show w.heap.size + 1 + 1 + 1 = w.heap.size + 3 from rfl, show w.heap.size + 1 + 1 = w.heap.size + 2 from rfl]
  refine (HF.out (w.heap.size + 2) w1 (by omega) (by omega) (by omega) hb1 hR).mono ?_
  rintro e w2 ⟨k, x, hk, hp, hwent⟩
  have hn2 := (hk.block w.heap.size (by omega) (by omega) (by omega)).trans hB0
  have he2 := (hk.block (w.heap.size + 1) (by omega) (by omega) (by omega)).trans hB1
  have hr2 := (hk.block (w.heap.size + 3) (by omega) (by omega) (by omega)).trans hB3
  have hs2 := hk.size
  clear hB0 hB1 hB2 hB3 hk hR hb1
  rcases hwent with ⟨rfl, rfl, hR⟩ | ⟨hx, rfl, hE⟩
  · have c0 := cell_of_one hr2
    have hle := hR.le
    dsimp only
    go_wp2
    refine leaves_cons (f := 20) (args := #[.pointer (some ⟨w.heap.size + 3, 0, none⟩), .pointer (some ⟨w.heap.size, 0, none⟩), .pointer (some ⟨w.heap.size + 1, 0, none⟩)]) (by simp) (by simp [go_sem]) ?_
    obtain ⟨y, hy⟩ : ∃ y : Nat, (if k < l.length then 7 else 0) = y := ⟨_, rfl⟩
    refine (run_idle w.heap.size _ l k y hy _ hr2 hn2 he2 hR).mono ?_
    rintro e u w4 ⟨rfl, rfl, h1, h2, h3, h4⟩
    have d1 := cell_of_one h1
    have d2 := cell_of_one h2
    have hp5 := HP.out _ _ _ _ _ hp (by omega) h4
    simp [Leaves, settle, results, Tryd.results9, go_sem, d1, d2]
    exact ⟨_, k, hle, by omega, 0, hp5, h3, rfl, by simp [told, hy]⟩
  · go_wp2
    refine leaves_cons (f := 20) (args := #[.pointer (some ⟨w.heap.size + 3, 0, none⟩), .pointer (some ⟨w.heap.size, 0, none⟩), .pointer (some ⟨w.heap.size + 1, 0, none⟩)]) (by simp) (by simp [go_sem]) ?_
    refine (run_catch w.heap.size _ l k x hx w2 hr2 hn2 he2 hE).mono ?_
    rintro e u w3 ⟨rfl, rfl, h1, h2, h3, h4⟩
    have d1 := cell_of_one h1
    have d2 := cell_of_one h2
    have hp5 := HP.out _ _ _ _ _ hp (by omega) h4
    simp [Leaves, settle, results, Tryd.results9, go_sem, d1, d2]
    exact ⟨_, k, hE.le, by omega, x, hp5, h3, rfl, by simp [told, hx]⟩

theorem reader_Run (n : Nat) (hn : ∀ (args : Array Value) (u : World), (callFunc n args).run Tryd.prog u = .ok (.enter n args) u) (cap : Array Value) (v : Value) (l : List UInt8) (w : World) (h : Rd w v l) (Post : Nat → Nat → Nat → World → Prop)
    (hP : ∀ g k x a b, Post g k x a → Below w.heap.size a b → Post g k x b)
    (hf : ∀ g w1, w.heap.size ≤ g → Below w.heap.size w w1 → Rdr w1 g v l 0 →
      Calls Tryd.prog n (#[.pointer (some ⟨g, 0, none⟩)] ++ cap) w1 fun e w2 => ∃ k x, Kept w.heap.size g w1 w2 ∧ Post g k x w2 ∧ Went g v l k x e w2) :
    Calls Tryd.prog 9 #[v, .func (.func n) #[] cap] w fun e w' => ∃ g k x, k ≤ l.length ∧ w.heap.size ≤ g ∧ Post g k x w' ∧ Shut w' g ∧
      e = .returned (.tuple #[.int .i64 (k : Int), .int .i64 (told l k x : Int)]) :=
  reader_RunK n hn cap v l w h Post (fun g k x a b hp hs hO => hP g k x a b hp (hO.toBelow (fun j hj => hj.1) (by omega))) (fun g w1 h1 _ _ h2 h3 => hf g w1 h1 h2 h3)

end Go.Proofs.YtedfcnlhdicipaaDoor
