/-
  Package cell: Text and Read, whole.
-/
import Derived.Test.YtkljkpffpdpphaaGreatDoorReadBytes
set_option linter.unusedVariables false
set_option linter.unusedSimpArgs false
set_option maxRecDepth 1000000
namespace Go.Proofs.YtkljkpffpdpphaaGreatDoor
open Go.RowKit Go.Shelf

set_option maxHeartbeats 4000000 in
theorem cell_TextN (kind : Int) (hk : kind = 0 ∨ kind = 1 ∨ kind = 2 ∨ kind = 5) (num : Nat) (hnum : num < 18446744073709551616) (s : ByteArray) (l : List UInt8) (w : World) (h : RdS s l) (hT : Lib3 w) (he : checkC kind num l = 0) :
    Calls Tryz.prog 31 #[.int .i64 kind, cellV num s] w fun e w' => (∃ t, e = .returned (.tuple #[.string t, .int .i64 0]) ∧ RdS t (numL kind num)) ∧ Below w.heap.size w w' := by
  obtain ⟨N0, N1, N2⟩ := new1 w (.cells #[.int .u64 (num : Int), .string s] 45)
  obtain ⟨w0, hw0⟩ : ∃ w0, w0 = w.alloc (.cells #[.int .u64 (num : Int), .string s] 45) := ⟨_, rfl⟩
  rw [← hw0] at N0 N1 N2
  have a0 := new_cellC (i := 0) N1 rfl
  have a1 := new_cellC (i := 1) N1 rfl
  have hcv : ∀ n u, cellV n u = .agg #[.int .u64 (n : Int), .string u] := fun _ _ => rfl
  have hD := cell_Check kind num s l w0 h (hT.tabs.later N2)
  rw [he] at hD
  have hL := hT.later N2
  have hk3 : (kind == 3) = false := by simp; omega
  have hk4 : (kind == 4) = false := by simp; omega
  have HK := Lib.hid hk
  clear hT he hk
  go_enter Tryz.func31, Tryz.ntmps31
  go_wp2_with fail
  rw [← hw0]
  clear hw0
  refine hD.mono ?_
  rintro e w2 ⟨rfl, hb⟩
  have HB := Lib.hid (N2.trans (hb.mono N2.size))
  have s1 := keepB N1 hb
  have hL2 := hL.later hb
  have b0 := new_cellC (i := 0) s1 rfl
  clear hb N1 N2 a0 a1 hD s1 hL
  go_wp2_with fail
  refine (cell_numText kind HK.out num hnum _ hL2).mono ?_
  rintro e w3 ⟨⟨t, rfl, ht⟩, hb⟩
  have HB3 := Lib.hid (HB.out.trans (hb.mono HB.out.size))
  clear hb hL2
  go_wp2
  go_ret2
  exact ⟨⟨_, rfl, ht⟩, HB3.out⟩

/-- What Read answers: a cell, or why there is none. -/
noncomputable def readV (kind : Int) (l : List UInt8) : Option (Nat × List UInt8) × Nat :=
  if ¬ (0 ≤ kind ∧ kind ≤ 5) then (none, 10)
  else if kind = 3 ∨ kind = 4 then ((bytesV kind l).1.map fun b => (0, b), (bytesV kind l).2)
  else match readN kind l with
    | some x => (some (x, []), 0)
    | none => (none, 6)
def RdV (o : Option (Nat × List UInt8) × Nat) (e : Ending) : Prop := match o with
  | (some (x, b), _) => ∃ t : ByteArray, RdS t b ∧ e = .returned (.tuple #[.agg #[.int .u64 (x : Int), .string t], .int .i64 0])
  | (none, k) => e = .returned (.tuple #[.agg #[.int .u64 0, .string ⟨#[]⟩], .int .i64 (k : Int)])

set_option maxHeartbeats 4000000 in
theorem cell_Read (kind : Int) (s : ByteArray) (l : List UInt8) (w : World) (h : RdS s l) (hL : Lib4 w) :
    Calls Tryz.prog 35 #[.int .i64 kind, .string s] w fun e w' => RdV (readV kind l) e ∧ Below w.heap.size w w' := by
  have hb0 : Below w.heap.size w (w.alloc (.cells #[.int .u64 0, .string ⟨#[]⟩] 45)) := (Below.refl _ _).alloc (Nat.le_refl _) _
  obtain ⟨N0, q, N2⟩ := new1 w (.cells #[.int .u64 0, .string ⟨#[]⟩] 45)
  obtain ⟨w0, hw0⟩ : ∃ w0, w0 = w.alloc (.cells #[.int .u64 0, .string ⟨#[]⟩] 45) := ⟨_, rfl⟩
  by_cases hk : 0 ≤ kind ∧ kind ≤ 5
  · by_cases h34 : kind = 3 ∨ kind = 4
    · rw [← hw0] at N0 q N2
      have hL0 := hL.later N2
      have hrb := cell_readBytes kind h34 s l w0 h hL0.l3.tabs
      have HV := Lib.hid (show readV kind l = ((bytesV kind l).1.map fun b => (0, b), (bytesV kind l).2) from by unfold readV; rw [if_neg (by simpa using hk), if_pos h34])
      have hik := cell_isKind kind w0
      rw [decide_eq_true hk] at hik
      clear hL hL0 hb0 N0
      have end1 : ∀ (w2 : World) (e : Ending), Below w0.heap.size w0 w2 → ByV (bytesV kind l) e → (∃ (t : ByteArray) (k : Nat), e = .returned (.tuple #[.agg #[.int .u64 0, .string t], .int .i64 (k : Int)]) ∧ RdV (readV kind l) e) := fun w2 e hb hv => by
        rw [HV.out]
        cases hbv : bytesV kind l with
        | mk o k =>
          rw [hbv] at hv
          cases o with
          | some b =>
            obtain ⟨t, ht, rfl⟩ := hv
            exact ⟨t, 0, rfl, t, ht, rfl⟩
          | none => exact ⟨_, k, hv, hv⟩
      rcases h34 with rfl | rfl
      · go_enter Tryz.func35, Tryz.ntmps35
        go_wp2_with fail
        rw [← hw0]
        clear hw0
        refine hik.mono ?_
        rintro e w1 ⟨rfl, rfl⟩
        go_wp2_with fail
        refine hrb.mono ?_
        rintro e w2 ⟨hv, hb⟩
        obtain ⟨t, k, rfl, hr⟩ := end1 w2 e hb hv
        have q2 := keepB q hb
        have HB := Lib.hid (N2.trans (hb.mono N2.size))
        have HR := Lib.hid hr
        have c0 := new_cellC (i := 0) q2 rfl
        have c1 := new_cellC (i := 1) q2 rfl
        have f0 : w2.frozen? ⟨w.heap.size, 0, none⟩ = false := frozen_of_row _ _ _ _ _ q2
        have f1 : w2.frozen? ⟨w.heap.size, 1, none⟩ = false := frozen_of_row _ _ _ _ _ q2
        obtain ⟨k0, k1, k2⟩ := two_cells q2 (.int .u64 0) (.string t)
        clear hv hb hr end1 hik hrb q N2
        go_wp2
        refine bodyPost_ret (by simp [results, Tryz.results35, go_sem, k0, k1, k2]; try rfl) rfl ?_
        exact ⟨HR.out, (HB.out.setCell (Nat.le_refl _) _).setCell (Nat.le_refl _) _⟩
      · go_enter Tryz.func35, Tryz.ntmps35
        go_wp2_with fail
        rw [← hw0]
        clear hw0
        refine hik.mono ?_
        rintro e w1 ⟨rfl, rfl⟩
        go_wp2_with fail
        refine hrb.mono ?_
        rintro e w2 ⟨hv, hb⟩
        obtain ⟨t, k, rfl, hr⟩ := end1 w2 e hb hv
        have q2 := keepB q hb
        have HB := Lib.hid (N2.trans (hb.mono N2.size))
        have HR := Lib.hid hr
        have c0 := new_cellC (i := 0) q2 rfl
        have c1 := new_cellC (i := 1) q2 rfl
        have f0 : w2.frozen? ⟨w.heap.size, 0, none⟩ = false := frozen_of_row _ _ _ _ _ q2
        have f1 : w2.frozen? ⟨w.heap.size, 1, none⟩ = false := frozen_of_row _ _ _ _ _ q2
        obtain ⟨k0, k1, k2⟩ := two_cells q2 (.int .u64 0) (.string t)
        clear hv hb hr end1 hik hrb q N2
        go_wp2
        refine bodyPost_ret (by simp [results, Tryz.results35, go_sem, k0, k1, k2]; try rfl) rfl ?_
        exact ⟨HR.out, (HB.out.setCell (Nat.le_refl _) _).setCell (Nat.le_refl _) _⟩
    · rw [← hw0] at N0 q N2
      have hL0 := hL.later N2
      have hrb := cell_readNum kind (by omega) s l w0 h hL0
      have HV := Lib.hid (show readV kind l = (match readN kind l with
        | some x => (some (x, []), 0)
        | none => (none, 6)) from by unfold readV; rw [if_neg (by simpa using hk), if_neg h34])
      have hik := cell_isKind kind w0
      rw [decide_eq_true hk] at hik
      have hk3 : (kind == 3) = false := by simp; omega
      have hk4 : (kind == 4) = false := by simp; omega
      clear hL hL0 hb0 N0 h34 hk
      have end1 : ∃ (x k : Nat), numV (readN kind l) = .tuple #[.agg #[.int .u64 (x : Int), .string ⟨#[]⟩], .int .i64 (k : Int)] ∧ RdV (readV kind l) (.returned (.tuple #[.agg #[.int .u64 (x : Int), .string ⟨#[]⟩], .int .i64 (k : Int)])) := by
        rw [HV.out]
        cases hr : readN kind l with
        | some x => exact ⟨x, 0, rfl, ⟨#[]⟩, empty_rd, rfl⟩
        | none => exact ⟨0, 6, rfl, rfl⟩
      obtain ⟨x, k, hn, hr⟩ := end1
      rw [hn] at hrb
      have HR := Lib.hid hr
      clear hn hr
      go_enter Tryz.func35, Tryz.ntmps35
      go_wp2_with fail
      rw [← hw0]
      clear hw0
      refine hik.mono ?_
      rintro e w1 ⟨rfl, rfl⟩
      go_wp2_with fail
      refine hrb.mono ?_
      rintro e w2 ⟨rfl, hb⟩
      have q2 := keepB q hb
      have HB := Lib.hid (N2.trans (hb.mono N2.size))
      have c0 := new_cellC (i := 0) q2 rfl
      have c1 := new_cellC (i := 1) q2 rfl
      have f0 : w2.frozen? ⟨w.heap.size, 0, none⟩ = false := frozen_of_row _ _ _ _ _ q2
      have f1 : w2.frozen? ⟨w.heap.size, 1, none⟩ = false := frozen_of_row _ _ _ _ _ q2
      obtain ⟨k0, k1, k2⟩ := two_cells q2 (.int .u64 (x : Int)) (.string ⟨#[]⟩)
      clear hb hik hrb q N2
      go_wp2
      refine bodyPost_ret (by simp [results, Tryz.results35, go_sem, k0, k1, k2]; try rfl) rfl ?_
      exact ⟨HR.out, (HB.out.setCell (Nat.le_refl _) _).setCell (Nat.le_refl _) _⟩
  · have HV := Lib.hid (show readV kind l = (none, 10) from by unfold readV; rw [if_pos hk])
    have hik := cell_isKind kind w0
    rw [decide_eq_false hk] at hik
    rw [hw0] at hik
    clear hw0 hk hL
    go_enter Tryz.func35, Tryz.ntmps35
    go_wp2_with fail
    refine hik.mono ?_
    rintro e w1 ⟨rfl, rfl⟩
    go_wp2
    refine bodyPost_ret (by simp [results, Tryz.results35, go_sem]; try rfl) rfl ?_
    refine ⟨?_, hb0⟩
    rw [HV.out]
    rfl

end Go.Proofs.YtkljkpffpdpphaaGreatDoor
