/-
  Package cell: Float, the text of bytes and of what is wrong; the document's example.
-/
import Derived.Test.YtkljkpffpdpphaaGreatDoorCellTxt
import Derived.Test.YtkljkpffpdpphaaGreatDoorCellCompare
set_option linter.unusedVariables false
set_option linter.unusedSimpArgs false
set_option maxRecDepth 1000000
namespace Go.Proofs.YtkljkpffpdpphaaGreatDoor
open Go.RowKit Go.Shelf

set_option maxHeartbeats 2000000 in
theorem cell_TextE (kind : Int) (num : Nat) (s : ByteArray) (l : List UInt8) (w : World) (h : RdS s l) (hT : Tabs w) (he : checkC kind num l ≠ 0) :
    Calls Tryz.prog 31 #[.int .i64 kind, cellV num s] w fun e w' => e = .returned (.tuple #[.string ⟨#[]⟩, .int .i64 (checkC kind num l : Nat)]) ∧ Below w.heap.size w w' := by
  obtain ⟨N0, N1, N2⟩ := new1 w (.cells #[.int .u64 (num : Int), .string s] 45)
  obtain ⟨w0, hw0⟩ : ∃ w0, w0 = w.alloc (.cells #[.int .u64 (num : Int), .string s] 45) := ⟨_, rfl⟩
  rw [← hw0] at N0 N1 N2
  have a0 := new_cellC (i := 0) N1 rfl
  have a1 := new_cellC (i := 1) N1 rfl
  have hcv : ∀ n u, cellV n u = .agg #[.int .u64 (n : Int), .string u] := fun _ _ => rfl
  have hD := cell_Check kind num s l w0 h (hT.later N2)
  obtain ⟨c, hc⟩ : ∃ c, checkC kind num l = c := ⟨_, rfl⟩
  rw [hc] at he hD ⊢
  have hne : ((c : Int) != 0) = true := by simp; omega
  clear hc
  go_enter Tryz.func31, Tryz.ntmps31
  go_wp2_with fail
  rw [← hw0]
  clear hw0
  refine hD.mono ?_
  rintro e w2 ⟨rfl, hb⟩
  have HB := Lib.hid (N2.trans (hb.mono N2.size))
  clear hb N1 N2 a0 a1 hD
  go_wp2
  go_ret2
  exact ⟨rfl, HB.out⟩

set_option maxHeartbeats 2000000 in
theorem cell_TextB (kind : Int) (hk : kind = 3 ∨ kind = 4) (num : Nat) (s : ByteArray) (l : List UInt8) (w : World) (h : RdS s l) (hT : Tabs w) (he : checkC kind num l = 0) (hb : l.length ≤ 70368744175616) :
    Calls Tryz.prog 31 #[.int .i64 kind, cellV num s] w fun e w' => (∃ t, e = .returned (.tuple #[.string t, .int .i64 0]) ∧ RdS t (hexC l)) ∧ Below w.heap.size w w' := by
  obtain ⟨N0, N1, N2⟩ := new1 w (.cells #[.int .u64 (num : Int), .string s] 45)
  obtain ⟨w0, hw0⟩ : ∃ w0, w0 = w.alloc (.cells #[.int .u64 (num : Int), .string s] 45) := ⟨_, rfl⟩
  rw [← hw0] at N0 N1 N2
  have a0 := new_cellC (i := 0) N1 rfl
  have a1 := new_cellC (i := 1) N1 rfl
  have hcv : ∀ n u, cellV n u = .agg #[.int .u64 (n : Int), .string u] := fun _ _ => rfl
  have hD := cell_Check kind num s l w0 h (hT.later N2)
  rw [he] at hD
  rcases hk with rfl | rfl
  · go_enter Tryz.func31, Tryz.ntmps31
    go_wp2_with fail
    rw [← hw0]
    clear hw0
    refine hD.mono ?_
    rintro e w2 ⟨rfl, hb2⟩
    have HB := Lib.hid (N2.trans (hb2.mono N2.size))
    have s1 := (hb2.block _ (by omega)).trans N1
    have b1 := new_cellC (i := 1) s1 rfl
    clear hb2 N1 N2 a0 a1 hD s1
    go_wp2_with fail
    refine (cell_bytesText s l _ h hb).mono ?_
    rintro e w3 ⟨⟨t, rfl, ht⟩, hb3⟩
    have HB3 := Lib.hid (HB.out.trans (hb3.mono HB.out.size))
    clear hb3
    go_wp2
    go_ret2
    exact ⟨⟨_, rfl, ht⟩, HB3.out⟩
  · go_enter Tryz.func31, Tryz.ntmps31
    go_wp2_with fail
    rw [← hw0]
    clear hw0
    refine hD.mono ?_
    rintro e w2 ⟨rfl, hb2⟩
    have HB := Lib.hid (N2.trans (hb2.mono N2.size))
    have s1 := (hb2.block _ (by omega)).trans N1
    have b1 := new_cellC (i := 1) s1 rfl
    clear hb2 N1 N2 a0 a1 hD s1
    go_wp2_with fail
    refine (cell_bytesText s l _ h hb).mono ?_
    rintro e w3 ⟨⟨t, rfl, ht⟩, hb3⟩
    have HB3 := Lib.hid (HB.out.trans (hb3.mono HB.out.size))
    clear hb3
    go_wp2
    go_ret2
    exact ⟨⟨_, rfl, ht⟩, HB3.out⟩

theorem empty_rd : RdS (⟨#[]⟩ : ByteArray) [] := ⟨rfl, by simp⟩

end Go.Proofs.YtkljkpffpdpphaaGreatDoor
