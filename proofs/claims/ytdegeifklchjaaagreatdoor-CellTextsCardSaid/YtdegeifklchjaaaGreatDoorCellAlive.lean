/-
  Package cell: Float, the text of bytes and of what is wrong; the document's example.
-/
import Derived.Test.YtdegeifklchjaaaGreatDoorCellTxt
import Derived.Test.YtdegeifklchjaaaGreatDoorCellCompare
set_option linter.unusedVariables false
set_option linter.unusedSimpArgs false
set_option maxRecDepth 1000000
namespace Go.Proofs.YtdegeifklchjaaaGreatDoor
open Go.RowKit Go.Shelf

theorem cell_Float (x : Nat) (hx : x < 18446744073709551616) (w : World) :
    Calls Tryz.prog 12 #[.float .f64 x] w fun e w' => e = .returned (cellV x ⟨#[]⟩) ∧ Below w.heap.size w w' := by
  have hf := to_bits x
  unfold cellV
  go_enter Tryz.func12, Tryz.ntmps12
  go_wp2
  refine bodyPost_ret (by simp [results, Tryz.results12, go_sem]; try rfl) rfl ?_
  exact ⟨rfl, (Below.refl _ _).alloc (Nat.le_refl _) _⟩

set_option maxHeartbeats 2000000 in
theorem cell_TextE (kind : Int) (num : Nat) (s : ByteArray) (l : List UInt8) (w : World) (h : RdS s l) (hT : Tabs w) (he : checkC kind num l ≠ 0) :
    Calls Tryz.prog 5 #[.int .i64 kind, cellV num s] w fun e w' => e = .returned (.tuple #[.string ⟨#[]⟩, .int .i64 (checkC kind num l : Nat)]) ∧ Below w.heap.size w w' := by
  obtain ⟨N0, N1, N2⟩ := new1 w (.cells #[.int .u64 (num : Int), .string s] 24)
  obtain ⟨w0, hw0⟩ : ∃ w0, w0 = w.alloc (.cells #[.int .u64 (num : Int), .string s] 24) := ⟨_, rfl⟩
  rw [← hw0] at N0 N1 N2
  have a0 := new_cellC (i := 0) N1 rfl
  have a1 := new_cellC (i := 1) N1 rfl
  have hcv : ∀ n u, cellV n u = .agg #[.int .u64 (n : Int), .string u] := fun _ _ => rfl
  have hD := cell_Check kind num s l w0 h (hT.later N2)
  obtain ⟨c, hc⟩ : ∃ c, checkC kind num l = c := ⟨_, rfl⟩
  rw [hc] at he hD ⊢
  have hne : ((c : Int) != 0) = true := by simp; omega
  clear hc
  go_enter Tryz.func5, Tryz.ntmps5
  go_wp2_with fail
  rw [← hw0]
  clear hw0
  refine hD.mono ?_
  rintro e w2 ⟨rfl, hb⟩
  have HB := Lib.hid (N2.trans (hb.mono N2.size))
  clear hb N1 N2 a0 a1 hD
  go_wp2
  go_ret2
  exact ⟨rfl, HB.out⟩

set_option maxHeartbeats 2000000 in
theorem cell_TextB (kind : Int) (hk : kind = 3 ∨ kind = 4) (num : Nat) (s : ByteArray) (l : List UInt8) (w : World) (h : RdS s l) (hT : Tabs w) (he : checkC kind num l = 0) (hb : l.length ≤ 70368744175616) :
    Calls Tryz.prog 5 #[.int .i64 kind, cellV num s] w fun e w' => (∃ t, e = .returned (.tuple #[.string t, .int .i64 0]) ∧ RdS t (hexC l)) ∧ Below w.heap.size w w' := by
  obtain ⟨N0, N1, N2⟩ := new1 w (.cells #[.int .u64 (num : Int), .string s] 24)
  obtain ⟨w0, hw0⟩ : ∃ w0, w0 = w.alloc (.cells #[.int .u64 (num : Int), .string s] 24) := ⟨_, rfl⟩
  rw [← hw0] at N0 N1 N2
  have a0 := new_cellC (i := 0) N1 rfl
  have a1 := new_cellC (i := 1) N1 rfl
  have hcv : ∀ n u, cellV n u = .agg #[.int .u64 (n : Int), .string u] := fun _ _ => rfl
  have hD := cell_Check kind num s l w0 h (hT.later N2)
  rw [he] at hD
  rcases hk with rfl | rfl
  · go_enter Tryz.func5, Tryz.ntmps5
    go_wp2_with fail
    rw [← hw0]
    clear hw0
    refine hD.mono ?_
    rintro e w2 ⟨rfl, hb2⟩
    have HB := Lib.hid (N2.trans (hb2.mono N2.size))
    have s1 := (hb2.block _ (by omega)).trans N1
    have b1 := new_cellC (i := 1) s1 rfl
    clear hb2 N1 N2 a0 a1 hD s1
    go_wp2_with fail
    refine (cell_bytesText s l _ h hb).mono ?_
    rintro e w3 ⟨⟨t, rfl, ht⟩, hb3⟩
    have HB3 := Lib.hid (HB.out.trans (hb3.mono HB.out.size))
    clear hb3
    go_wp2
    go_ret2
    exact ⟨⟨_, rfl, ht⟩, HB3.out⟩
  · go_enter Tryz.func5, Tryz.ntmps5
    go_wp2_with fail
    rw [← hw0]
    clear hw0
    refine hD.mono ?_
    rintro e w2 ⟨rfl, hb2⟩
    have HB := Lib.hid (N2.trans (hb2.mono N2.size))
    have s1 := (hb2.block _ (by omega)).trans N1
    have b1 := new_cellC (i := 1) s1 rfl
    clear hb2 N1 N2 a0 a1 hD s1
    go_wp2_with fail
    refine (cell_bytesText s l _ h hb).mono ?_
    rintro e w3 ⟨⟨t, rfl, ht⟩, hb3⟩
    have HB3 := Lib.hid (HB.out.trans (hb3.mono HB.out.size))
    clear hb3
    go_wp2
    go_ret2
    exact ⟨⟨_, rfl, ht⟩, HB3.out⟩

theorem math_Inf (w : World) : Calls Tryz.prog 13 #[.int .i64 1] w fun e w' => e = .returned (.float .f64 9218868437227405312) ∧ w' = w := by
  have hf : ∀ w, (callFunc 27 #[.int .u64 9218868437227405312]).run Tryz.prog w = .ok (.value (.float .f64 9218868437227405312)) w := fun w => from_bits 9218868437227405312 w
  go_enter Tryz.func13, Tryz.ntmps13
  go_wp2
  go_ret
  exact ⟨rfl, rfl⟩

theorem math_Minus (w : World) : Calls Tryz.prog 10 #[.float .f64 0, .float .f64 13830554455654793216] w fun e w' => (e = .returned (.float .f64 9223372036854775808)) ∧ Below w.heap.size w w' := by
  have hf : ∀ w, (callFunc 27 #[.int .u64 9223372036854775808]).run Tryz.prog w = .ok (.value (.float .f64 9223372036854775808)) w := fun w => from_bits 9223372036854775808 w
  have h0 : ∀ w, (callFunc 28 #[.float .f64 0]).run Tryz.prog w = .ok (.value (.int .u64 0)) w := fun w => to_bits 0 w
  have h1 : ∀ w, (callFunc 28 #[.float .f64 13830554455654793216]).run Tryz.prog w = .ok (.value (.int .u64 13830554455654793216)) w := fun w => to_bits 13830554455654793216 w
  have k1 : bits .andNot .u64 0 9223372036854775808 = 0 := by decide
  have k2 : bits .and .u64 13830554455654793216 9223372036854775808 = 9223372036854775808 := by decide
  have k3 : bits .or .u64 0 9223372036854775808 = 9223372036854775808 := by decide
  go_enter Tryz.func10, Tryz.ntmps10
  go_wp2
  go_ret
  exact ⟨rfl, Below.refl _ _⟩

theorem empty_rd : RdS (⟨#[]⟩ : ByteArray) [] := ⟨rfl, by simp⟩

set_option maxHeartbeats 2000000 in
/-- The document's example. -/
theorem law04_alive (w : World) (hT : Tabs w) :
    Calls Tryz.prog 4 #[] w fun e w' => e = .returned (.bool true) ∧ Below w.heap.size w w' := by
  have c1 := math_Minus w
  have hae : RdS ({ data := #[195, 164] } : ByteArray) [195, 164] := ⟨rfl, by simp⟩
  have k1 : cmpC 5 9223372036854775808 [] 0 [] = -1 := by decide
  have k2 : cmpC 5 9221120237041090561 [] 9218868437227405312 [] = 1 := by decide
  have u : utf8 [195, 164] = true := by
    rw [utf8_lead (n := 1) (m := 3) (least := 128) (by decide) (by decide)]
    simp [utf8V, runeOK, utf8_nil]
  have k3 : checkC 4 0 [195, 164] = 0 := by unfold checkC; simp [u]
  have k4 : hexC [195, 164] = [99, 51, 97, 52] := by decide
  have hcv : cellV 0 ({ data := #[195, 164] } : ByteArray) = .agg #[.int .u64 0, .string { data := #[195, 164] }] := rfl
  have hcv2 : cellV 9221120237041090561 ({ data := #[] } : ByteArray) = .agg #[.int .u64 9221120237041090561, .string { data := #[] }] := rfl
  go_enter Tryz.func4, Tryz.ntmps4
  go_wp2_with fail
  refine c1.mono ?_
  rintro e w1 ⟨rfl, hb1⟩
  have HB1 := Lib.hid hb1
  clear c1 hb1
  go_wp2_with fail
  rw [← hcv]
  refine (cell_TextB 4 (.inr rfl) 0 _ _ w1 hae (hT.later HB1.out) k3 (by simp)).mono ?_
  rintro e w2 ⟨⟨t, rfl, ht⟩, hb2⟩
  rw [k4] at ht
  have HB2 := Lib.hid (HB1.out.trans (hb2.mono HB1.out.size))
  have htl : t.toList = [99, 51, 97, 52] := ht.toList
  clear hb2
  go_wp2_with fail
  refine (cell_Float 9223372036854775808 (by omega) w2).mono ?_
  rintro e w3 ⟨rfl, hb3⟩
  have HB3 := Lib.hid (HB2.out.trans (hb3.mono HB2.out.size))
  clear hb3
  go_wp2_with fail
  refine (cell_Float 0 (by omega) w3).mono ?_
  rintro e w4 ⟨rfl, hb4⟩
  have HB4 := Lib.hid (HB3.out.trans (hb4.mono HB3.out.size))
  clear hb4
  go_wp2_with fail
  refine (cell_Compare 5 9223372036854775808 0 (by omega) (by omega) _ _ [] [] w4 empty_rd empty_rd (hT.later HB4.out)).mono ?_
  rintro e w5 ⟨rfl, hb5⟩
  rw [k1]
  have HB5 := Lib.hid (HB4.out.trans (hb5.mono HB4.out.size))
  clear hb5
  go_wp2_with fail
  refine (math_Inf w5).mono ?_
  rintro e w6 ⟨rfl, rfl⟩
  go_wp2_with fail
  refine (cell_Float 9218868437227405312 (by omega) w6).mono ?_
  rintro e w7 ⟨rfl, hb7⟩
  have HB7 := Lib.hid (HB5.out.trans (hb7.mono HB5.out.size))
  clear hb7
  go_wp2_with fail
  rw [← hcv2]
  refine (cell_Compare 5 9221120237041090561 9218868437227405312 (by omega) (by omega) _ _ [] [] w7 empty_rd empty_rd (hT.later HB7.out)).mono ?_
  rintro e w8 ⟨rfl, hb8⟩
  rw [k2]
  have HB8 := Lib.hid (HB7.out.trans (hb8.mono HB7.out.size))
  clear hb8
  go_wp2
  go_ret
  exact ⟨rfl, HB8.out⟩

end Go.Proofs.YtdegeifklchjaaaGreatDoor
