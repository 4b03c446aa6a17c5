/-
  A cell's text read, as the document's own answer for layer 4 tells it: numbers' kinds, and no kind.
-/
import Derived.Test.YtfpidkcdgebnpaaGreatDoorGHex
import Derived.Test.YtfpidkcdgebnpaaGreatDoorGBaseA
import Derived.Test.YtfpidkcdgebnpaaGreatDoorGReadMath
import Derived.RegionTactic
import Derived.BigRegion
set_option linter.unusedVariables false
set_option linter.unusedSimpArgs false
set_option maxRecDepth 1000000
namespace Go.Proofs.YtfpidkcdgebnpaaGreatDoor
open Go.RowKit

theorem wrap_u64 (x : Int) : IntKind.u64.wrap x = ((x % 18446744073709551616).toNat : Int) := by
  have : IntKind.u64.wrap x = x % 18446744073709551616 := by simp [IntKind.wrap, IntKind.signed, IntKind.bits]
  omega

set_option maxHeartbeats 4000000 in
theorem ref_Read0 (s : ByteArray) (l : List UInt8) (w : World) (h : RdS s l) :
    Calls Tryz.prog 90 #[.int .i64 0, .string s] w fun e w' => RdV (readR 0 l) e ∧ Below w.heap.size w w' := by
  have HR := Lib.hid (show readR 0 l = (match unsC l with
    | some v => (some ((v % 18446744073709551616).toNat, []), 0)
    | none => (none, 6)) from by unfold readR; rw [if_pos rfl]; cases unsC l <;> rfl)
  have HB := fun A B => Lib.hid (new2 w A B).2.2.2
  go_enter Tryz.func90, Tryz.ntmps90
  go_wp2_with fail
  refine (ref_Unsigned s l _ h).mono ?_
  rintro e w1 ⟨⟨x, b, rfl, hx1, hx2, hu⟩, rfl⟩
  have HU := Lib.hid hu
  clear hu
  cases b
  · have HF := Lib.hid (show readR 0 l = (none, 6) from by rw [HR.out, HU.out]; rfl)
    clear HU HR
    go_wp2
    refine bodyPost_ret (by simp [results, Tryz.results90, go_sem]; try rfl) rfl ?_
    refine ⟨?_, (HB _ _).out⟩
    rw [HF.out]
    rfl
  · have HF := Lib.hid (show readR 0 l = (some ((x % 18446744073709551616).toNat, []), 0) from by rw [HR.out, HU.out]; rfl)
    have HW := Lib.hid (wrap_u64 x)
    clear HU HR
    go_wp2
    refine bodyPost_ret (by simp [results, Tryz.results90, go_sem]; try rfl) rfl ?_
    refine ⟨?_, (HB _ _).out⟩
    rw [HF.out]
    exact ⟨_, ⟨rfl, by simp⟩, by rw [HW.out]⟩

set_option maxHeartbeats 4000000 in
theorem ref_Read1 (s : ByteArray) (l : List UInt8) (w : World) (h : RdS s l) :
    Calls Tryz.prog 90 #[.int .i64 1, .string s] w fun e w' => RdV (readR 1 l) e ∧ Below w.heap.size w w' := by
  have HR := Lib.hid (show readR 1 l = (match undecC l with
    | some x => (some (x, []), 0)
    | none => (none, 6)) from by unfold readR; rw [if_neg (by decide), if_pos rfl]; cases undecC l <;> rfl)
  have HB := fun A B => Lib.hid (new2 w A B).2.2.2
  go_enter Tryz.func90, Tryz.ntmps90
  go_wp2_with fail
  refine (ref_Undecimal s l _ h).mono ?_
  rintro e w1 ⟨⟨x, b, rfl, hx1, hu⟩, rfl⟩
  have HU := Lib.hid hu
  clear hu
  cases b
  · have HF := Lib.hid (show readR 1 l = (none, 6) from by rw [HR.out, HU.out]; rfl)
    clear HU HR
    go_wp2
    refine bodyPost_ret (by simp [results, Tryz.results90, go_sem]; try rfl) rfl ?_
    refine ⟨?_, (HB _ _).out⟩
    rw [HF.out]
    rfl
  · have HF := Lib.hid (show readR 1 l = (some (x, []), 0) from by rw [HR.out, HU.out]; rfl)
    clear HU HR
    go_wp2
    refine bodyPost_ret (by simp [results, Tryz.results90, go_sem]; try rfl) rfl ?_
    refine ⟨?_, (HB _ _).out⟩
    rw [HF.out]
    exact ⟨_, ⟨rfl, by simp⟩, rfl⟩

set_option maxHeartbeats 4000000 in
theorem ref_Read2 (s : ByteArray) (l : List UInt8) (w : World) (h : RdS s l) :
    Calls Tryz.prog 90 #[.int .i64 2, .string s] w fun e w' => RdV (readR 2 l) e ∧ Below w.heap.size w w' := by
  have hl := h.toList
  have HB := fun A B => Lib.hid (new2 w A B).2.2.2
  by_cases h1 : l = [116, 114, 117, 101]
  · have HF := Lib.hid (show readR 2 l = (some (1, []), 0) from by unfold readR; rw [if_neg (by decide), if_neg (by decide), if_pos rfl, if_pos h1])
    have q1 : (s.toList == [116, 114, 117, 101]) = true := by rw [hl, h1]; rfl
    have q2 : (s.toList == [102, 97, 108, 115, 101]) = false := by rw [hl, h1]; rfl
    clear hl h1 h
    go_enter Tryz.func90, Tryz.ntmps90
    go_wp2
    refine bodyPost_ret (by simp [results, Tryz.results90, go_sem]; try rfl) rfl ?_
    refine ⟨?_, (HB _ _).out⟩
    rw [HF.out]
    exact ⟨_, ⟨rfl, by simp⟩, rfl⟩
  · have q1 : (s.toList == [116, 114, 117, 101]) = false := by rw [hl]; simpa using h1
    by_cases h2 : l = [102, 97, 108, 115, 101]
    · have HF := Lib.hid (show readR 2 l = (some (0, []), 0) from by unfold readR; rw [if_neg (by decide), if_neg (by decide), if_pos rfl, if_neg h1, if_pos h2])
      have q2 : (s.toList == [102, 97, 108, 115, 101]) = true := by rw [hl, h2]; rfl
      clear hl h1 h2 h
      go_enter Tryz.func90, Tryz.ntmps90
      go_wp2
      refine bodyPost_ret (by simp [results, Tryz.results90, go_sem]; try rfl) rfl ?_
      refine ⟨?_, (HB _ _).out⟩
      rw [HF.out]
      exact ⟨_, ⟨rfl, by simp⟩, rfl⟩
    · have HF := Lib.hid (show readR 2 l = (none, 6) from by unfold readR; rw [if_neg (by decide), if_neg (by decide), if_pos rfl, if_neg h1, if_neg h2])
      have q2 : (s.toList == [102, 97, 108, 115, 101]) = false := by rw [hl]; simpa using h2
      clear hl h1 h2 h
      go_enter Tryz.func90, Tryz.ntmps90
      go_wp2
      refine bodyPost_ret (by simp [results, Tryz.results90, go_sem]; try rfl) rfl ?_
      refine ⟨?_, (HB _ _).out⟩
      rw [HF.out]
      rfl

set_option maxHeartbeats 4000000 in
theorem ref_ReadX (kind : Int) (hk : ¬ (0 ≤ kind ∧ kind ≤ 5)) (s : ByteArray) (l : List UInt8) (w : World) (h : RdS s l) :
    Calls Tryz.prog 90 #[.int .i64 kind, .string s] w fun e w' => RdV (readR kind l) e ∧ Below w.heap.size w w' := by
  have HF := Lib.hid (show readR kind l = (none, 10) from by unfold readR; rw [if_neg (by omega), if_neg (by omega), if_neg (by omega), if_neg (by omega), if_neg (by omega)])
  have HB := fun A B => Lib.hid (new2 w A B).2.2.2
  have k0 : (kind == 0) = false := by simp; omega
  have k1 : (kind == 1) = false := by simp; omega
  have k2 : (kind == 2) = false := by simp; omega
  have k3 : (kind == 3) = false := by simp; omega
  have k4 : (kind == 4) = false := by simp; omega
  have k5 : (kind == 5) = false := by simp; omega
  clear hk h
  go_enter Tryz.func90, Tryz.ntmps90
  go_wp2
  refine bodyPost_ret (by simp [results, Tryz.results90, go_sem]; try rfl) rfl ?_
  refine ⟨?_, (HB _ _).out⟩
  rw [HF.out]
  rfl

end Go.Proofs.YtfpidkcdgebnpaaGreatDoor


/-
  A cell's text read, as the document's own answer for layer 4 tells it: bytes and texts.
-/
namespace Go.Proofs.YtfpidkcdgebnpaaGreatDoor
open Go.RowKit

theorem readR34 (kind : Int) (hk : kind = 3 ∨ kind = 4) (l : List UInt8) : readR kind l = (match unhexC l with
    | none => (none, 6)
    | some b => if 256 < b.length then (none, 7) else if kind = 4 ∧ utf8 b = false then (none, 11) else (some (0, b), 0)) := by
  unfold readR
  rw [if_neg (by omega), if_neg (by omega), if_neg (by omega), if_pos hk]
  cases unhexC l <;> rfl

/-- The result's block, behind the stores. -/
theorem res_cells {w : World} {b c : Nat} {x y : Value} {T : TypeId} (q : w.heap[b]? = some (.cells #[x, y] T (0, 0))) (hc : c ≠ b) (t u v : Value) :
    (((w.setCell ⟨c, 1, none⟩ t).setCell ⟨b, 0, none⟩ u).setCell ⟨b, 1, none⟩ v).cell? ⟨b, 0, none⟩ = some u ∧ (((w.setCell ⟨c, 1, none⟩ t).setCell ⟨b, 0, none⟩ u).setCell ⟨b, 1, none⟩ v).cell? ⟨b, 1, none⟩ = some v := by
  have q' : (w.setCell ⟨c, 1, none⟩ t).heap[b]? = some (.cells #[x, y] T (0, 0)) := by rw [Below.heap_setCell _ _ _ _ (by exact fun h => hc h.symm)]; exact q
  have h := block_setCell (k := 1) (block_setCell (k := 0) q' u) v
  exact ⟨by rw [cell_of_row _ _ _ _ _ _ h]; rfl, by rw [cell_of_row _ _ _ _ _ _ h]; rfl⟩

set_option maxHeartbeats 4000000 in
theorem ref_Read3 (s : ByteArray) (l : List UInt8) (w : World) (h : RdS s l) :
    Calls Tryz.prog 90 #[.int .i64 3, .string s] w fun e w' => RdV (readR 3 l) e ∧ Below w.heap.size w w' := by
  have HR := Lib.hid (readR34 3 (by decide) l)
  obtain ⟨N0, N1, N2, N3⟩ := new2 w (.cells #[.int .u64 0, .string ⟨#[]⟩] 71) (.cells #[.int .u64 0, .string ⟨#[]⟩] 71)
  obtain ⟨w0, hw0⟩ : ∃ w0, w0 = (w.alloc (.cells #[.int .u64 0, .string ⟨#[]⟩] 71)).alloc (.cells #[.int .u64 0, .string ⟨#[]⟩] 71) := ⟨_, rfl⟩
  rw [← hw0] at N0 N1 N2 N3
  go_enter Tryz.func90, Tryz.ntmps90
  go_wp2_with fail
  rw [← hw0]
  clear hw0
  refine (ref_Unhex s l _ h).mono ?_
  rintro e w2 ⟨⟨t, m, b, rfl, ht, hu⟩, hb⟩
  have q1 := keepB N1 hb
  have q2 := keepB N2 hb
  have HB := Lib.hid (N3.trans (hb.mono N3.size))
  have HU := Lib.hid hu
  have Q1 := Lib.hid q1
  have HT := Lib.hid ht
  have c0 := new_cellC (i := 0) q2 rfl
  have c1 := new_cellC (i := 1) q2 rfl
  have f0 : w2.frozen? ⟨w.heap.size + 1, 0, none⟩ = false := frozen_of_row _ _ _ _ _ q2
  have f1 : w2.frozen? ⟨w.heap.size + 1, 1, none⟩ = false := frozen_of_row _ _ _ _ _ q2
  have d0 := new_cellC (i := 0) q1 rfl
  have d1 := new_cellC (i := 1) q1 rfl
  have g0 : w2.frozen? ⟨w.heap.size, 0, none⟩ = false := frozen_of_row _ _ _ _ _ q1
  have g1 : w2.frozen? ⟨w.heap.size, 1, none⟩ = false := frozen_of_row _ _ _ _ _ q1
  obtain ⟨k0, k1⟩ := res_cells q1 (show w.heap.size + 1 ≠ w.heap.size by omega) (.string t) (.int .u64 0) (.string ⟨#[]⟩)
  have hlt := HT.out.len
  clear hb hu ht q1 q2 N1 N2 N3 N0
  cases b
  · have HF := Lib.hid (show readR 3 l = (none, 6) from by rw [HR.out, HU.out]; rfl)
    clear HR HU
    go_wp2
    refine bodyPost_ret (by simp [results, Tryz.results90, go_sem, k0, k1]; try rfl) rfl ?_
    exact ⟨by rw [HF.out]; rfl, ((HB.out.setCell (by simp) _).setCell (by simp) _).setCell (by simp) _⟩
  · by_cases h256 : 256 < m.length
    · have HF := Lib.hid (show readR 3 l = (none, 7) from by rw [HR.out, HU.out]; exact if_pos h256)
      have hd : decide ((m.length : Int) > 256) = true := decide_eq_true (by omega)
      clear HR HU
      go_wp2
      refine bodyPost_ret (by simp [results, Tryz.results90, go_sem, k0, k1]; try rfl) rfl ?_
      exact ⟨by rw [HF.out]; rfl, ((HB.out.setCell (by simp) _).setCell (by simp) _).setCell (by simp) _⟩
    · have HF := Lib.hid (show readR 3 l = (some (0, m), 0) from by rw [HR.out, HU.out]; exact (if_neg h256).trans (if_neg (fun hh => absurd hh.1 (by decide))))
      have hd : decide ((m.length : Int) > 256) = false := decide_eq_false (by omega)
      clear HR HU k0 k1
      obtain ⟨k0, k1⟩ := res_cells (w := w2) (b := w.heap.size) (c := w.heap.size + 1) Q1.out (by omega) (.string t) (.int .u64 0) (.string t)
      go_wp2
      refine bodyPost_ret (by simp [results, Tryz.results90, go_sem, k0, k1]; try rfl) rfl ?_
      exact ⟨by rw [HF.out]; exact ⟨t, HT.out, rfl⟩, ((HB.out.setCell (by simp) _).setCell (by simp) _).setCell (by simp) _⟩

set_option maxHeartbeats 4000000 in
theorem ref_Read4 (s : ByteArray) (l : List UInt8) (w : World) (h : RdS s l) :
    Calls Tryz.prog 90 #[.int .i64 4, .string s] w fun e w' => RdV (readR 4 l) e ∧ Below w.heap.size w w' := by
  have HR := Lib.hid (readR34 4 (by decide) l)
  obtain ⟨N0, N1, N2, N3⟩ := new2 w (.cells #[.int .u64 0, .string ⟨#[]⟩] 71) (.cells #[.int .u64 0, .string ⟨#[]⟩] 71)
  obtain ⟨w0, hw0⟩ : ∃ w0, w0 = (w.alloc (.cells #[.int .u64 0, .string ⟨#[]⟩] 71)).alloc (.cells #[.int .u64 0, .string ⟨#[]⟩] 71) := ⟨_, rfl⟩
  rw [← hw0] at N0 N1 N2 N3
  go_enter Tryz.func90, Tryz.ntmps90
  go_wp2_with fail
  rw [← hw0]
  clear hw0
  refine (ref_Unhex s l _ h).mono ?_
  rintro e w2 ⟨⟨t, m, b, rfl, ht, hu⟩, hb⟩
  have q1 := keepB N1 hb
  have q2 := keepB N2 hb
  have HB := Lib.hid (N3.trans (hb.mono N3.size))
  have HU := Lib.hid hu
  have Q1 := Lib.hid q1
  have HT := Lib.hid ht
  have c0 := new_cellC (i := 0) q2 rfl
  have c1 := new_cellC (i := 1) q2 rfl
  have f0 : w2.frozen? ⟨w.heap.size + 1, 0, none⟩ = false := frozen_of_row _ _ _ _ _ q2
  have f1 : w2.frozen? ⟨w.heap.size + 1, 1, none⟩ = false := frozen_of_row _ _ _ _ _ q2
  have d0 := new_cellC (i := 0) q1 rfl
  have d1 := new_cellC (i := 1) q1 rfl
  have g0 : w2.frozen? ⟨w.heap.size, 0, none⟩ = false := frozen_of_row _ _ _ _ _ q1
  have g1 : w2.frozen? ⟨w.heap.size, 1, none⟩ = false := frozen_of_row _ _ _ _ _ q1
  obtain ⟨k0, k1⟩ := res_cells q1 (show w.heap.size + 1 ≠ w.heap.size by omega) (.string t) (.int .u64 0) (.string ⟨#[]⟩)
  have hlt := HT.out.len
  clear hb hu ht q1 q2 N1 N2 N3 N0
  cases b
  · have HF := Lib.hid (show readR 4 l = (none, 6) from by rw [HR.out, HU.out]; rfl)
    clear HR HU
    go_wp2
    refine bodyPost_ret (by simp [results, Tryz.results90, go_sem, k0, k1]; try rfl) rfl ?_
    exact ⟨by rw [HF.out]; rfl, ((HB.out.setCell (by simp) _).setCell (by simp) _).setCell (by simp) _⟩
  · by_cases h256 : 256 < m.length
    · have HF := Lib.hid (show readR 4 l = (none, 7) from by rw [HR.out, HU.out]; exact if_pos h256)
      have hd : decide ((m.length : Int) > 256) = true := decide_eq_true (by omega)
      clear HR HU
      go_wp2
      refine bodyPost_ret (by simp [results, Tryz.results90, go_sem, k0, k1]; try rfl) rfl ?_
      exact ⟨by rw [HF.out]; rfl, ((HB.out.setCell (by simp) _).setCell (by simp) _).setCell (by simp) _⟩
    · have hd : decide ((m.length : Int) > 256) = false := decide_eq_false (by omega)
      have huc := HT.out
      clear k0 k1
      cases hu8 : utf8 m
      · have HF := Lib.hid (show readR 4 l = (none, 11) from by rw [HR.out, HU.out]; exact (if_neg h256).trans (if_pos (by simp [hu8])))
        obtain ⟨k0, k1⟩ := res_cells (w := w2) (b := w.heap.size) (c := w.heap.size + 1) Q1.out (by omega) (.string t) (.int .u64 0) (.string ⟨#[]⟩)
        have HU8 := Lib.hid hu8
        clear HR HU hu8 huc
        go_wp2_with fail
        refine (ref_UTF8 t m _ HT.out).mono ?_
        rintro e w3 ⟨rfl, rfl⟩
        rw [HU8.out]
        go_wp2
        refine bodyPost_ret (by simp [results, Tryz.results90, go_sem, k0, k1]; try rfl) rfl ?_
        exact ⟨by rw [HF.out]; rfl, ((HB.out.setCell (by simp) _).setCell (by simp) _).setCell (by simp) _⟩

      · have HF := Lib.hid (show readR 4 l = (some (0, m), 0) from by rw [HR.out, HU.out]; exact (if_neg h256).trans (if_neg (fun hh => by rw [hu8] at hh; cases hh.2)))
        obtain ⟨k0, k1⟩ := res_cells (w := w2) (b := w.heap.size) (c := w.heap.size + 1) Q1.out (by omega) (.string t) (.int .u64 0) (.string t)
        have HU8 := Lib.hid hu8
        clear HR HU hu8 huc
        go_wp2_with fail
        refine (ref_UTF8 t m _ HT.out).mono ?_
        rintro e w3 ⟨rfl, rfl⟩
        rw [HU8.out]
        go_wp2
        refine bodyPost_ret (by simp [results, Tryz.results90, go_sem, k0, k1]; try rfl) rfl ?_
        exact ⟨by rw [HF.out]; exact ⟨t, HT.out, rfl⟩, ((HB.out.setCell (by simp) _).setCell (by simp) _).setCell (by simp) _⟩

end Go.Proofs.YtfpidkcdgebnpaaGreatDoor


/-
  A cell's text read, as the document's own answer for layer 4 tells it: floats.
-/
namespace Go.Proofs.YtfpidkcdgebnpaaGreatDoor
open Go.RowKit

theorem readR5 (l : List UInt8) : readR 5 l = (match unhexC l with
    | none => (none, 6)
    | some b => if b.length = 8 then (some (num256 b, []), 0) else (none, 6)) := by
  unfold readR
  rw [if_neg (by decide), if_neg (by decide), if_neg (by decide), if_neg (by decide), if_pos rfl]
  cases unhexC l <;> rfl
theorem num256_take {m : List UInt8} {k : Nat} (h : k < m.length) : num256 (m.take (k + 1)) = 256 * num256 (m.take k) + (m.getD k 0).toNat := by
  rw [List.take_succ_eq_append_getElem h, num256_snoc]; simp [List.getD, h]

set_option maxHeartbeats 4000000 in
theorem ref_Read5 (s : ByteArray) (l : List UInt8) (w : World) (h : RdS s l) :
    Calls Tryz.prog 90 #[.int .i64 5, .string s] w fun e w' => RdV (readR 5 l) e ∧ Below w.heap.size w w' := by
  have HR := Lib.hid (readR5 l)
  obtain ⟨N0, N1, N2, N3⟩ := new2 w (.cells #[.int .u64 0, .string ⟨#[]⟩] 71) (.cells #[.int .u64 0, .string ⟨#[]⟩] 71)
  obtain ⟨w0, hw0⟩ : ∃ w0, w0 = (w.alloc (.cells #[.int .u64 0, .string ⟨#[]⟩] 71)).alloc (.cells #[.int .u64 0, .string ⟨#[]⟩] 71) := ⟨_, rfl⟩
  rw [← hw0] at N0 N1 N2 N3
  go_enter Tryz.func90, Tryz.ntmps90
  go_wp2_with fail
  rw [← hw0]
  clear hw0
  refine (ref_Unhex s l _ h).mono ?_
  rintro e w2 ⟨⟨t, m, b, rfl, ht, hu⟩, hb⟩
  have q1 := keepB N1 hb
  have q2 := keepB N2 hb
  have HB := Lib.hid (N3.trans (hb.mono N3.size))
  have HU := Lib.hid hu
  have Q1 := Lib.hid q1
  have Q2 := Lib.hid q2
  have HT := Lib.hid ht
  have hlt := HT.out.len
  have hidx := HT.out.idx
  clear hb hu ht q1 q2 N1 N2 N3 N0 h
  cases b
  · have HF := Lib.hid (show readR 5 l = (none, 6) from by rw [HR.out, HU.out]; rfl)
    clear HR HU
    have g0 : w2.frozen? ⟨w.heap.size, 0, none⟩ = false := frozen_of_row _ _ _ _ _ Q1.out
    have g1 : w2.frozen? ⟨w.heap.size, 1, none⟩ = false := frozen_of_row _ _ _ _ _ Q1.out
    have d0 := new_cellC (i := 0) Q1.out rfl
    have d1 := new_cellC (i := 1) Q1.out rfl
    obtain ⟨k0, k1, k2⟩ := two_cells Q1.out (.int .u64 0) (.string ⟨#[]⟩)
    go_wp2
    refine wp_loop_rounds 1 ?_
    rw [rounds_succ]
    go_wp2
    refine bodyPost_ret (by simp [results, Tryz.results90, go_sem, k0, k1, k2]; try rfl) rfl ?_
    exact ⟨by rw [HF.out]; rfl, (HB.out.setCell (by simp) _).setCell (by simp) _⟩
  · by_cases h8 : m.length = 8
    · have HF := Lib.hid (show readR 5 l = (some (num256 m, []), 0) from by rw [HR.out, HU.out]; exact if_pos h8)
      have hd : ((m.length : Int) == 8) = true := by rw [h8]; rfl
      have H8 := Lib.hid h8
      clear HR HU h8
      go_wp2
      go_loopw [12] (fun i wr => ∃ k : Nat, k ≤ 8 ∧ i = .int .i64 k ∧ Hid (wr.heap[w.heap.size]? = some (.cells #[.int .u64 0, .string ⟨#[]⟩] 71 (0, 0))) ∧
        Hid (wr.heap[w.heap.size + 1]? = some (.cells #[.int .u64 (num256 (m.take k) : Int), .string ⟨#[]⟩] 71 (0, 0))) ∧ Hid (Below w.heap.size w wr)) (fun i _ => 8 - (intOf i).toNat)
      case atStart => exact ⟨0, by omega, rfl, Q1, Q2, HB⟩
      case round =>
        obtain ⟨k, hk, rfl, P1, P2, PB⟩ := hrel
        by_cases hlt8 : k < 8
        · have hkm : k < m.length := by rw [H8.out]; exact hlt8
          have hx := hidx k hkm
          obtain ⟨c, hc⟩ : ∃ c : Nat, c = (m.getD k 0).toNat := ⟨_, rfl⟩
          have hc9 : at8 m k = (c : Int) := by rw [hc]; rfl
          have hc1 : c < 256 := by rw [hc]; exact (m.getD k 0).toNat_lt
          rw [hc9] at hx
          obtain ⟨x, hx9⟩ : ∃ x, x = num256 (m.take k) := ⟨_, rfl⟩
          have hxb : x < 72057594037927936 := by
            rw [hx9]
            refine Nat.lt_of_lt_of_le (num256_lt k _ (by rw [List.length_take]; omega)) ?_
            exact Nat.le_trans (Nat.pow_le_pow_right (by omega) (show k ≤ 7 by omega)) (by decide)
          have HN := Lib.hid (show num256 (m.take (k + 1)) = 256 * x + c from by rw [num256_take hkm, ← hx9, ← hc])
          have P2o := P2.out
          rw [← hx9] at P2o
          have P2 := Lib.hid P2o
          have c0 := new_cellC (i := 0) P2o rfl
          have f0 : wr.frozen? ⟨w.heap.size + 1, 0, none⟩ = false := frozen_of_row _ _ _ _ _ P2o
          have w1 : IntKind.u64.wrap (256 * (x : Int)) = 256 * (x : Int) := IntWalk.u64_in _ (by omega)
          have w2' : IntKind.u64.wrap (256 * (x : Int) + (c : Int)) = 256 * (x : Int) + (c : Int) := IntWalk.u64_in _ (by omega)
          have w3 : IntKind.u64.wrap (c : Int) = (c : Int) := IntWalk.u64_in _ (by omega)
          clear hidx hc hc9 hx9 P2o hkm
          go_wp2
          go_region
          clear w1 w2' w3
          go_wp2
          go_roundw
          case rel =>
            refine ⟨k + 1, by omega, by go_num, ?_, ?_, Lib.hid ((PB.out.setCell (by simp) _).drew)⟩
            · exact Lib.hid (((Below.heap_setCell wr ⟨w.heap.size + 1, 0, none⟩ (.int .u64 (256 * (x : Int) + (c : Int))) w.heap.size (by simp)) : _).trans P1.out)
            · refine Lib.hid ?_
              rw [HN.out]
              have := block_setCell (k := 0) P2.out (.int .u64 (256 * (x : Int) + (c : Int)))
              exact this
          case measure => simp [intOf]; omega
        · obtain rfl : k = 8 := by omega
          have htm : m.take 8 = m := List.take_of_length_le (by rw [H8.out]; omega)
          have P2o := P2.out
          rw [htm] at P2o
          obtain ⟨x, hx9⟩ : ∃ x, x = num256 m := ⟨_, rfl⟩
          have HX := Lib.hid hx9
          rw [← hx9] at P2o
          have c0 := new_cellC (i := 0) P2o rfl
          have c1 := new_cellC (i := 1) P2o rfl
          have d0 := new_cellC (i := 0) P1.out rfl
          have d1 := new_cellC (i := 1) P1.out rfl
          have g0 : wr.frozen? ⟨w.heap.size, 0, none⟩ = false := frozen_of_row _ _ _ _ _ P1.out
          have g1 : wr.frozen? ⟨w.heap.size, 1, none⟩ = false := frozen_of_row _ _ _ _ _ P1.out
          obtain ⟨k0, k1, k2⟩ := two_cells P1.out (.int .u64 (x : Int)) (.string ⟨#[]⟩)
          clear hlt8 htm hx9 P2o hidx
          go_wp2
          refine bodyPost_ret (by simp [results, Tryz.results90, go_sem, k0, k1, k2]; try rfl) rfl ?_
          refine ⟨?_, (PB.out.setCell (by simp) _).setCell (by simp) _⟩
          rw [HF.out, ← HX.out]
          exact ⟨_, ⟨rfl, by simp⟩, rfl⟩
    · have HF := Lib.hid (show readR 5 l = (none, 6) from by rw [HR.out, HU.out]; exact if_neg h8)
      have hd : ((m.length : Int) == 8) = false := by simp; omega
      clear HR HU h8
      have g0 : w2.frozen? ⟨w.heap.size, 0, none⟩ = false := frozen_of_row _ _ _ _ _ Q1.out
      have g1 : w2.frozen? ⟨w.heap.size, 1, none⟩ = false := frozen_of_row _ _ _ _ _ Q1.out
      have d0 := new_cellC (i := 0) Q1.out rfl
      have d1 := new_cellC (i := 1) Q1.out rfl
      obtain ⟨k0, k1, k2⟩ := two_cells Q1.out (.int .u64 0) (.string ⟨#[]⟩)
      go_wp2
      refine wp_loop_rounds 1 ?_
      rw [rounds_succ]
      go_wp2
      refine bodyPost_ret (by simp [results, Tryz.results90, go_sem, k0, k1, k2]; try rfl) rfl ?_
      exact ⟨by rw [HF.out]; rfl, (HB.out.setCell (by simp) _).setCell (by simp) _⟩

/-- A cell read, whatever its kind. -/
theorem ref_Read (kind : Int) (s : ByteArray) (l : List UInt8) (w : World) (h : RdS s l) :
    Calls Tryz.prog 90 #[.int .i64 kind, .string s] w fun e w' => RdV (readR kind l) e ∧ Below w.heap.size w w' := by
  by_cases hk : 0 ≤ kind ∧ kind ≤ 5
  · obtain rfl | rfl | rfl | rfl | rfl | rfl : kind = 0 ∨ kind = 1 ∨ kind = 2 ∨ kind = 3 ∨ kind = 4 ∨ kind = 5 := by omega
    · exact ref_Read0 s l w h
    · exact ref_Read1 s l w h
    · exact ref_Read2 s l w h
    · exact ref_Read3 s l w h
    · exact ref_Read4 s l w h
    · exact ref_Read5 s l w h
  · exact ref_ReadX kind hk s l w h

end Go.Proofs.YtfpidkcdgebnpaaGreatDoor

