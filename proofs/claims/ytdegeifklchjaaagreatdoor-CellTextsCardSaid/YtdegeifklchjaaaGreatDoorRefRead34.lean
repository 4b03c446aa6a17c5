/-
  A cell's text read, as the document's own answer for layer 4 tells it: bytes and texts.
-/
import Derived.Test.YtdegeifklchjaaaGreatDoorRefRead
set_option linter.unusedVariables false
set_option linter.unusedSimpArgs false
set_option maxRecDepth 1000000
namespace Go.Proofs.YtdegeifklchjaaaGreatDoor
open Go.RowKit

theorem readR34 (kind : Int) (hk : kind = 3 ∨ kind = 4) (l : List UInt8) : readR kind l = (match unhexC l with
    | none => (none, 6)
    | some b => if 256 < b.length then (none, 7) else if kind = 4 ∧ utf8 b = false then (none, 11) else (some (0, b), 0)) := by
  unfold readR
  rw [if_neg (by omega), if_neg (by omega), if_neg (by omega), if_pos hk]
  cases unhexC l <;> rfl

/-- The result's block, behind the stores. -/
theorem res_cells {w : World} {b c : Nat} {x y : Value} {T : TypeId} (q : w.heap[b]? = some (.cells #[x, y] T (0, 0))) (hc : c ≠ b) (t u v : Value) :
    (((w.setCell ⟨c, 1, none⟩ t).setCell ⟨b, 0, none⟩ u).setCell ⟨b, 1, none⟩ v).cell? ⟨b, 0, none⟩ = some u ∧ (((w.setCell ⟨c, 1, none⟩ t).setCell ⟨b, 0, none⟩ u).setCell ⟨b, 1, none⟩ v).cell? ⟨b, 1, none⟩ = some v := by
  have q' : (w.setCell ⟨c, 1, none⟩ t).heap[b]? = some (.cells #[x, y] T (0, 0)) := by rw [Below.heap_setCell _ _ _ _ (by exact fun h => hc h.symm)]; exact q
  have h := block_setCell (k := 1) (block_setCell (k := 0) q' u) v
  exact ⟨by rw [cell_of_row _ _ _ _ _ _ h]; rfl, by rw [cell_of_row _ _ _ _ _ _ h]; rfl⟩

set_option maxHeartbeats 4000000 in
theorem ref_Read3 (s : ByteArray) (l : List UInt8) (w : World) (h : RdS s l) :
    Calls Tryz.prog 7 #[.int .i64 3, .string s] w fun e w' => RdV (readR 3 l) e ∧ Below w.heap.size w w' := by
  have HR := Lib.hid (readR34 3 (by decide) l)
  obtain ⟨N0, N1, N2, N3⟩ := new2 w (.cells #[.int .u64 0, .string ⟨#[]⟩] 24) (.cells #[.int .u64 0, .string ⟨#[]⟩] 24)
  obtain ⟨w0, hw0⟩ : ∃ w0, w0 = (w.alloc (.cells #[.int .u64 0, .string ⟨#[]⟩] 24)).alloc (.cells #[.int .u64 0, .string ⟨#[]⟩] 24) := ⟨_, rfl⟩
  rw [← hw0] at N0 N1 N2 N3
  go_enter Tryz.func7, Tryz.ntmps7
  go_wp2_with fail
  rw [← hw0]
  clear hw0
  refine (ref_Unhex s l _ h).mono ?_
  rintro e w2 ⟨⟨t, m, b, rfl, ht, hu⟩, hb⟩
  have q1 := keepB N1 hb
  have q2 := keepB N2 hb
  have HB := Lib.hid (N3.trans (hb.mono N3.size))
  have HU := Lib.hid hu
  have Q1 := Lib.hid q1
  have HT := Lib.hid ht
  have c0 := new_cellC (i := 0) q2 rfl
  have c1 := new_cellC (i := 1) q2 rfl
  have f0 : w2.frozen? ⟨w.heap.size + 1, 0, none⟩ = false := frozen_of_row _ _ _ _ _ q2
  have f1 : w2.frozen? ⟨w.heap.size + 1, 1, none⟩ = false := frozen_of_row _ _ _ _ _ q2
  have d0 := new_cellC (i := 0) q1 rfl
  have d1 := new_cellC (i := 1) q1 rfl
  have g0 : w2.frozen? ⟨w.heap.size, 0, none⟩ = false := frozen_of_row _ _ _ _ _ q1
  have g1 : w2.frozen? ⟨w.heap.size, 1, none⟩ = false := frozen_of_row _ _ _ _ _ q1
  obtain ⟨k0, k1⟩ := res_cells q1 (show w.heap.size + 1 ≠ w.heap.size by omega) (.string t) (.int .u64 0) (.string ⟨#[]⟩)
  have hlt := HT.out.len
  clear hb hu ht q1 q2 N1 N2 N3 N0
  cases b
  · have HF := Lib.hid (show readR 3 l = (none, 6) from by rw [HR.out, HU.out]; rfl)
    clear HR HU
    go_wp2
    refine bodyPost_ret (by simp [results, Tryz.results7, go_sem, k0, k1]; try rfl) rfl ?_
    exact ⟨by rw [HF.out]; rfl, ((HB.out.setCell (by simp) _).setCell (by simp) _).setCell (by simp) _⟩
  · by_cases h256 : 256 < m.length
    · have HF := Lib.hid (show readR 3 l = (none, 7) from by rw [HR.out, HU.out]; exact if_pos h256)
      have hd : decide ((m.length : Int) > 256) = true := decide_eq_true (by omega)
      clear HR HU
      go_wp2
      refine bodyPost_ret (by simp [results, Tryz.results7, go_sem, k0, k1]; try rfl) rfl ?_
      exact ⟨by rw [HF.out]; rfl, ((HB.out.setCell (by simp) _).setCell (by simp) _).setCell (by simp) _⟩
    · have HF := Lib.hid (show readR 3 l = (some (0, m), 0) from by rw [HR.out, HU.out]; exact (if_neg h256).trans (if_neg (fun hh => absurd hh.1 (by decide))))
      have hd : decide ((m.length : Int) > 256) = false := decide_eq_false (by omega)
      clear HR HU k0 k1
      obtain ⟨k0, k1⟩ := res_cells (w := w2) (b := w.heap.size) (c := w.heap.size + 1) Q1.out (by omega) (.string t) (.int .u64 0) (.string t)
      go_wp2
      refine bodyPost_ret (by simp [results, Tryz.results7, go_sem, k0, k1]; try rfl) rfl ?_
      exact ⟨by rw [HF.out]; exact ⟨t, HT.out, rfl⟩, ((HB.out.setCell (by simp) _).setCell (by simp) _).setCell (by simp) _⟩

set_option maxHeartbeats 4000000 in
theorem ref_Read4 (s : ByteArray) (l : List UInt8) (w : World) (h : RdS s l) :
    Calls Tryz.prog 7 #[.int .i64 4, .string s] w fun e w' => RdV (readR 4 l) e ∧ Below w.heap.size w w' := by
  have HR := Lib.hid (readR34 4 (by decide) l)
  obtain ⟨N0, N1, N2, N3⟩ := new2 w (.cells #[.int .u64 0, .string ⟨#[]⟩] 24) (.cells #[.int .u64 0, .string ⟨#[]⟩] 24)
  obtain ⟨w0, hw0⟩ : ∃ w0, w0 = (w.alloc (.cells #[.int .u64 0, .string ⟨#[]⟩] 24)).alloc (.cells #[.int .u64 0, .string ⟨#[]⟩] 24) := ⟨_, rfl⟩
  rw [← hw0] at N0 N1 N2 N3
  go_enter Tryz.func7, Tryz.ntmps7
  go_wp2_with fail
  rw [← hw0]
  clear hw0
  refine (ref_Unhex s l _ h).mono ?_
  rintro e w2 ⟨⟨t, m, b, rfl, ht, hu⟩, hb⟩
  have q1 := keepB N1 hb
  have q2 := keepB N2 hb
  have HB := Lib.hid (N3.trans (hb.mono N3.size))
  have HU := Lib.hid hu
  have Q1 := Lib.hid q1
  have HT := Lib.hid ht
  have c0 := new_cellC (i := 0) q2 rfl
  have c1 := new_cellC (i := 1) q2 rfl
  have f0 : w2.frozen? ⟨w.heap.size + 1, 0, none⟩ = false := frozen_of_row _ _ _ _ _ q2
  have f1 : w2.frozen? ⟨w.heap.size + 1, 1, none⟩ = false := frozen_of_row _ _ _ _ _ q2
  have d0 := new_cellC (i := 0) q1 rfl
  have d1 := new_cellC (i := 1) q1 rfl
  have g0 : w2.frozen? ⟨w.heap.size, 0, none⟩ = false := frozen_of_row _ _ _ _ _ q1
  have g1 : w2.frozen? ⟨w.heap.size, 1, none⟩ = false := frozen_of_row _ _ _ _ _ q1
  obtain ⟨k0, k1⟩ := res_cells q1 (show w.heap.size + 1 ≠ w.heap.size by omega) (.string t) (.int .u64 0) (.string ⟨#[]⟩)
  have hlt := HT.out.len
  clear hb hu ht q1 q2 N1 N2 N3 N0
  cases b
  · have HF := Lib.hid (show readR 4 l = (none, 6) from by rw [HR.out, HU.out]; rfl)
    clear HR HU
    go_wp2
    refine bodyPost_ret (by simp [results, Tryz.results7, go_sem, k0, k1]; try rfl) rfl ?_
    exact ⟨by rw [HF.out]; rfl, ((HB.out.setCell (by simp) _).setCell (by simp) _).setCell (by simp) _⟩
  · by_cases h256 : 256 < m.length
    · have HF := Lib.hid (show readR 4 l = (none, 7) from by rw [HR.out, HU.out]; exact if_pos h256)
      have hd : decide ((m.length : Int) > 256) = true := decide_eq_true (by omega)
      clear HR HU
      go_wp2
      refine bodyPost_ret (by simp [results, Tryz.results7, go_sem, k0, k1]; try rfl) rfl ?_
      exact ⟨by rw [HF.out]; rfl, ((HB.out.setCell (by simp) _).setCell (by simp) _).setCell (by simp) _⟩
    · have hd : decide ((m.length : Int) > 256) = false := decide_eq_false (by omega)
      have huc := HT.out
      clear k0 k1
      cases hu8 : utf8 m
      · have HF := Lib.hid (show readR 4 l = (none, 11) from by rw [HR.out, HU.out]; exact (if_neg h256).trans (if_pos (by simp [hu8])))
        obtain ⟨k0, k1⟩ := res_cells (w := w2) (b := w.heap.size) (c := w.heap.size + 1) Q1.out (by omega) (.string t) (.int .u64 0) (.string ⟨#[]⟩)
        have HU8 := Lib.hid hu8
        clear HR HU hu8 huc
        go_wp2_with fail
        refine (ref_UTF8 t m _ HT.out).mono ?_
        rintro e w3 ⟨rfl, rfl⟩
        rw [HU8.out]
        go_wp2
        refine bodyPost_ret (by simp [results, Tryz.results7, go_sem, k0, k1]; try rfl) rfl ?_
        exact ⟨by rw [HF.out]; rfl, ((HB.out.setCell (by simp) _).setCell (by simp) _).setCell (by simp) _⟩

      · have HF := Lib.hid (show readR 4 l = (some (0, m), 0) from by rw [HR.out, HU.out]; exact (if_neg h256).trans (if_neg (fun hh => by rw [hu8] at hh; cases hh.2)))
        obtain ⟨k0, k1⟩ := res_cells (w := w2) (b := w.heap.size) (c := w.heap.size + 1) Q1.out (by omega) (.string t) (.int .u64 0) (.string t)
        have HU8 := Lib.hid hu8
        clear HR HU hu8 huc
        go_wp2_with fail
        refine (ref_UTF8 t m _ HT.out).mono ?_
        rintro e w3 ⟨rfl, rfl⟩
        rw [HU8.out]
        go_wp2
        refine bodyPost_ret (by simp [results, Tryz.results7, go_sem, k0, k1]; try rfl) rfl ?_
        exact ⟨by rw [HF.out]; exact ⟨t, HT.out, rfl⟩, ((HB.out.setCell (by simp) _).setCell (by simp) _).setCell (by simp) _⟩

end Go.Proofs.YtdegeifklchjaaaGreatDoor
