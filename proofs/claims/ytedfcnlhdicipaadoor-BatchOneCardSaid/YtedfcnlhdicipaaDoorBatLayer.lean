/-
  batch.layer and its closure: columns turned into rows, cell by cell.
-/
import Derived.Test.YtedfcnlhdicipaaDoorBatW
import Derived.Test.YtedfcnlhdicipaaDoorGBatO
import Derived.Test.YtedfcnlhdicipaaDoorReaderRun
import Derived.RegionTactic
import Derived.BigRegion
import Derived.Deep.AppendLies
set_option linter.unusedVariables false
set_option linter.unusedSimpArgs false
set_option maxRecDepth 1000000
namespace Go.Proofs.YtedfcnlhdicipaaDoor
open Go.RowKit Go.Shelf

theorem ne_of_type {w : World} {a b : Nat} {x y : Array Value} {T U : TypeId} {z z' : Nat × Nat} (h1 : w.heap[a]? = some (.cells x T z)) (h2 : w.heap[b]? = some (.cells y U z')) (hTU : T ≠ U) : a ≠ b := by
  rintro rfl
  rw [h1] at h2
  injection h2 with h2
  injection h2 with _ h3 _
  exact hTU h3
theorem OwnE.own_type {w : World} {base q : Nat} {v : Value} {cs : List CellB} (h : OwnE w base v cs) (hq : v.ownBlock = some q) : ∃ cur, w.heap[q]? = some (.cells cur 54 (0, 0)) := by
  rcases h.1.2 with ⟨rfl, _⟩ | ⟨g, cap, cur, rfl, _, hg, _⟩
  · cases hq
  · simp only [Value.ownBlock] at hq
    injection hq with hq
    subst hq
    exact ⟨cur, hg⟩
theorem own_shapeG2 {E : Elt} {w : World} {base : Nat} {v : Value} {vs : List (List Value)} (h : OwnG E w base v vs) : ∃ ao tl cap, v = .slice ao tl cap := by
  rcases h.1.2 with ⟨rfl, _⟩ | ⟨q, cap, cur, rfl, _⟩
  · exact ⟨_, _, _, rfl⟩
  · exact ⟨_, _, _, rfl⟩

/-- What the closure does: row j grows by a cell, the place goes on. -/
structure Lays (w w' : World) (base gP gs ga n j : Nat) (us : List TriB) (u : TriB) (c : CellB) (rv : Value) : Prop where
  own : OwnM w' base gP (us.set j (rv, (u.2.1 ++ [c], u.2.2)))
  set : w'.heap[gs]? = some (.cells #[.slice (some ⟨gP, 0, none⟩) n n] 25 (0, 0))
  at_ : w'.heap[ga]? = some (.cells #[.int .i64 (((j + 1) % n : Nat) : Int)] 3 (0, 0))
  only : Only (fun q => q = ga ∨ q = gP ∨ u.1.ownBlock = some q) w w'
  place : rv.ownBlock = u.1.ownBlock ∨ ∀ q, rv.ownBlock = some q → w.heap.size ≤ q

set_option maxHeartbeats 16000000 in
theorem batch_layer1 (base gP gs ga n j : Nat) (us : List TriB) (u : TriB) (x : Nat) (t : ByteArray) (w : World) (hO : OwnM w base gP us) (hn : us.length = n) (hj : us[j]? = some u) (hl : u.2.1.length + 1 ≤ 1024)
    (hs : w.heap[gs]? = some (.cells #[.slice (some ⟨gP, 0, none⟩) n n] 25 (0, 0))) (ha : w.heap[ga]? = some (.cells #[.int .i64 (j : Int)] 3 (0, 0))) :
    Calls Tryd.prog 42 #[.agg #[.int .u64 (x : Int), .string t], .pointer (some ⟨gs, 0, none⟩), .pointer (some ⟨ga, 0, none⟩)] w fun e w' => e = .returned (.tuple #[]) ∧ ∃ rv, Lays w w' base gP gs ga n j us u (x, t) rv := by
  have hjn : j < n := by rw [← hn]; exact (List.getElem?_eq_some_iff.1 hj).1
  have hfew := hO.few
  rw [hn] at hfew
  have n1 : gs ≠ ga := ne_of_type hs ha (by decide)
  have n2 : gs ≠ gP := ne_of_type hs hO.blk (by decide)
  have n3 : ga ≠ gP := ne_of_type ha hO.blk (by decide)
  have hlt := hO.lt
  have hsl : gs < w.heap.size := (Array.getElem?_eq_some_iff.1 hs).1
  have hal : ga < w.heap.size := (Array.getElem?_eq_some_iff.1 ha).1
  obtain ⟨W, hW⟩ : ∃ W, W = w.alloc (.cells #[.int .u64 (x : Int), .string t] 54) := ⟨_, rfl⟩
  have hbW : Below w.heap.size w W := by rw [hW]; exact (Below.refl _ _).alloc (Nat.le_refl _) _
  have hbx : W.heap[w.heap.size]? = some (.cells #[.int .u64 (x : Int), .string t] 54 (0, 0)) := by rw [hW]; exact heap_alloc_new _ _
  have hWs : W.heap.size = w.heap.size + 1 := by rw [hW, World.size_alloc]
  have hOW := hO.later hbW
  have hsW : W.heap[gs]? = some (.cells #[.slice (some ⟨gP, 0, none⟩) n n] 25 (0, 0)) := (hbW.block gs hsl).trans hs
  have haW : W.heap[ga]? = some (.cells #[.int .i64 (j : Int)] 3 (0, 0)) := (hbW.block ga hal).trans ha
  obtain ⟨B, hB⟩ : ∃ B, B = w.heap.size := ⟨_, rfl⟩
  rw [← hB] at hbx hWs
  have b0 : W.cell? ⟨B, 0, none⟩ = some (.int .u64 (x : Int)) := by rw [cell_of_row _ _ _ _ _ _ hbx]; rfl
  have b1 : W.cell? ⟨B, 1, none⟩ = some (.string t) := by rw [cell_of_row _ _ _ _ _ _ hbx]; rfl
  have s0 : W.cell? ⟨gs, 0, none⟩ = some (.slice (some ⟨gP, 0, none⟩) n n) := by rw [cell_of_row _ _ _ _ _ _ hsW]; rfl
  have a0 : W.cell? ⟨ga, 0, none⟩ = some (.int .i64 (j : Int)) := by rw [cell_of_row _ _ _ _ _ _ haW]; rfl
  have hi7 : ∀ u9, (Instr.indexAt 25 (.slice (some ⟨gP, 0, none⟩) n n) (.int .i64 (j : Int))).run Tryd.prog u9 = .ok (.pointer (some ⟨gP, 2 * j, none⟩)) u9 := by
    have := hO.idx (i := j) (by rw [hn]; exact hjn)
    rw [hn] at this
    exact this
  have hln : ∀ u9, (Builtin.len_ #[25] 3 #[.slice (some ⟨gP, 0, none⟩) n n]).run Tryd.prog u9 = .ok (.int .i64 (n : Int)) u9 := by
    have := hO.len
    rw [hn] at this
    exact this
  obtain ⟨k9, _, f9, _⟩ := hOW.cell hj
  have hbl7 : Below W.heap.size W (W.alloc (.cells #[.int .u64 (x : Int), .string t] 54)) := (Below.refl _ _).alloc (Nat.le_refl _) _
  have k9a : (W.alloc (.cells #[.int .u64 (x : Int), .string t] 54)).cell? ⟨gP, 2 * j, none⟩ = some u.1 := ((hOW.later hbl7).cell hj).1
  have hrow := hOW.rows j u hj
  have HRow := Lib.hid (show OwnG cellE ((W.alloc (.cells #[.int .u64 (x : Int), .string t] 54)).drew) (gP + 1) u.1 (u.2.1.map cellVs) from (hrow.alloc _).drew)
  obtain ⟨rv, hrv⟩ : ∃ rv, rv = u.1 := ⟨_, rfl⟩
  rw [← hrv] at k9 k9a HRow
  have HRv := Lib.hid hrv
  have hne9 := Lib.hid (show ∀ q, rv.ownBlock = some q → q ≠ gP ∧ q ≠ gs ∧ q ≠ ga from fun q hq => by
    obtain ⟨cur, hc⟩ := OwnE.own_type hrow (by rw [← hrv]; exact hq)
    exact ⟨ne_of_type hc hOW.blk (by decide), ne_of_type hc hsW (by decide), ne_of_type hc haW (by decide)⟩)
  have H1c := Lib.hid (one_cellv W (x, t))
  have HSz := Lib.hid (show gP + 1 ≤ W.heap.size from by have := hOW.lt; omega)
  have HNs := Lib.hid (show gs < W.heap.size ∧ ga < W.heap.size ∧ gs ≠ ga ∧ gs ≠ gP ∧ ga ≠ gP from ⟨by omega, by omega, n1, n2, n3⟩)
  have HOW := Lib.hid hOW
  have HSW := Lib.hid hsW
  have HAW := Lib.hid haW
  have HBW := Lib.hid hbW
  have HWE := Lib.hid hW
  have HB := Lib.hid hB
  have HWs := Lib.hid hWs
  have s9 := s0
  have a9 := a0
  rw [hW] at s9 a9
  have HJ := Lib.hid hj
  have HJN := Lib.hid hjn
  clear hO hj hs ha n1 n2 n3 hlt hsl hal hbx hOW hsW haW hbl7 hrow hrv hbW hW hB hWs
  go_enter Tryd.func42, Tryd.ntmps42
  go_wp2_with fail
  rw [← HWE.out]
  rw [← HB.out]
  clear s9 a9
  go_region_law (first
    | (refine stepG_one cellOk (gP + 1) rv (cellVs (x, t)) ⟨W.heap.size, 0, none⟩ (by rfl) (by rfl) HRow.out (by rfl) rfl (by intro z hz; simp [cellVs] at hz; rcases hz with rfl | rfl <;> rfl) H1c.out (by simp; show _ * 24 ≤ _; omega) (by simp; omega) (by show gP + 1 ≤ (W.alloc _).heap.size; rw [World.size_alloc]; have := HSz.out; omega) (gP + 1) _ (Below.refl _ _) (Nat.le_refl _) ?_; intro v9 w9 q1 q2 q3 q4; obtain ⟨ao9, tl9, cap9, hv9⟩ := own_shapeG2 q1; subst hv9; have c9 : w9.cell? ⟨gP, 2 * j, none⟩ = some rv := (World.cell?_of_block (q2.block gP (by omega))).trans k9a; have f9' : w9.frozen? ⟨gP, 2 * j, none⟩ = false := (World.frozen?_of_block ((q2.block gP (by omega)).trans (Below.heap_alloc W _ _ (by have := HSz.out; omega)))).trans f9; have Q1 := Lib.hid q1; have Q3 := Lib.hid q3; have Q4 := Lib.hid q4; have Q2 := Lib.hid q2; clear q1 q2 q3 q4))
  all_goals (
    have hal : Below W.heap.size W ((W.alloc (.cells #[.int .u64 (x : Int), .string t] 54)).drew) := ((Below.refl _ _).alloc (Nat.le_refl _) _).drew
    have hgs : w9.grownBy (w9.setCell ⟨gP, 2 * j, none⟩ (.slice ao9 tl9 cap9)) (some gP) := grown_setCell (World.grownBy.refl _ _) _
    obtain ⟨m1, m2, m3, m4, m5⟩ := HNs.out
    have hgt := HOW.out.lt
    have hOX := (HOW.out.later hal).grow HJ.out (rv := .slice ao9 tl9 cap9) (c := (x, t)) (w' := w9) (by
      have := Q1.out
      show OwnG cellE w9 (gP + 1) _ ((u.2.1 ++ [(x, t)]).map cellVs)
      rw [List.map_append]; exact this) (by rw [← HRv.out]; exact Q3.out) (by rw [← HRv.out]; exact Q4.out) (by omega)
    have hsX : (w9.setCell ⟨gP, 2 * j, none⟩ (.slice ao9 tl9 cap9)).heap[gs]? = some (.cells #[.slice (some ⟨gP, 0, none⟩) n n] 25 (0, 0)) :=
      (hgs.block gs (by have := Q3.out.size; have := hal.size; omega) (fun e => by injection e with e; omega)).trans ((Q3.out.block gs (by have := hal.size; omega) (fun e => (hne9.out gs e.symm).2.1 rfl)).trans ((hal.block gs m1).trans HSW.out))
    have haX : (w9.setCell ⟨gP, 2 * j, none⟩ (.slice ao9 tl9 cap9)).heap[ga]? = some (.cells #[.int .i64 (j : Int)] 3 (0, 0)) :=
      (hgs.block ga (by have := Q3.out.size; have := hal.size; omega) (fun e => by injection e with e; omega)).trans ((Q3.out.block ga (by have := hal.size; omega) (fun e => (hne9.out ga e.symm).2.2 rfl)).trans ((hal.block ga m2).trans HAW.out))
    have hoX : Only (fun q => q = gP ∨ u.1.ownBlock = some q) w (w9.setCell ⟨gP, 2 * j, none⟩ (.slice ao9 tl9 cap9)) := by
      have e1 := HBW.out.size
      refine ⟨hgs.os.trans (Q3.out.os.trans (hal.os.trans HBW.out.os)), hgs.tape.trans (Q3.out.tape.trans (hal.tape.trans HBW.out.tape)), hgs.output.trans (Q3.out.output.trans (hal.output.trans HBW.out.output)), Nat.le_trans e1 (Nat.le_trans hal.size (Nat.le_trans Q3.out.size hgs.size)), fun q h1 h2 => ?_⟩
      have hq1 : q ≠ gP := fun e => h2 (.inl e)
      have hq2 : some q ≠ rv.ownBlock := fun e => h2 (.inr (by rw [← HRv.out]; exact e.symm))
      exact (hgs.block q (by have := Q3.out.size; have := hal.size; omega) (fun e => by injection e with e; exact hq1 e)).trans ((Q3.out.block q (by have := hal.size; omega) hq2).trans ((hal.block q (by omega)).trans (HBW.out.block q h1)))
    generalize w9.setCell ⟨gP, 2 * j, none⟩ (.slice ao9 tl9 cap9) = WX at *
    obtain ⟨r, hr⟩ : ∃ r, r = (j + 1) % n := ⟨_, rfl⟩
    have hrem : Int.tmod ((j : Int) + 1) (n : Int) = (r : Int) := by
      rw [Int.tmod_eq_emod_of_nonneg (by omega), hr]; rfl
    have hn0 : ((n : Int) == 0) = false := by rw [beq_eq_false_iff_ne]; omega
    have s7 : WX.cell? ⟨gs, 0, none⟩ = some (.slice (some ⟨gP, 0, none⟩) n n) := by rw [cell_of_row _ _ _ _ _ _ hsX]; rfl
    have a7 : WX.cell? ⟨ga, 0, none⟩ = some (.int .i64 (j : Int)) := by rw [cell_of_row _ _ _ _ _ _ haX]; rfl
    have af : WX.frozen? ⟨ga, 0, none⟩ = false := frozen_of_row _ _ _ _ _ haX
    have hga : WX.grownBy (WX.setCell ⟨ga, 0, none⟩ (.int .i64 (r : Int))) (some ga) := grown_setCell (World.grownBy.refl _ _) _
    have HFin := Lib.hid (show Lays w (WX.setCell ⟨ga, 0, none⟩ (.int .i64 (r : Int))) base gP gs ga n j us u (x, t) (.slice ao9 tl9 cap9) from by
      refine ⟨hOX.aside hga (fun q hq => ?_), ?_, ?_, ?_, ?_⟩
      · injection hq with hq
        subst hq
        refine ⟨m5, fun z hz e => ?_⟩
        obtain ⟨i, hi⟩ := List.getElem?_of_mem hz
        obtain ⟨cur, hc⟩ := OwnE.own_type (hOX.rows i z hi) e
        exact ne_of_type hc haX (by decide) rfl
      · exact (hga.block gs (Array.getElem?_eq_some_iff.1 hsX).1 (fun e => by injection e with e; exact m3 e)).trans hsX
      · rw [block_setCell haX _, ← hr]; rfl
      · refine ⟨hga.os.trans hoX.os, hga.tape.trans hoX.tape, hga.output.trans hoX.output, Nat.le_trans hoX.size hga.size, fun q h1 h2 => ?_⟩
        exact (hga.block q (by have := hoX.size; omega) (fun e => by injection e with e; exact h2 (.inl e))).trans (hoX.block q h1 (fun h3 => h2 (.inr h3)))
      · rcases Q4.out with h | h
        · exact .inl (by rw [← HRv.out]; exact h)
        · refine .inr (fun q hq => ?_)
          have h1 := h q hq
          have h2 := hal.size
          have h3 := HBW.out.size
          omega)
    clear hOX hsX haX hoX hga hr hgs hal hgt m1 m2 m3 m4 m5 Q1 Q2 Q3 Q4 c9 f9' k9 k9a f9 b0 b1 s0 a0
    go_wp2
    go_end0
    exact ⟨rfl, _, HFin.out⟩)

theorem batch_layer (v : Value) (w : World) (hv : ∃ ao tl cap, v = .slice ao tl cap) :
    Calls Tryd.prog 24 #[v] w fun e w' => e = .returned (.func (.func 42) #[] #[.pointer (some ⟨w.heap.size, 0, none⟩), .pointer (some ⟨w.heap.size + 1, 0, none⟩)]) ∧
      w' = (w.alloc (.cells #[v] 25)).alloc (.cells #[.int .i64 0] 3) := by
  obtain ⟨ao, tl, cap, rfl⟩ : ∃ ao tl cap, v = .slice ao tl cap := hv
  go_enter Tryd.func24, Tryd.ntmps24
  go_wp2
  go_ret
  exact ⟨rfl, rfl⟩

/-- 'make([]api.Pair, n)' for a number of 64 bits. -/
theorem make_pairs64 (n : Nat) (hn : n ≤ 1024) (u : World) : (Instr.makeSlice 25 (.int .u64 (n : Int)) (.int .u64 (n : Int))).run Tryd.prog u =
    .ok (.slice (some ⟨u.heap.size, 0, none⟩) n n) (u.alloc (.cells (List.replicate n (triV (.slice none 0 0, ([], 0)))).flatten.toArray 48)) := by
  obtain ⟨i0, hi, hz0, hz1, hz2⟩ := info_parts info_pair
  have h := run_make (P := Tryd.prog) u 25 48 i0 (.agg #[.slice none 0 0, .int .i64 0]) Tryd.underlying25 hi hz0 .u64 .u64 (n : Int) (n : Int) (by omega) (Int.le_refl _) (by rw [hz2]; omega) (by omega)
  rw [h, hz1, Int.toNat_natCast, ← List.map_replicate, flat_made]
  congr 3
  simp [madeCells, Value.cells]
  apply Array.ext
  · simp
  · intro i h1 h2
    simp

end Go.Proofs.YtedfcnlhdicipaaDoor
