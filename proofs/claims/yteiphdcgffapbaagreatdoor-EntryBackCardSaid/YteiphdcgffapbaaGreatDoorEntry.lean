/-
  Package entry, the landed code: its numbers, its frames' kinds, Check.
-/
import Derived.Test.YteiphdcgffapbaaGreatDoorGEnt
import Derived.Test.YteiphdcgffapbaaGreatDoorGZProgA
import Derived.Test.YteiphdcgffapbaaGreatDoorGZPure
set_option linter.unusedVariables false
set_option linter.unusedSimpArgs false
set_option maxRecDepth 1000000
namespace Go.Proofs.YteiphdcgffapbaaGreatDoor
open Go.RowKit Go.Shelf

theorem RdP.lit12 {w : World} {v : Value} {ps : List PairB} (h : RdP w v ps) : ∃ ao n cap, v = .slice ao n cap := by
  obtain ⟨ts, _, h, _⟩ := h
  obtain ⟨ao, cap, e, _⟩ := RdG.shape h
  exact ⟨ao, _, cap, e⟩
theorem RdC.lit12 {w : World} {v : Value} {cs : List ColB} (h : RdC w v cs) : ∃ ao n cap, v = .slice ao n cap := by
  obtain ⟨ao, cap, e, _⟩ := RdG.shape h
  exact ⟨ao, _, cap, e⟩

/-- The kinds of frames lie as the program's initialiser lays them. -/
def Frs (w : World) : Prop := w.cell? ⟨0, 0, none⟩ = some (.int .i64 2) ∧ w.cell? ⟨0, 1, none⟩ = some (.int .i64 1)

theorem Frs.at {w : World} (h : Frs w) {k : Int} (hk : k = 0 ∨ k = 1) : w.cell? ⟨0, k.toNat, none⟩ = some (.int .i64 (2 - k)) := by
  rcases hk with rfl | rfl
  · exact h.1
  · exact h.2
theorem Frs.later {w w' : World} (h : Frs w) (hb : Below w.heap.size w w') : Frs w' := ⟨keep_cell hb h.1, keep_cell hb h.2⟩

/-- An entry that is read: its kind, its number, its pairs. -/
def RdN (w : World) (v : Value) (x : EntB) : Prop := ∃ pv, v = .agg #[.int .i64 x.1, .int .i64 x.2.1, pv] ∧ RdP w pv x.2.2
theorem RdN.later {w w' : World} {v : Value} {x : EntB} (h : RdN w v x) (hb : Below w.heap.size w w') : RdN w' v x := by
  obtain ⟨pv, rfl, hP⟩ := h
  exact ⟨pv, rfl, hP.later hb (Nat.le_refl _)⟩

theorem entry_isNumber (x : Int) (w : World) : Calls Tryz.prog 31 #[.int .i64 x] w fun e w' => e = .returned (.bool (!decide (x < 0 ∨ 281474976710656 < x))) ∧ w = w' := by
  by_cases h1 : x < 0
  · have d1 : decide (x ≥ 0) = false := decide_eq_false (by omega)
    have HE := Lib.hid (show (!decide (x < 0 ∨ 281474976710656 < x)) = false from by simp; omega)
    clear h1
    go_enter Tryz.func31, Tryz.ntmps31
    go_wp2
    go_ret
    exact ⟨by rw [HE.out]; rfl, rfl⟩
  · have d1 : decide (x ≥ 0) = true := decide_eq_true (by omega)
    by_cases h2 : 281474976710656 < x
    · have d2 : decide (x ≤ 281474976710656) = false := decide_eq_false (by omega)
      have HE := Lib.hid (show (!decide (x < 0 ∨ 281474976710656 < x)) = false from by simp; omega)
      clear h1 h2
      go_enter Tryz.func31, Tryz.ntmps31
      go_wp2
      go_ret
      exact ⟨by rw [HE.out]; rfl, rfl⟩
    · have d2 : decide (x ≤ 281474976710656) = true := decide_eq_true (by omega)
      have HE := Lib.hid (show (!decide (x < 0 ∨ 281474976710656 < x)) = true from by simp; omega)
      clear h1 h2
      go_enter Tryz.func31, Tryz.ntmps31
      go_wp2
      go_ret
      exact ⟨by rw [HE.out]; rfl, rfl⟩

theorem entry_next (s k : Int) (hs : 0 ≤ s ∧ s ≤ 281474976710656) (w : World) : Calls Tryz.prog 43 #[.int .i64 s, .int .i64 k] w fun e w' => e = .returned (.int .i64 (if k = 1 then s else s + 1)) ∧ w = w' := by
  by_cases h1 : k = 1
  · subst h1
    rw [if_pos rfl]
    clear hs
    go_enter Tryz.func43, Tryz.ntmps43
    go_wp2
    go_ret
    exact ⟨rfl, rfl⟩
  · have d1 : (k == 1) = false := by rw [beq_eq_false_iff_ne]; exact h1
    rw [if_neg h1]
    clear h1
    go_enter Tryz.func43, Tryz.ntmps43
    go_wp2
    go_ret
    exact ⟨rfl, rfl⟩

def KindO (k : Int) (w : World) (e : Ending) (w' : World) : Prop := (∃ x, e = .returned (.tuple #[.int .i64 x, .bool (decide (k = 1 ∨ k = 2))]) ∧ (k = 1 ∨ k = 2 → x = 2 - k)) ∧ w = w'
/-- 'kindOf': 2 less the frame's kind, for 1 and 2. -/
theorem entry_kindOf (k : Int) (w : World) (hF : Frs w) : Calls Tryz.prog 35 #[.int .i64 k] w (KindO k w) := by
  obtain ⟨f0, f1⟩ := hF
  have i0 : ∀ u, (Instr.index 69 (.agg #[.int .i64 2, .int .i64 1]) (.int .i64 0)).run Tryz.prog u = .ok (.int .i64 2) u := fun _ => by kernel_rfl
  have i1 : ∀ u, (Instr.index 69 (.agg #[.int .i64 2, .int .i64 1]) (.int .i64 1)).run Tryz.prog u = .ok (.int .i64 1) u := fun _ => by kernel_rfl
  go_enter Tryz.func35, Tryz.ntmps35
  go_wp2
  go_loopw [7] (fun i wr => ∃ j : Nat, j ≤ 2 ∧ i = .int .i64 j ∧ w = wr ∧ Hid ((0 < j → k ≠ 2) ∧ (1 < j → k ≠ 1))) (fun i _ => 2 - (intOf i).toNat)
  case atStart => exact ⟨0, by omega, rfl, rfl, Lib.hid ⟨by omega, by omega⟩⟩
  case round =>
    obtain ⟨j, hj, rfl, rfl, HH⟩ := hrel
    have hjc : j = 0 ∨ j = 1 ∨ j = 2 := by omega
    rcases hjc with rfl | rfl | rfl
    · rw [show ((0 : Nat) : Int) = 0 from rfl]
      clear hj
      by_cases h1 : k = 2
      · subst h1
        go_wp2
        go_ret2
        exact ⟨⟨0, rfl, fun _ => rfl⟩, rfl⟩
      · have d1 : ((2 : Int) == k) = false := by rw [beq_eq_false_iff_ne]; exact fun e => h1 e.symm
        have HN := Lib.hid h1
        clear h1
        go_wp2
        go_roundw
        case rel => exact ⟨1, by omega, by simp, by simp, Lib.hid ⟨fun _ => HN.out, by omega⟩⟩
        case measure => simp [intOf]
    · rw [show ((1 : Nat) : Int) = 1 from rfl]
      clear hj
      by_cases h1 : k = 1
      · subst h1
        go_wp2
        go_ret2
        exact ⟨⟨1, rfl, fun _ => rfl⟩, rfl⟩
      · have d1 : ((1 : Int) == k) = false := by rw [beq_eq_false_iff_ne]; exact fun e => h1 e.symm
        have HN := Lib.hid h1
        clear h1
        go_wp2
        go_roundw
        case rel => exact ⟨2, by omega, by simp, by simp, Lib.hid ⟨fun _ => HH.out.1 (by omega), fun _ => HN.out⟩⟩
        case measure => simp [intOf]
    · have h1 := Lib.hid (HH.out.1 (by omega))
      have h2 := Lib.hid (HH.out.2 (by omega))
      rw [show ((2 : Nat) : Int) = 2 from rfl]
      clear hj
      go_wp2
      go_ret2
      refine ⟨⟨0, ?_, fun h => ?_⟩, rfl⟩
      · rw [decide_eq_false (by have := h1.out; have := h2.out; omega)]; rfl
      · exfalso; rcases h with h | h
        · exact h2.out h
        · exact h1.out h

theorem new_one12 (w : World) (o : Obj) : (w.alloc o).heap[w.heap.size]? = some o ∧ Below w.heap.size w (w.alloc o) := ⟨heap_alloc_new _ _, (Below.refl _ _).alloc (Nat.le_refl _) _⟩
/-- An entry that a call holds in a block of its own. -/
def Ebox (w : World) (b : Nat) (kind seq : Int) (pv : Value) : Prop := w.heap[b]? = some (.cells #[.int .i64 kind, .int .i64 seq, pv] 25 (0, 0))
theorem Ebox.cells {w : World} {b : Nat} {kind seq : Int} {pv : Value} (h : Ebox w b kind seq pv) : w.cell? ⟨b, 0, none⟩ = some (.int .i64 kind) ∧ w.cell? ⟨b, 1, none⟩ = some (.int .i64 seq) ∧ w.cell? ⟨b, 2, none⟩ = some pv :=
  ⟨cell_of_row _ _ 0 _ _ _ h, cell_of_row _ _ 1 _ _ _ h, cell_of_row _ _ 2 _ _ _ h⟩
theorem Ebox.later {w w' : World} {b : Nat} {kind seq : Int} {pv : Value} (h : Ebox w b kind seq pv) (hb : Below w.heap.size w w') : Ebox w' b kind seq pv :=
  (hb.block b (Array.getElem?_eq_some_iff.1 h).1).trans h

set_option maxHeartbeats 4000000 in
theorem entry_Check (sv ev : Value) (cs : List ColB) (x : EntB) (w : World) (hR : RdC w sv cs) (hE : RdN w ev x) (hC : CS cs) (hX : EnO x) (hT : Tabs w) :
    Calls Tryz.prog 11 #[sv, ev] w fun e w' => e = .returned (.int .i64 (entE cs x : Nat)) ∧ Below w.heap.size w w' := by
  obtain ⟨kind, seq, ps⟩ := x
  obtain ⟨pv, rfl, hP⟩ := hE
  obtain ⟨hk, hs, hO⟩ := hX
  dsimp only at hP hk hs hO ⊢
  obtain ⟨ao, no, co, rfl⟩ := hP.lit12
  obtain ⟨N1, N2⟩ := new_one12 w (.cells #[.int .i64 kind, .int .i64 seq, .slice ao no co] 25)
  obtain ⟨w0, hw0⟩ : ∃ w0, w0 = w.alloc (.cells #[.int .i64 kind, .int .i64 seq, .slice ao no co] 25) := ⟨_, rfl⟩
  rw [← hw0] at N1 N2
  have SC := Lib.hid (schema_Check sv cs w0 (hR.later N2 (Nat.le_refl _)) hC (hT.later N2))
  have ZC := Lib.hid (fun wz (hz : Below w.heap.size w wz) => zset_Check sv (.slice ao no co) cs ps wz (hR.later hz (Nat.le_refl _)) (hP.later hz (Nat.le_refl _)) hC hO (hT.later hz))
  obtain ⟨g, hg⟩ : ∃ g, g = w.heap.size := ⟨_, rfl⟩
  rw [← hg] at N1
  have HE0 := Lib.hid (show Ebox w0 g kind seq (.slice ao no co) from N1)
  have HB0 := Lib.hid N2
  have HW0 := Lib.hid hw0
  have HG := Lib.hid hg
  obtain ⟨E, hE⟩ : ∃ E, E = errS (colsL cs) := ⟨_, rfl⟩
  obtain ⟨R, hRR⟩ : ∃ R, R = entE cs (kind, seq, ps) := ⟨_, rfl⟩
  rw [← hE] at SC
  rw [← hRR]
  unfold entE at hRR
  dsimp only at hRR
  rw [← hE] at hRR
  clear hR hP hC hO hT N1 N2 hw0 hg hE
  by_cases hE0 : E = 0
  · subst hE0
    rw [if_neg (by simp)] at hRR
    by_cases h1 : kind < 0 ∨ 1 < kind
    · rw [if_pos h1] at hRR
      subst hRR
      have hd : (decide (kind < 0) = true) ∨ (decide (kind < 0) = false ∧ decide (kind ≥ 2) = true) := by
        by_cases h : kind < 0
        · exact .inl (decide_eq_true h)
        · exact .inr ⟨decide_eq_false h, decide_eq_true (by omega)⟩
      clear h1 ZC
      rcases hd with d1 | ⟨d1, d2⟩
      all_goals (
        go_enter Tryz.func11, Tryz.ntmps11
        go_wp2_with fail
        rw [← HW0.out, ← HG.out]
        refine SC.out.mono ?_
        rintro e w1 ⟨rfl, hb⟩
        have HB1 := Lib.hid (HB0.out.trans (hb.mono HB0.out.size))
        obtain ⟨c0, c1, c2⟩ := (HE0.out.later hb).cells
        clear hb SC HE0
        go_wp2
        go_ret
        exact ⟨rfl, HB1.out⟩)
    · rw [if_neg h1] at hRR
      have d1 : decide (kind < 0) = false := decide_eq_false (by omega)
      have d2 : decide (kind ≥ 2) = false := decide_eq_false (by omega)
      clear h1
      by_cases h2 : seq < 0 ∨ 281474976710656 < seq
      · rw [if_pos h2] at hRR
        subst hRR
        have IN := Lib.hid (fun wz => entry_isNumber seq wz)
        rw [decide_eq_true h2] at IN
        clear h2 ZC
        go_enter Tryz.func11, Tryz.ntmps11
        go_wp2_with fail
        rw [← HW0.out, ← HG.out]
        refine SC.out.mono ?_
        rintro e w1 ⟨rfl, hb⟩
        have HB1 := Lib.hid (HB0.out.trans (hb.mono HB0.out.size))
        obtain ⟨c0, c1, c2⟩ := (HE0.out.later hb).cells
        clear hb SC HE0
        go_wp2_with fail
        refine (IN.out w1).mono ?_
        rintro e w2 ⟨rfl, rfl⟩
        go_wp2
        go_ret
        exact ⟨rfl, HB1.out⟩
      · rw [if_neg h2] at hRR
        have IN := Lib.hid (fun wz => entry_isNumber seq wz)
        rw [decide_eq_false h2] at IN
        rw [← hRR] at ZC
        clear h2 hRR
        go_enter Tryz.func11, Tryz.ntmps11
        go_wp2_with fail
        rw [← HW0.out, ← HG.out]
        refine SC.out.mono ?_
        rintro e w1 ⟨rfl, hb⟩
        have HB1 := Lib.hid (HB0.out.trans (hb.mono HB0.out.size))
        obtain ⟨c0, c1, c2⟩ := (HE0.out.later hb).cells
        clear hb SC HE0
        go_wp2_with fail
        refine (IN.out w1).mono ?_
        rintro e w2 ⟨rfl, rfl⟩
        go_wp2_with fail
        refine (ZC.out w1 HB1.out).mono ?_
        rintro e w3 ⟨rfl, hb⟩
        have HB3 := Lib.hid (HB1.out.trans (hb.mono HB1.out.size))
        clear hb
        go_wp2
        go_ret
        exact ⟨rfl, HB3.out⟩
  · rw [if_pos hE0] at hRR
    subst hRR
    have q : ((R : Int) != 0) = true := by rw [bne_iff_ne]; omega
    clear hE0 ZC
    go_enter Tryz.func11, Tryz.ntmps11
    go_wp2_with fail
    rw [← HW0.out, ← HG.out]
    refine SC.out.mono ?_
    rintro e w1 ⟨rfl, hb⟩
    have HB1 := Lib.hid (HB0.out.trans (hb.mono HB0.out.size))
    clear hb SC HE0
    go_wp2
    go_ret
    exact ⟨rfl, HB1.out⟩

end Go.Proofs.YteiphdcgffapbaaGreatDoor
