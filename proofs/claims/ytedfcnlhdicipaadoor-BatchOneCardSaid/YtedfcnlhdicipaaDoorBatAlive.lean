/-
  Layer 10's law: its example.
-/
import Derived.Test.YtedfcnlhdicipaaDoorBatW
set_option linter.unusedVariables false
set_option linter.unusedSimpArgs false
set_option maxRecDepth 1000000
namespace Go.Proofs.YtedfcnlhdicipaaDoor
open Go.RowKit Go.Shelf

def ex10C : List ColB := [(⟨#[105, 100]⟩, 0), (⟨#[110, 97, 109, 101]⟩, 4)]
def ex10A : List CellB := [(1, ⟨#[]⟩), (0, ⟨#[97]⟩)]
def ex10B : List CellB := [(2, ⟨#[]⟩), (0, ⟨#[98]⟩)]
def ex10P : List PairB := [(ex10A, 2), (ex10B, 1)]
theorem ex10C_ok : CS ex10C := by
  intro c hc
  unfold ex10C at hc
  simp at hc
  rcases hc with rfl | rfl <;> exact ⟨by decide, by decide, by decide⟩
theorem ex10P_ok : PSO ex10P := by
  intro p hp
  simp [ex10P] at hp
  rcases hp with rfl | rfl
  · refine ⟨fun c hc => ?_, by decide, by decide⟩
    simp [ex10A] at hc
    rcases hc with rfl | rfl <;> exact ⟨by decide, by decide⟩
  · refine ⟨fun c hc => ?_, by decide, by decide⟩
    simp [ex10B] at hc
    rcases hc with rfl | rfl <;> exact ⟨by decide, by decide⟩
theorem ex10_chk : chkZ ex10C ex10P = 0 := by decide +kernel
theorem ex10_wr : btWr (kindsL ex10C) (psL ex10P) = [2, 2, 2, 0, 1, 97, 0, 1, 98, 4, 2] := by decide +kernel

theorem cell_Int10 (x : Int) (n : Nat) (hn : x % 18446744073709551616 = (n : Int)) (w : World) :
    Calls Tryd.prog 19 #[.int .i64 x] w fun e w' => e = .returned (.agg #[.int .u64 (n : Int), .string ⟨#[]⟩]) ∧ Below w.heap.size w w' := by
  have hw : IntKind.u64.wrap x = (n : Int) := by
    have : IntKind.u64.wrap x = x % 18446744073709551616 := by simp [IntKind.wrap, IntKind.signed, IntKind.bits]
    omega
  clear hn
  go_enter Tryd.func19, Tryd.ntmps19
  go_wp2
  refine bodyPost_ret (by simp [results, Tryd.results19, go_sem]; try rfl) rfl ?_
  exact ⟨rfl, (Below.refl _ _).alloc (Nat.le_refl _) _⟩

theorem rdC_two10 (w : World) (a b : ColB) : RdC (w.alloc (.cells #[.string a.1, .int .i64 a.2, .string b.1, .int .i64 b.2] 43)) (.slice (some ⟨w.heap.size, 0, none⟩) 2 2) [a, b] := by
  have ho := ownG_built colE w w.heap.size (Nat.le_refl _) ([a, b].map colV) (by intro x hx; obtain ⟨t, _, rfl⟩ := List.mem_map.1 hx; rfl) (by
    intro x hx u hu
    obtain ⟨t, ht, rfl⟩ := List.mem_map.1 hx
    simp [colV] at hu
    rcases hu with rfl | rfl <;> rfl) (by simp)
  exact OwnG.rd ho (by simp)
theorem rdE_two10 (w : World) (a b : CellB) : RdE (w.alloc (.cells #[.int .u64 (a.1 : Int), .string a.2, .int .u64 (b.1 : Int), .string b.2] 54)) (.slice (some ⟨w.heap.size, 0, none⟩) 2 2) [a, b] := by
  have ho := ownG_built cellE w w.heap.size (Nat.le_refl _) ([a, b].map cellVs) (flat_twoE _) (one_twoE _) (by simp)
  exact OwnG.rd ho (by simp)
theorem rdP_two10 (w : World) (p q : TriB) (h1 : RdE w p.1 p.2.1) (h2 : RdE w q.1 q.2.1) :
    RdP (w.alloc (.cells #[p.1, .int .i64 p.2.2, q.1, .int .i64 q.2.2] 48)) (.slice (some ⟨w.heap.size, 0, none⟩) 2 2) [p.2, q.2] := by
  have hbe := (Below.refl w.heap.size w).alloc (Nat.le_refl _) (.cells #[p.1, .int .i64 p.2.2, q.1, .int .i64 q.2.2] 48)
  have ho := ownG_built pairE w w.heap.size (Nat.le_refl _) ([p, q].map triV) (by intro x hx; obtain ⟨t, _, rfl⟩ := List.mem_map.1 hx; rfl) (by
    intro x hx u hu
    obtain ⟨t, ht, rfl⟩ := List.mem_map.1 hx
    simp at ht
    rcases ht with rfl | rfl
    · exact triV_one h1 u hu
    · exact triV_one h2 u hu) (by simp)
  refine ⟨[p, q], rfl, OwnG.rd ho (by simp), ?_⟩
  intro t ht
  simp at ht
  rcases ht with rfl | rfl
  · exact h1.later hbe (Nat.le_refl _)
  · exact h2.later hbe (Nat.le_refl _)

set_option maxHeartbeats 4000000 in
theorem law10_example (w : World) : Calls Tryd.prog 8 #[] w fun e w' => ∃ sv av, e = .returned (.tuple #[sv, av]) ∧ RdC w' sv ex10C ∧ RdP w' av ex10P ∧ Below w.heap.size w w' := by
  have HV1 := Lib.hid (rdC_two10 w (⟨#[105, 100]⟩, 0) (⟨#[110, 97, 109, 101]⟩, 4))
  have HB1 := Lib.hid ((Below.refl w.heap.size w).alloc (Nat.le_refl _) (.cells #[.string ⟨#[105, 100]⟩, .int .i64 0, .string ⟨#[110, 97, 109, 101]⟩, .int .i64 4] 43))
  go_enter Tryd.func8, Tryd.ntmps8
  go_wp2_with fail
  refine (cell_Int10 1 1 (by decide) _).mono ?_
  rintro e w2 ⟨rfl, hb⟩
  have HB2 := Lib.hid (HB1.out.trans (hb.mono HB1.out.size))
  have HV2 := Lib.hid (HV1.out.later hb (Nat.le_refl _))
  have HR3 := Lib.hid (rdE_two10 w2 (1, ⟨#[]⟩) (0, ⟨#[97]⟩))
  have hb3 := (Below.refl w2.heap.size w2).alloc (Nat.le_refl _) (.cells #[.int .u64 1, .string ⟨#[]⟩, .int .u64 0, .string ⟨#[97]⟩] 54)
  have HB3 := Lib.hid (HB2.out.trans (hb3.mono HB2.out.size))
  have HV3 := Lib.hid (HV2.out.later hb3 (Nat.le_refl _))
  clear hb HB1 HV1 hb3
  go_wp2_with fail
  refine (cell_Int10 2 2 (by decide) _).mono ?_
  rintro e w4 ⟨rfl, hb⟩
  have HB4 := Lib.hid (HB3.out.trans (hb.mono HB3.out.size))
  have HV4 := Lib.hid (HV3.out.later hb (Nat.le_refl _))
  have HR4 := Lib.hid (HR3.out.later hb (Nat.le_refl _))
  have HR5 := Lib.hid (rdE_two10 w4 (2, ⟨#[]⟩) (0, ⟨#[98]⟩))
  have hb5 := (Below.refl w4.heap.size w4).alloc (Nat.le_refl _) (.cells #[.int .u64 2, .string ⟨#[]⟩, .int .u64 0, .string ⟨#[98]⟩] 54)
  have HB5 := Lib.hid (HB4.out.trans (hb5.mono HB4.out.size))
  have HV5 := Lib.hid (HV4.out.later hb5 (Nat.le_refl _))
  have HQ5 := Lib.hid (HR4.out.later hb5 (Nat.le_refl _))
  have HP6 := Lib.hid (rdP_two10 (w4.alloc (.cells #[.int .u64 2, .string ⟨#[]⟩, .int .u64 0, .string ⟨#[98]⟩] 54)) (.slice (some ⟨w2.heap.size, 0, none⟩) 2 2, (ex10A, 2)) (.slice (some ⟨w4.heap.size, 0, none⟩) 2 2, (ex10B, 1)) HQ5.out HR5.out)
  have hb6 := (Below.refl (w4.alloc (.cells #[.int .u64 2, .string ⟨#[]⟩, .int .u64 0, .string ⟨#[98]⟩] 54)).heap.size _).alloc (Nat.le_refl _) (.cells #[.slice (some ⟨w2.heap.size, 0, none⟩) 2 2, .int .i64 2, .slice (some ⟨w4.heap.size, 0, none⟩) 2 2, .int .i64 1] 48)
  have HB6 := Lib.hid (HB5.out.trans (hb6.mono HB5.out.size))
  have HV6 := Lib.hid (HV5.out.later hb6 (Nat.le_refl _))
  clear hb hb5 hb6 HB3 HV3 HR3 HB4 HV4 HR4
  go_wp2
  go_ret2
  have hP := HP6.out
  rw [World.size_alloc] at hP
  exact ⟨_, _, rfl, HV6.out, hP, HB6.out⟩

set_option maxHeartbeats 4000000 in
theorem law10_alive (w : World) (hT : Tabs w) :
    Calls Tryd.prog 4 #[] w fun e w' => e = .returned (.bool true) ∧ Below w.heap.size w w' := by
  have HT := Lib.hid hT
  clear hT
  go_enter Tryd.func4, Tryd.ntmps4
  go_wp2_with fail
  refine (law10_example _).mono ?_
  rintro e w2 ⟨sv, av, rfl, hs, ha, hb⟩
  have HB2 := Lib.hid hb
  have WR := Lib.hid (batch_Write sv av ex10C ex10P w2 hs ha ex10C_ok ex10P_ok (HT.out.later hb))
  rw [ex10_chk, if_pos rfl, ex10_wr] at WR
  clear hs ha hb
  go_wp2_with fail
  refine WR.out.mono ?_
  rintro e w3 ⟨bv, rfl, hO, hb⟩
  have HB3 := Lib.hid (HB2.out.trans (hb.mono HB2.out.size))
  have hstr := (hO.rd (by decide)).str
  rw [show ((0 : Nat) : Int) = 0 from rfl]
  clear hb hO WR HB2
  go_wp2
  go_ret
  exact ⟨rfl, HB3.out⟩

end Go.Proofs.YtedfcnlhdicipaaDoor
