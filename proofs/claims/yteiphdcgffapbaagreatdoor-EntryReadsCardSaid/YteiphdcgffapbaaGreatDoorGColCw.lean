/-
  Package column: which kinds there are, and how each one's cells are written and taken.
-/
import Derived.Test.YteiphdcgffapbaaGreatDoorGColTk
import Derived.Test.YteiphdcgffapbaaGreatDoorGCell
import Derived.Laws.EntriesVeiled
import Derived.Test.YteiphdcgffapbaaGreatDoorGColWr
set_option linter.unusedVariables false
set_option linter.unusedSimpArgs false
set_option maxRecDepth 1000000
namespace Go.Proofs.YteiphdcgffapbaaGreatDoor
open Go.RowKit

theorem column_checkKind (kind : Int) (w : World) (hT : Tabs w) :
    Calls Tryz.prog 92 #[.int .i64 kind] w fun e w' => e = .returned (.int .i64 ((if kind < 0 ∨ 5 < kind then 10 else 0 : Nat) : Int)) ∧ Below w.heap.size w w' := by
  have hc := cell_Check kind 0 ⟨#[]⟩ [] w ⟨rfl, by simp⟩ hT
  have e : checkC kind 0 [] = if kind < 0 ∨ 5 < kind then 10 else 0 := by
    by_cases h : kind < 0 ∨ 5 < kind
    · unfold checkC; rw [if_pos h, if_pos h]
    · rw [if_neg h]
      by_cases ht : kind = 3 ∨ kind = 4
      · exact checkC_text ht (by simp) (fun _ => utf8_nil)
      · exact checkC_num (by omega) ht (fun _ => by decide)
  rw [e] at hc
  unfold cellV at hc
  generalize (if kind < 0 ∨ 5 < kind then 10 else 0 : Nat) = y at *
  have HC := Lib.hid hc
  clear hc e hT
  go_enter Tryz.func92, Tryz.ntmps92
  go_wp2_with fail
  refine HC.out.mono ?_
  rintro e w1 ⟨rfl, hb⟩
  have HB := Lib.hid hb
  clear hb HC
  go_wp2
  go_ret
  exact ⟨rfl, HB.out⟩

/-- How the cells of a kind are written and taken. -/
def codecW (kind : Int) : Nat := if kind = 0 then 128 else if kind = 2 then 132 else if kind = 3 ∨ kind = 4 then 134 else 130
def codecT (kind : Int) : Nat := if kind = 0 then 129 else if kind = 2 then 133 else if kind = 3 then 135 else if kind = 4 then 136 else 131

theorem column_codecOf0 (w : World) :
    Calls Tryz.prog 94 #[.int .i64 0] w fun e w' => e = .returned (.agg #[.func (.func (codecW 0)) #[] #[], .func (.func (codecT 0)) #[] #[]]) ∧ Below w.heap.size w w' := by
  go_enter Tryz.func94, Tryz.ntmps94
  go_wp2
  refine bodyPost_ret (by simp [results, Tryz.results94, go_sem]; try rfl) rfl ?_
  exact ⟨rfl, ((Below.refl _ _).alloc (Nat.le_refl _) _).alloc (by simp) _⟩
theorem column_codecOf1 (w : World) :
    Calls Tryz.prog 94 #[.int .i64 1] w fun e w' => e = .returned (.agg #[.func (.func (codecW 1)) #[] #[], .func (.func (codecT 1)) #[] #[]]) ∧ Below w.heap.size w w' := by
  go_enter Tryz.func94, Tryz.ntmps94
  go_wp2
  refine bodyPost_ret (by simp [results, Tryz.results94, go_sem]; try rfl) rfl ?_
  exact ⟨rfl, ((Below.refl _ _).alloc (Nat.le_refl _) _).alloc (by simp) _⟩
theorem column_codecOf2 (w : World) :
    Calls Tryz.prog 94 #[.int .i64 2] w fun e w' => e = .returned (.agg #[.func (.func (codecW 2)) #[] #[], .func (.func (codecT 2)) #[] #[]]) ∧ Below w.heap.size w w' := by
  go_enter Tryz.func94, Tryz.ntmps94
  go_wp2
  refine bodyPost_ret (by simp [results, Tryz.results94, go_sem]; try rfl) rfl ?_
  exact ⟨rfl, ((Below.refl _ _).alloc (Nat.le_refl _) _).alloc (by simp) _⟩
theorem column_codecOf3 (w : World) :
    Calls Tryz.prog 94 #[.int .i64 3] w fun e w' => e = .returned (.agg #[.func (.func (codecW 3)) #[] #[], .func (.func (codecT 3)) #[] #[]]) ∧ Below w.heap.size w w' := by
  go_enter Tryz.func94, Tryz.ntmps94
  go_wp2
  refine bodyPost_ret (by simp [results, Tryz.results94, go_sem]; try rfl) rfl ?_
  exact ⟨rfl, ((Below.refl _ _).alloc (Nat.le_refl _) _).alloc (by simp) _⟩
theorem column_codecOf4 (w : World) :
    Calls Tryz.prog 94 #[.int .i64 4] w fun e w' => e = .returned (.agg #[.func (.func (codecW 4)) #[] #[], .func (.func (codecT 4)) #[] #[]]) ∧ Below w.heap.size w w' := by
  go_enter Tryz.func94, Tryz.ntmps94
  go_wp2
  refine bodyPost_ret (by simp [results, Tryz.results94, go_sem]; try rfl) rfl ?_
  exact ⟨rfl, ((Below.refl _ _).alloc (Nat.le_refl _) _).alloc (by simp) _⟩
theorem column_codecOf5 (w : World) :
    Calls Tryz.prog 94 #[.int .i64 5] w fun e w' => e = .returned (.agg #[.func (.func (codecW 5)) #[] #[], .func (.func (codecT 5)) #[] #[]]) ∧ Below w.heap.size w w' := by
  go_enter Tryz.func94, Tryz.ntmps94
  go_wp2
  refine bodyPost_ret (by simp [results, Tryz.results94, go_sem]; try rfl) rfl ?_
  exact ⟨rfl, ((Below.refl _ _).alloc (Nat.le_refl _) _).alloc (by simp) _⟩
theorem column_codecOf (kind : Int) (hk : 0 ≤ kind ∧ kind ≤ 5) (w : World) :
    Calls Tryz.prog 94 #[.int .i64 kind] w fun e w' => e = .returned (.agg #[.func (.func (codecW kind)) #[] #[], .func (.func (codecT kind)) #[] #[]]) ∧ Below w.heap.size w w' := by
  obtain rfl | rfl | rfl | rfl | rfl | rfl : kind = 0 ∨ kind = 1 ∨ kind = 2 ∨ kind = 3 ∨ kind = 4 ∨ kind = 5 := by omega
  · exact column_codecOf0 w
  · exact column_codecOf1 w
  · exact column_codecOf2 w
  · exact column_codecOf3 w
  · exact column_codecOf4 w
  · exact column_codecOf5 w

theorem enters_codecT (kind : Int) (args : Array Value) (u : World) : (callFunc (codecT kind) args).run Tryz.prog u = .ok (.enter (codecT kind) args) u := by
  unfold codecT
  split
  · exact enters9 Tryz.func129 (by kernel_rfl) rfl args u
  · split
    · exact enters9 Tryz.func133 (by kernel_rfl) rfl args u
    · split
      · exact enters9 Tryz.func135 (by kernel_rfl) rfl args u
      · split
        · exact enters9 Tryz.func136 (by kernel_rfl) rfl args u
        · exact enters9 Tryz.func131 (by kernel_rfl) rfl args u

end Go.Proofs.YteiphdcgffapbaaGreatDoor


/-
  Package column: Write.
-/
namespace Go.Proofs.YteiphdcgffapbaaGreatDoor
open Go.RowKit

end Go.Proofs.YteiphdcgffapbaaGreatDoor

