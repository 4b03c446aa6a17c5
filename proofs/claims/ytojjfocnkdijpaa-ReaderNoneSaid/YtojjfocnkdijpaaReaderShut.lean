/-
  Layer 3: what a nil reader, and one whose Run has answered, tell; Run without a function.
-/
import Derived.Test.YtojjfocnkdijpaaReaderRun
set_option linter.unusedVariables false
set_option linter.unusedSimpArgs false
namespace Go.Proofs.Ytojjfocnkdijpaa
open Go.RowKit

/-- No reader that reads: nil, or done. -/
def NoRdr (w : World) (p : Value) : Prop := p = .pointer none ∨ ∃ g, p = .pointer (some ⟨g, 0, none⟩) ∧ Shut w g

theorem Shut.later {w w' : World} {g B : Nat} (h : Shut w g) (hb : Below B w w') (hB : w.heap.size ≤ B) : Shut w' g := by
  obtain ⟨a, b, c, d, h⟩ := h
  exact ⟨a, b, c, d, (hb.block _ (by have := (Array.getElem?_eq_some_iff.1 h).1; omega)).trans h⟩
theorem NoRdr.later {w w' : World} {p : Value} {B : Nat} (h : NoRdr w p) (hb : Below B w w') (hB : w.heap.size ≤ B) : NoRdr w' p := by
  rcases h with h | ⟨g, h1, h2⟩
  · exact .inl h
  · exact .inr ⟨g, h1, h2.later hb hB⟩

theorem over_none (p : Value) (w : World) (hn : NoRdr w p) :
    Calls Try.prog 36 #[p] w fun e w' => e = .returned (.bool true) ∧ w = w' := by
  rcases hn with rfl | ⟨g, rfl, a, b, c, d, h⟩
  · go_enter Try.func36, Try.ntmps36
    go_wp2
    go_ret
    exact ⟨rfl, rfl⟩
  · have c2 : w.cell? ⟨g, 2, none⟩ = some (.bool false) := by rw [cell_of_row _ _ _ _ _ _ h]; rfl
    clear h
    go_enter Try.func36, Try.ntmps36
    go_wp2
    go_ret
    exact ⟨rfl, rfl⟩

theorem none_Byte (p : Value) (w : World) (hn : NoRdr w p) :
    Calls Try.prog 11 #[p] w fun e w' => e = .returned (.int .u8 0) ∧ Below w.heap.size w w' := by
  go_enter Try.func11, Try.ntmps11
  go_wp2_with fail
  refine (over_none _ _ hn).mono ?_
  rintro e w1 ⟨rfl, rfl⟩
  go_wp2
  go_ret
  exact ⟨rfl, Below.refl _ _⟩

theorem none_Uint (p : Value) (most : Nat) (w : World) (hn : NoRdr w p) :
    Calls Try.prog 13 #[p, .int .u64 (most : Int)] w fun e w' => e = .returned (.int .u64 0) ∧ Below w.heap.size w w' := by
  go_enter Try.func13, Try.ntmps13
  go_wp2_with fail
  refine (over_none _ _ hn).mono ?_
  rintro e w1 ⟨rfl, rfl⟩
  go_wp2
  go_ret
  exact ⟨rfl, Below.refl _ _⟩

theorem none_Int (p : Value) (w : World) (hn : NoRdr w p) :
    Calls Try.prog 15 #[p] w fun e w' => e = .returned (.int .i64 0) ∧ Below w.heap.size w w' := by
  go_enter Try.func15, Try.ntmps15
  go_wp2_with fail
  refine (none_Uint _ 18446744073709551615 _ hn).mono ?_
  rintro e w1 ⟨rfl, hb⟩
  go_wp2_with fail
  refine (wire_Zag 0 (by omega) (by omega) _).mono ?_
  rintro e w2 ⟨rfl, rfl⟩
  go_wp2
  go_ret
  exact ⟨rfl, hb⟩

theorem none_Bytes (p : Value) (most : Int) (w : World) (hn : NoRdr w p) :
    Calls Try.prog 17 #[p, .int .i64 most] w (RetB w []) := by
  go_enter Try.func17, Try.ntmps17
  go_wp2_with fail
  refine (over_none _ _ hn).mono ?_
  rintro e w1 ⟨rfl, rfl⟩
  go_wp2
  go_ret
  exact ⟨_, rfl, own_nil _ _, Below.refl _ _⟩

theorem none_Must (p : Value) (ok : Bool) (x : Nat) (w : World) (hn : NoRdr w p) :
    Calls Try.prog 19 #[p, .bool ok, .int .i64 (x : Int)] w fun e w' => e = .returned (.tuple #[]) ∧ Below w.heap.size w w' := by
  by_cases hx : ((x : Int) != 0) = true
  · cases ok with
    | true =>
      go_enter Try.func19, Try.ntmps19
      go_wp2
      go_end0
      exact ⟨rfl, Below.refl _ _⟩
    | false =>
      go_enter Try.func19, Try.ntmps19
      go_wp2_with fail
      refine (over_none _ _ hn).mono ?_
      rintro e w1 ⟨rfl, rfl⟩
      go_wp2
      go_end0
      exact ⟨rfl, Below.refl _ _⟩
  · replace hx : ((x : Int) != 0) = false := by simpa using hx
    cases ok with
    | true =>
      go_enter Try.func19, Try.ntmps19
      go_wp2
      go_end0
      exact ⟨rfl, Below.refl _ _⟩
    | false =>
      go_enter Try.func19, Try.ntmps19
      go_wp2
      go_end0
      exact ⟨rfl, Below.refl _ _⟩

theorem none_At (p : Value) (w : World) (hn : NoRdr w p) :
    Calls Try.prog 21 #[p] w fun e w' => e = .returned (.int .i64 0) ∧ Below w.heap.size w w' := by
  go_enter Try.func21, Try.ntmps21
  go_wp2_with fail
  refine (over_none _ _ hn).mono ?_
  rintro e w1 ⟨rfl, rfl⟩
  go_wp2
  go_ret
  exact ⟨rfl, Below.refl _ _⟩

theorem none_Left (p : Value) (w : World) (hn : NoRdr w p) :
    Calls Try.prog 22 #[p] w fun e w' => e = .returned (.int .i64 0) ∧ Below w.heap.size w w' := by
  go_enter Try.func22, Try.ntmps22
  go_wp2_with fail
  refine (over_none _ _ hn).mono ?_
  rintro e w1 ⟨rfl, rfl⟩
  go_wp2
  go_ret
  exact ⟨rfl, Below.refl _ _⟩

theorem reader_Run_nil (v : Value) (w : World) :
    Calls Try.prog 9 #[v, .nilFunc] w fun e w' => e = .returned (.tuple #[.int .i64 0, .int .i64 1]) ∧ Below w.heap.size w w' := by
  have hnf : ∀ u, (binOp .eql 42 .nilFunc .nilFunc).run Try.prog u = .ok (.bool true) u := fun u => rfl
  go_enter_defers Try.func9, Try.ntmps9
  go_wp2
  simp [bodyPostD, Leaves, settle, results, Try.results9, go_sem]
  exact ((Below.refl _ w).alloc (Nat.le_refl _) _).alloc (by simp) _

end Go.Proofs.Ytojjfocnkdijpaa
