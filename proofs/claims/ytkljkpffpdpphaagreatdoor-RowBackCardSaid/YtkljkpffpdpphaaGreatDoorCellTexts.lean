/-
  CellTexts: the function.
-/
import Derived.Test.YtkljkpffpdpphaaGreatDoorGRefRead
import Derived.Test.YtkljkpffpdpphaaGreatDoorCellLaws
import Derived.Test.YtkljkpffpdpphaaGreatDoorCellTxt
set_option linter.unusedVariables false
set_option linter.unusedSimpArgs false
set_option maxRecDepth 1000000
namespace Go.Proofs.YtkljkpffpdpphaaGreatDoor
open Go.RowKit Go.Shelf

/-- What Read answers, as a value. -/
def rdVal (o : Option (Nat × List UInt8) × Nat) : Value := match o with
  | (some (x, b), _) => .tuple #[.agg #[.int .u64 (x : Int), .string ⟨b.toArray⟩], .int .i64 0]
  | (none, k) => .tuple #[.agg #[.int .u64 0, .string ⟨#[]⟩], .int .i64 (k : Int)]
theorem rdVal_of {o : Option (Nat × List UInt8) × Nat} {e : Ending} (h : RdV o e) : e = .returned (rdVal o) := by
  obtain ⟨o, k⟩ := o
  cases o with
  | none => exact h
  | some p =>
    obtain ⟨x, b⟩ := p
    obtain ⟨t, ht, rfl⟩ := h
    rw [ht.eq]; rfl
theorem rdVal_shape (o : Option (Nat × List UInt8) × Nat) : ∃ (x k : Nat) (t : ByteArray), rdVal o = .tuple #[.agg #[.int .u64 (x : Int), .string t], .int .i64 (k : Int)] := by
  obtain ⟨o, k⟩ := o
  cases o with
  | none => exact ⟨0, k, _, rfl⟩
  | some p => exact ⟨p.1, 0, _, rfl⟩

theorem text_any (kind : Int) (num : Nat) (hnum : num < 18446744073709551616) (s : ByteArray) (l : List UInt8) (w : World) (h : RdS s l) (hT : Lib3 w) (he : checkC kind num l = 0) (hl : l.length ≤ 70368744175616) :
    Calls Tryz.prog 31 #[.int .i64 kind, cellV num s] w fun e w' => (∃ t, e = .returned (.tuple #[.string t, .int .i64 0]) ∧ RdS t (textC kind num l)) ∧ Below w.heap.size w w' := by
  obtain ⟨hk, _, _, h3, _, _⟩ := check_zero he
  rw [← textK_textC kind hk num hnum h3 l]
  unfold textK
  by_cases h34 : kind = 3 ∨ kind = 4
  · rw [if_pos h34]
    exact cell_TextB kind h34 num s l w h hT.tabs he hl
  · rw [if_neg h34]
    exact cell_TextN kind (by omega) num hnum s l w h hT he

end Go.Proofs.YtkljkpffpdpphaaGreatDoor
