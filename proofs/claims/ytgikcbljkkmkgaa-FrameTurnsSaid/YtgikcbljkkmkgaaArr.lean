/-
  An array of three whole numbers that came in.
-/
import Derived.Test.YtgikcbljkkmkgaaNums
set_option linter.unusedVariables false
set_option linter.unusedSimpArgs false
set_option maxRecDepth 1000000
namespace Go.Proofs.Ytgikcbljkkmkgaa
open Go.ChangeShapes Go.WideShapes Go.ChangeAt Go.RowKit

section
variable {H : Type} {enc : TypeId × Value → H} {W : World}

theorem cells_three {v : Value} {a b c : Value} (h : v.cells.toList = [a, b, c]) : v = .agg #[a, b, c] := by
  have h' : v.cells = #[a, b, c] := Array.toList_inj.1 (by simpa using h)
  cases v <;> simp [Value.cells] at h'
  subst h'; rfl

theorem arr3_open {k : IntKind} {t e : TypeId} (hu : Try.prog.underlying t = some (.array 3 e)) (he : Try.prog.underlying e = some (.int k)) (hc : Try.prog.cellsOf e = 1) (hct : Try.prog.cellsOf t = 3)
    {v : Value} {d : DataW H} {ps : List MemPlace} (h : DataW.Trod enc Try.prog W 0 (fun _ => true) true t v d ps) :
    ∃ a0 a1 a2 : Int, v = .agg #[.int k a0, .int k a1, .int k a2] := by
  obtain ⟨fuel, hf⟩ := h
  obtain ⟨xs, m, rfl, hx, hl, hn, hi⟩ := DataW.trod_array hu hf
  rw [hct] at hl
  obtain ⟨c0, c1, c2, hcs⟩ : ∃ c0 c1 c2, v.cells.toList = [c0, c1, c2] := by
    match hq : v.cells.toList, (hl : _) with
    | [c0, c1, c2], _ => exact ⟨c0, c1, c2, rfl⟩
  obtain ⟨x0, x1, x2, rfl⟩ : ∃ x0 x1 x2, xs = [x0, x1, x2] := by
    match xs, hn with
    | [x0, x1, x2], _ => exact ⟨x0, x1, x2, rfl⟩
  rw [hcs, hc] at hi
  have h0 := hi 0 (by omega)
  have h1 := hi 1 (by omega)
  have h2 := hi 2 (by omega)
  simp at h0 h1 h2
  obtain ⟨a0, e0, _⟩ := DataW.trod_int he h0
  obtain ⟨a1, e1, _⟩ := DataW.trod_int he h1
  obtain ⟨a2, e2, _⟩ := DataW.trod_int he h2
  refine ⟨a0, a1, a2, cells_three ?_⟩
  rw [hcs]; simp_all

theorem cells_two {v : Value} {a b : Value} (h : v.cells.toList = [a, b]) : v = .agg #[a, b] := by
  have h' : v.cells = #[a, b] := Array.toList_inj.1 (by simpa using h)
  cases v <;> simp [Value.cells] at h'
  subst h'; rfl

theorem arr2_open {k : IntKind} {t e : TypeId} (hu : Try.prog.underlying t = some (.array 2 e)) (he : Try.prog.underlying e = some (.int k)) (hc : Try.prog.cellsOf e = 1) (hct : Try.prog.cellsOf t = 2)
    {v : Value} {d : DataW H} {ps : List MemPlace} (h : DataW.Trod enc Try.prog W 0 (fun _ => true) true t v d ps) :
    ∃ a0 a1 : Int, v = .agg #[.int k a0, .int k a1] ∧ (Lit.int k a0).wf = true ∧ (Lit.int k a1).wf = true := by
  obtain ⟨fuel, hf⟩ := h
  obtain ⟨xs, m, rfl, hx, hl, hn, hi⟩ := DataW.trod_array hu hf
  rw [hct] at hl
  obtain ⟨c0, c1, hcs⟩ : ∃ c0 c1, v.cells.toList = [c0, c1] := by
    match hq : v.cells.toList, (hl : _) with
    | [c0, c1], _ => exact ⟨c0, c1, rfl⟩
  obtain ⟨x0, x1, rfl⟩ : ∃ x0 x1, xs = [x0, x1] := by
    match xs, hn with
    | [x0, x1], _ => exact ⟨x0, x1, rfl⟩
  rw [hcs, hc] at hi
  have h0 := hi 0 (by omega)
  have h1 := hi 1 (by omega)
  simp at h0 h1
  obtain ⟨a0, e0, _, w0⟩ := DataW.trod_int he h0
  obtain ⟨a1, e1, _, w1⟩ := DataW.trod_int he h1
  refine ⟨a0, a1, cells_two ?_, w0, w1⟩
  rw [hcs]; simp_all
end

end Go.Proofs.Ytgikcbljkkmkgaa
