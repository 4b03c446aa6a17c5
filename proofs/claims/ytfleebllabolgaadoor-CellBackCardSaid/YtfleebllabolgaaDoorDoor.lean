/-
  What the frames of layer 4's laws want: a cell, three cells, a string that came in; the library's tables, as the row lists them.
-/
import Derived.Test.YtfleebllabolgaaDoorCellAlive
import Derived.Test.YtfleebllabolgaaDoorLawKit
import Derived.Test.YtfleebllabolgaaDoorArr
import Derived.Lib.LaidU8T
import Derived.PinnedBridge
import Derived.Lay
import Derived.Handed
import Derived.OpenVars
import Derived.Lib.SmallJoins
set_option linter.unusedVariables false
set_option linter.unusedSimpArgs false
set_option maxRecDepth 1000000
namespace Go.Proofs.YtfleebllabolgaaDoor
open Go.ChangeShapes Go.WideShapes Go.ChangeAt Go.RowKit Go.Shelf

theorem u8Extra : U8Extra Tryd.prog Tryd.laysValid_ren := ⟨by kernel_rfl, by kernel_rfl, by kernel_rfl, by kernel_rfl, by kernel_rfl, by kernel_rfl, by kernel_rfl⟩
theorem accept_eq : (Rows.laid_unicode_utf8_acceptRanges : DataW Unit) = Lib.acceptData := by kernel_rfl

/-- The tables, out of what the row lists. -/
theorem tabs_of {W : World} (h1 : Lib.VarReads Tryd.prog W "unicode/utf8.first" Rows.laid_unicode_utf8_first) (h2 : Lib.VarReads Tryd.prog W "unicode/utf8.acceptRanges" Rows.laid_unicode_utf8_acceptRanges) : Tabs W :=
  utf8Tabs_of_readsT (U8Types.of196 Tryd.laysValid) u8Extra (Pinned.utf8First_eq ▸ h1) (accept_eq ▸ h2)

section
variable {H : Type} {enc : TypeId × Value → H} {W : World}

theorem str_open {base : Nat} {v : Value} {d : DataW H} {ps : List MemPlace} {ts : List TypeId} {ds : List (DataW H)} {j : Nat} (hval : Value.okWide Tryd.prog W .any base 9 v)
    (h : DataW.Trod enc Tryd.prog W 0 (fun _ => true) true 9 v d ps) (hz : (DataW.weightsEach Tryd.prog ts ds).all (· ≤ reachBytes) = true) (ht : ts[j]? = some 9) (hd : ds[j]? = some d) : ∃ (s : ByteArray) (l : List UInt8), v = .string s ∧ RdS s l := by
  obtain ⟨s, rfl, rfl, rfl, hs⟩ := Go.ChangeMaps.open_string Tryd.underlying9 hval h
  have := sized_string hz ht hd
  exact ⟨s, _, rfl, ⟨rfl, by simpa [reachBytes] using this⟩⟩

theorem cells_cell : Tryd.prog.cellsOf 24 = 2 := by kernel_rfl

theorem cell_open {base : Nat} {v : Value} {d : DataW H} {ps : List MemPlace} {ts : List TypeId} {ds : List (DataW H)} {j : Nat} (hval : Value.okWide Tryd.prog W .any base 24 v)
    (h : DataW.Trod enc Tryd.prog W 0 (fun _ => true) true 24 v d ps) (hz : (DataW.weightsEach Tryd.prog ts ds).all (· ≤ reachBytes) = true) (ht : ts[j]? = some 24) (hd : ds[j]? = some d) :
    ∃ (n : Nat) (s : ByteArray) (l : List UInt8), v = cellV n s ∧ n < 18446744073709551616 ∧ RdS s l := by
  obtain ⟨c0, c1, y0, y1, m, rfl, rfl, rfl, h0, h1⟩ := Joins.open_agg2 Tryd.underlying24 (by kernel_rfl) cells_cell hval h
  obtain ⟨a, e0, e1, wa⟩ := DataW.trod_int Tryd.underlying22 h0
  obtain ⟨s, e2, e3, _⟩ := DataW.trod_string Tryd.underlying9 h1
  simp at e0 e2
  subst e0 e2 e1 e3
  have hb := bd_u64 wa
  obtain ⟨n, rfl⟩ : ∃ n : Nat, a = n := ⟨a.toNat, by omega⟩
  have hs : s.data.toList.length ≤ reachBytes := by
    have := List.all_eq_true.1 hz _ (DataW.weights_mem_each ht hd s.data.toList.length (by simp [DataW.weights, Tryd.underlying24, DataW.weightsEach]))
    simpa using this
  exact ⟨n, s, _, rfl, by omega, ⟨rfl, by simpa [reachBytes] using hs⟩⟩

theorem cells_six {v : Value} {a b c d e f : Value} (h : v.cells.toList = [a, b, c, d, e, f]) : v = .agg #[a, b, c, d, e, f] := by
  have h' : v.cells = #[a, b, c, d, e, f] := Array.toList_inj.1 (by simpa using h)
  cases v <;> simp [Value.cells] at h'
  subst h'; rfl

theorem cell_part {m : Nat} {cs : List Value} {x : DataW H × List MemPlace} (h : DataW.trod enc Tryd.prog W 0 (fun _ => true) true m 24 cs = some x) :
    ∃ (n : Nat) (s : ByteArray), cs = [.int .u64 (n : Int), .string s] ∧ x.1 = .agg [.lit (.int .u64 (n : Int)), .lit (.string s.data.toList)] ∧ n < 18446744073709551616 := by
  obtain ⟨y0, y1, k, hx, hl, h0, h1⟩ := trod_struct2 Tryd.underlying24 h
  rw [cells_cell] at hl
  match cs, hl with
  | [c0, c1], _ =>
    have k9 : Tryd.prog.cellsOf 22 = 1 := by kernel_rfl
    have k8 : Tryd.prog.cellsOf 9 = 1 := by kernel_rfl
    simp [k9, k8] at h0 h1
    obtain ⟨a, e0, e1, wa⟩ := DataW.trod_int Tryd.underlying22 h0
    obtain ⟨s, e2, e3, _⟩ := DataW.trod_string Tryd.underlying9 h1
    simp at e0 e2
    subst e0 e2
    have hb := bd_u64 wa
    obtain ⟨n, rfl⟩ : ∃ n : Nat, a = n := ⟨a.toNat, by omega⟩
    exact ⟨n, s, rfl, by rw [hx]; simp [e1, e3], by omega⟩

theorem cells3_open {v : Value} {d : DataW H} {ps : List MemPlace} {ts : List TypeId} {ds : List (DataW H)} {j : Nat}
    (h : DataW.Trod enc Tryd.prog W 0 (fun _ => true) true 33 v d ps) (hz : (DataW.weightsEach Tryd.prog ts ds).all (· ≤ reachBytes) = true) (ht : ts[j]? = some 33) (hd : ds[j]? = some d) :
    ∃ (n0 n1 n2 : Nat) (s0 s1 s2 : ByteArray) (l0 l1 l2 : List UInt8), v = .agg #[.int .u64 (n0 : Int), .string s0, .int .u64 (n1 : Int), .string s1, .int .u64 (n2 : Int), .string s2] ∧
      (n0 < 18446744073709551616 ∧ n1 < 18446744073709551616 ∧ n2 < 18446744073709551616) ∧ RdS s0 l0 ∧ RdS s1 l1 ∧ RdS s2 l2 := by
  obtain ⟨fuel, hf⟩ := h
  obtain ⟨xs, m, rfl, hx, hl, hn, hi⟩ := DataW.trod_array Tryd.underlying33 hf
  have c6 : Tryd.prog.cellsOf 33 = 6 := by kernel_rfl
  rw [c6] at hl
  obtain ⟨c0, c1, c2, c3, c4, c5, hcs⟩ : ∃ c0 c1 c2 c3 c4 c5, v.cells.toList = [c0, c1, c2, c3, c4, c5] := by
    match hq : v.cells.toList, (hl : _) with
    | [c0, c1, c2, c3, c4, c5], _ => exact ⟨c0, c1, c2, c3, c4, c5, rfl⟩
  obtain ⟨x0, x1, x2, rfl⟩ : ∃ x0 x1 x2, xs = [x0, x1, x2] := by
    match xs, hn with
    | [x0, x1, x2], _ => exact ⟨x0, x1, x2, rfl⟩
  rw [hcs, cells_cell] at hi
  have h0 := hi 0 (by omega)
  have h1 := hi 1 (by omega)
  have h2 := hi 2 (by omega)
  simp at h0 h1 h2
  obtain ⟨n0, s0, e0, d0, b0⟩ := cell_part h0
  obtain ⟨n1, s1, e1, d1, b1⟩ := cell_part h1
  obtain ⟨n2, s2, e2, d2, b2⟩ := cell_part h2
  simp only [List.cons.injEq, and_true] at e0 e1 e2
  simp only [List.map_cons, List.map_nil, d0, d1, d2, Prod.mk.injEq] at hx
  obtain ⟨rfl, _⟩ := hx
  have hw : ∀ s : ByteArray, (s = s0 ∨ s = s1 ∨ s = s2) → s.data.toList.length ≤ 140737488351232 := fun s hs => by
    have := List.all_eq_true.1 hz _ (DataW.weights_mem_each ht hd s.data.toList.length (by
      simp only [DataW.weights, Tryd.underlying33, DataW.weightsAll, Tryd.underlying24, DataW.weightsEach, List.map_cons, List.map_nil]
      rcases hs with rfl | rfl | rfl <;> simp))
    have h2 := of_decide_eq_true this
    simpa [reachBytes] using h2
  refine ⟨n0, n1, n2, s0, s1, s2, _, _, _, cells_six ?_, ⟨b0, b1, b2⟩, ⟨rfl, hw _ (.inl rfl)⟩, ⟨rfl, hw _ (.inr (.inl rfl))⟩, ⟨rfl, hw _ (.inr (.inr rfl))⟩⟩
  rw [hcs]; simp_all

end

end Go.Proofs.YtfleebllabolgaaDoor
