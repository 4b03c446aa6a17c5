/-
  What the frames of layer 4's laws want: a cell, three cells, a string that came in; the library's tables, as the row lists them.
-/
import Derived.Test.YtkljkpffpdpphaaGreatDoorCellAlive
import Derived.Test.YtkljkpffpdpphaaGreatDoorLawKit
import Derived.Test.YtkljkpffpdpphaaGreatDoorArr
import Derived.Lib.LaidU8T
import Derived.PinnedBridge
import Derived.Lay
import Derived.Handed
import Derived.OpenVars
import Derived.Lib.SmallJoins
set_option linter.unusedVariables false
set_option linter.unusedSimpArgs false
set_option maxRecDepth 1000000
namespace Go.Proofs.YtkljkpffpdpphaaGreatDoor
open Go.ChangeShapes Go.WideShapes Go.ChangeAt Go.RowKit Go.Shelf

theorem u8Extra : U8Extra Tryz.prog Tryz.laysValid_ren := ⟨by kernel_rfl, by kernel_rfl, by kernel_rfl, by kernel_rfl, by kernel_rfl, by kernel_rfl, by kernel_rfl⟩
theorem accept_eq : (Rows.laid_unicode_utf8_acceptRanges : DataW Unit) = Lib.acceptData := by kernel_rfl

/-- The tables, out of what the row lists. -/
theorem tabs_of {W : World} (h1 : Lib.VarReads Tryz.prog W "unicode/utf8.first" Rows.laid_unicode_utf8_first) (h2 : Lib.VarReads Tryz.prog W "unicode/utf8.acceptRanges" Rows.laid_unicode_utf8_acceptRanges) : Tabs W :=
  utf8Tabs_of_readsT (U8Types.of196 Tryz.laysValid) u8Extra (Pinned.utf8First_eq ▸ h1) (accept_eq ▸ h2)

section
variable {H : Type} {enc : TypeId × Value → H} {W : World}

theorem str_open {base : Nat} {v : Value} {d : DataW H} {ps : List MemPlace} {ts : List TypeId} {ds : List (DataW H)} {j : Nat} (hval : Value.okWide Tryz.prog W .any base 9 v)
    (h : DataW.Trod enc Tryz.prog W 0 (fun _ => true) true 9 v d ps) (hz : (DataW.weightsEach Tryz.prog ts ds).all (· ≤ reachBytes) = true) (ht : ts[j]? = some 9) (hd : ds[j]? = some d) : ∃ (s : ByteArray) (l : List UInt8), v = .string s ∧ RdS s l := by
  obtain ⟨s, rfl, rfl, rfl, hs⟩ := Go.ChangeMaps.open_string Tryz.underlying9 hval h
  have := sized_string hz ht hd
  exact ⟨s, _, rfl, ⟨rfl, by simpa [reachBytes] using this⟩⟩

theorem cells_cell : Tryz.prog.cellsOf 45 = 2 := by kernel_rfl

theorem cell_open {base : Nat} {v : Value} {d : DataW H} {ps : List MemPlace} {ts : List TypeId} {ds : List (DataW H)} {j : Nat} (hval : Value.okWide Tryz.prog W .any base 45 v)
    (h : DataW.Trod enc Tryz.prog W 0 (fun _ => true) true 45 v d ps) (hz : (DataW.weightsEach Tryz.prog ts ds).all (· ≤ reachBytes) = true) (ht : ts[j]? = some 45) (hd : ds[j]? = some d) :
    ∃ (n : Nat) (s : ByteArray) (l : List UInt8), v = cellV n s ∧ n < 18446744073709551616 ∧ RdS s l := by
  obtain ⟨c0, c1, y0, y1, m, rfl, rfl, rfl, h0, h1⟩ := Joins.open_agg2 Tryz.underlying45 (by kernel_rfl) cells_cell hval h
  obtain ⟨a, e0, e1, wa⟩ := DataW.trod_int Tryz.underlying43 h0
  obtain ⟨s, e2, e3, _⟩ := DataW.trod_string Tryz.underlying9 h1
  simp at e0 e2
  subst e0 e2 e1 e3
  have hb := bd_u64 wa
  obtain ⟨n, rfl⟩ : ∃ n : Nat, a = n := ⟨a.toNat, by omega⟩
  have hs : s.data.toList.length ≤ reachBytes := by
    have := List.all_eq_true.1 hz _ (DataW.weights_mem_each ht hd s.data.toList.length (by simp [DataW.weights, Tryz.underlying45, DataW.weightsEach]))
    simpa using this
  exact ⟨n, s, _, rfl, by omega, ⟨rfl, by simpa [reachBytes] using hs⟩⟩

theorem cells_six {v : Value} {a b c d e f : Value} (h : v.cells.toList = [a, b, c, d, e, f]) : v = .agg #[a, b, c, d, e, f] := by
  have h' : v.cells = #[a, b, c, d, e, f] := Array.toList_inj.1 (by simpa using h)
  cases v <;> simp [Value.cells] at h'
  subst h'; rfl

theorem cell_part {m : Nat} {cs : List Value} {x : DataW H × List MemPlace} (h : DataW.trod enc Tryz.prog W 0 (fun _ => true) true m 45 cs = some x) :
    ∃ (n : Nat) (s : ByteArray), cs = [.int .u64 (n : Int), .string s] ∧ x.1 = .agg [.lit (.int .u64 (n : Int)), .lit (.string s.data.toList)] ∧ n < 18446744073709551616 := by
  obtain ⟨y0, y1, k, hx, hl, h0, h1⟩ := trod_struct2 Tryz.underlying45 h
  rw [cells_cell] at hl
  match cs, hl with
  | [c0, c1], _ =>
    have k9 : Tryz.prog.cellsOf 43 = 1 := by kernel_rfl
    have k8 : Tryz.prog.cellsOf 9 = 1 := by kernel_rfl
    simp [k9, k8] at h0 h1
    obtain ⟨a, e0, e1, wa⟩ := DataW.trod_int Tryz.underlying43 h0
    obtain ⟨s, e2, e3, _⟩ := DataW.trod_string Tryz.underlying9 h1
    simp at e0 e2
    subst e0 e2
    have hb := bd_u64 wa
    obtain ⟨n, rfl⟩ : ∃ n : Nat, a = n := ⟨a.toNat, by omega⟩
    exact ⟨n, s, rfl, by rw [hx]; simp [e1, e3], by omega⟩

end

end Go.Proofs.YtkljkpffpdpphaaGreatDoor
