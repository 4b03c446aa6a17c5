/-
  CellBack: Text and Read undo each other; whole numbers' cells stand as they do: the function.
-/
import Derived.Test.YtfleebllabolgaaDoorCellLaws
import Derived.Test.YtfleebllabolgaaDoorCellEdges
import Derived.Test.YtfleebllabolgaaDoorReadMath
import Derived.RegionTactic
import Derived.Laws.NewBlocks
import Derived.BigRegion
import Derived.Deep.DeepCutAuto
import Derived.Deep.RegionHeld3
set_option linter.unusedVariables false
set_option linter.unusedSimpArgs false
set_option maxRecDepth 1000000
namespace Go.Proofs.YtfleebllabolgaaDoor
open Go.RowKit Go.Shelf

theorem cell_TextK (kind : Int) (num : Nat) (hnum : num < 18446744073709551616) (s : ByteArray) (l : List UInt8) (w : World) (h : RdS s l) (hT : Lib3 w) (he : checkC kind num l = 0) :
    Calls Tryd.prog 20 #[.int .i64 kind, cellV num s] w fun e w' => (∃ t, e = .returned (.tuple #[.string t, .int .i64 0]) ∧ RdS t (textK kind num l)) ∧ Below w.heap.size w w' := by
  obtain ⟨hk, _, _, _, _, h5⟩ := check_zero he
  unfold textK
  by_cases h34 : kind = 3 ∨ kind = 4
  · rw [if_pos h34]
    exact cell_TextB kind h34 num s l w h hT.tabs he (by omega)
  · rw [if_neg h34]
    exact cell_TextN kind (by omega) num hnum s l w h hT he

theorem cell_IntX (x : Int) (n : Nat) (hn : x % 18446744073709551616 = (n : Int)) (w : World) :
    Calls Tryd.prog 22 #[.int .i64 x] w fun e w' => e = .returned (cellV n ⟨#[]⟩) ∧ w' = w.alloc (.cells #[.int .u64 (n : Int), .string ⟨#[]⟩] 24) := by
  have hw : IntKind.u64.wrap x = (n : Int) := by
    have : IntKind.u64.wrap x = x % 18446744073709551616 := by simp [IntKind.wrap, IntKind.signed, IntKind.bits]
    omega
  clear hn
  unfold cellV
  go_enter Tryd.func22, Tryd.ntmps22
  go_wp2
  refine bodyPost_ret (by simp [results, Tryd.results22, go_sem]; try rfl) rfl ?_
  exact ⟨rfl, rfl⟩
theorem four_new (w0 : World) (A B C D : Obj) :
    (((((w0.alloc A).alloc B).alloc C).alloc D).drew.heap[w0.heap.size]? = some A ∧ ((((w0.alloc A).alloc B).alloc C).alloc D).drew.heap[w0.heap.size + 1]? = some B ∧ ((((w0.alloc A).alloc B).alloc C).alloc D).drew.heap[w0.heap.size + 1 + 1]? = some C ∧ ((((w0.alloc A).alloc B).alloc C).alloc D).drew.heap[w0.heap.size + 1 + 1 + 1]? = some D) ∧ Below w0.heap.size w0 ((((w0.alloc A).alloc B).alloc C).alloc D).drew := by
  obtain ⟨h0, h1, h2, h3, h4⟩ := new3 w0 A B C
  obtain ⟨m0, m1, m2⟩ := new1 (((w0.alloc A).alloc B).alloc C) D
  rw [h0] at m1
  refine ⟨⟨(keepB h1 m2 : _), (keepB h2 m2 : _), (keepB h3 m2 : _), m1⟩, ?_⟩
  exact (h4.trans (m2.mono h4.size)).drew
theorem one_pre {u v : World} {o : Obj} (hb : Below (u.alloc o).heap.size (u.alloc o) v) : v.heap[u.heap.size]? = some o := by
  obtain ⟨N0, N1, N2⟩ := new1 u o
  exact keepB N1 hb
theorem two_pre {u v : World} {o p : Obj} (hb : Below ((u.alloc o).alloc p).heap.size ((u.alloc o).alloc p) v) : v.heap[u.heap.size]? = some o ∧ v.heap[u.heap.size + 1]? = some p := by
  obtain ⟨N0, N1, N2, N3⟩ := new2 u o p
  exact ⟨keepB N1 hb, keepB N2 hb⟩
theorem keep_one {u v : World} {o p : Obj} {b : Nat} (q : u.heap[b]? = some p) (hb : Below (u.alloc o).heap.size (u.alloc o) v) : v.heap[b]? = some p := by
  obtain ⟨N0, N1, N2⟩ := new1 u o
  exact keepB (keepB q N2) hb
theorem row_lt {u : World} {b : Nat} {p : Obj} (q : u.heap[b]? = some p) : b < u.heap.size := by
  rcases Nat.lt_or_ge b u.heap.size with h' | h'
  · exact h'
  · rw [Array.getElem?_eq_none h'] at q; cases q
theorem row_ne {u : World} {b : Nat} {p : Obj} (q : u.heap[b]? = some p) : b ≠ u.heap.size ∧ u.heap.size ≠ b := by
  have : b < u.heap.size := by
    rcases Nat.lt_or_ge b u.heap.size with h' | h'
    · exact h'
    · rw [Array.getElem?_eq_none h'] at q; cases q
  omega
theorem wrap_of8 {x : Int} {n : Nat} (h : x % 18446744073709551616 = (n : Int)) (h0 : -9223372036854775808 ≤ x) (h1 : x ≤ 9223372036854775807) : wrap64 (n : Int) = x := by
  unfold wrap64; omega

end Go.Proofs.YtfleebllabolgaaDoor
