/-
  ReaderNone: of no reader, and of one whose Run has answered, nothing is told; without a function nothing is read. For every input.
-/
import Derived.Test.YtojjfocnkdijpaaReaderAlive
import Derived.Test.YtojjfocnkdijpaaReaderShut
import Derived.Test.YtojjfocnkdijpaaNums
set_option linter.unusedVariables false
set_option linter.unusedSimpArgs false
namespace Go.Proofs.Ytojjfocnkdijpaa
open Go.RowKit

theorem none1 (xb g : Nat) (y : Value) (v : Value) (l : List UInt8) (w : World) (hy : y.oneCell' = true) (hx : w.heap[xb]? = some (.cells #[y] 31 (0, 0))) (hd : xb ≠ g) (hv : ∀ i, i < l.length → (adr v i).block ≠ xb) (hR : Rdr w g v l 0) :
    Calls Try.prog 24 (#[.pointer (some ⟨g, 0, none⟩)] ++ #[.pointer (some ⟨xb, 0, none⟩)]) w fun e w' =>
      Only (fun j => j = xb) w w' ∧ w'.heap[xb]? = some (.cells #[.pointer (some ⟨g, 0, none⟩)] 31 (0, 0)) ∧ Went g v l 0 0 e w' := by
  have x0 := cell_of_one hx
  have x1 := free_of_one hx
  have HX := Lib.hid hx
  clear hx
  go_enter Try.func24, Try.ntmps24
  go_wp2
  go_end0
  exact ⟨Only.setCell (S := fun j => j = xb) (Only.refl _ _) (p := ⟨xb, 0, none⟩) rfl _, one_setCell HX.out, .inl ⟨rfl, rfl, hR.setVar hd hv _⟩⟩

theorem enters_none1 (args : Array Value) (u : World) : (callFunc 24 args).run Try.prog u = .ok (.enter 24 args) u := enters_fn Try.func24 (by kernel_rfl) rfl args u

set_option maxHeartbeats 2000000 in
set_option maxRecDepth 20000 in
theorem readerNone_walk (v : Value) (l : List UInt8) (a1 : Int) (w : World) (h : Rd w v l) (hn : 0 ≤ a1 ∧ a1 ≤ 18446744073709551615) :
    Calls Try.prog 4 #[v, .int .u64 a1] w fun e w' => e = .returned (.bool true) ∧ Below w.heap.size w w' := by
  have hmf : ∀ (fn : Fn) (first cap : Array Value) (w : World), (Instr.makeFunc fn first cap).run Try.prog w = .ok (.func fn first cap) w := fun _ _ _ _ => rfl
  obtain ⟨n, rfl⟩ := Int.eq_ofNat_of_zero_le hn.1
  have hbl : ∀ i, i < l.length → (adr v i).block < w.heap.size := fun i hi => h.block hi
  have h0 := h.alloc (.cells #[.pointer none] 31)
  have hx0 : (w.alloc (.cells #[.pointer none] 31)).heap[w.heap.size]? = some (.cells #[.pointer none] 31 (0, 0)) := heap_alloc_new _ _
  have hb0 : Below w.heap.size w (w.alloc (.cells #[.pointer none] 31)) := (Below.refl _ w).alloc (Nat.le_refl _) _
  have hs0 : (w.alloc (.cells #[.pointer none] 31)).heap.size = w.heap.size + 1 := by simp
  clear hn
  go_enter Try.func4, Try.ntmps4
  go_wp2_with fail
  generalize w.alloc (.cells #[.pointer none] 31) = w0 at h0 hx0 hb0 hs0 ⊢
  refine (none_Must _ false 10 _ (.inl rfl)).mono ?_
  rintro e w1 ⟨rfl, c1⟩
  replace hb0 := hb0.trans (c1.mono (by omega))
  replace hx0 := (c1.block _ (by omega)).trans hx0
  replace h0 := h0.later c1 (Nat.le_refl _)
  replace hs0 : w.heap.size + 1 ≤ w1.heap.size := by have := c1.size; omega
  clear c1
  go_wp2_with fail
  refine (reader_Run_nil v _).mono ?_
  rintro e w2 ⟨rfl, c2⟩
  replace hb0 := hb0.trans (c2.mono (by omega))
  replace hx0 := (c2.block _ (by omega)).trans hx0
  replace h0 := h0.later c2 (Nat.le_refl _)
  replace hs0 : w.heap.size + 1 ≤ w2.heap.size := by have := c2.size; omega
  clear c2
  go_wp2_with fail
  refine (none_Byte _ _ (.inl rfl)).mono ?_
  rintro e w3 ⟨rfl, c3⟩
  replace hb0 := hb0.trans (c3.mono (by omega))
  replace hx0 := (c3.block _ (by omega)).trans hx0
  replace h0 := h0.later c3 (Nat.le_refl _)
  replace hs0 : w.heap.size + 1 ≤ w3.heap.size := by have := c3.size; omega
  clear c3
  go_wp2_with fail
  refine (none_Uint _ n _ (.inl rfl)).mono ?_
  rintro e w4 ⟨rfl, c4⟩
  replace hb0 := hb0.trans (c4.mono (by omega))
  replace hx0 := (c4.block _ (by omega)).trans hx0
  replace h0 := h0.later c4 (Nat.le_refl _)
  replace hs0 : w.heap.size + 1 ≤ w4.heap.size := by have := c4.size; omega
  clear c4
  go_wp2_with fail
  refine (none_Int _ _ (.inl rfl)).mono ?_
  rintro e w5 ⟨rfl, c5⟩
  replace hb0 := hb0.trans (c5.mono (by omega))
  replace hx0 := (c5.block _ (by omega)).trans hx0
  replace h0 := h0.later c5 (Nat.le_refl _)
  replace hs0 : w.heap.size + 1 ≤ w5.heap.size := by have := c5.size; omega
  clear c5
  go_wp2_with fail
  refine (none_Bytes _ 5 _ (.inl rfl)).mono ?_
  rintro e w6 ⟨vb, rfl, hob, c6⟩
  have hlb := len_own hob (by simp)
  clear hob
  replace hb0 := hb0.trans (c6.mono (by omega))
  replace hx0 := (c6.block _ (by omega)).trans hx0
  replace h0 := h0.later c6 (Nat.le_refl _)
  replace hs0 : w.heap.size + 1 ≤ w6.heap.size := by have := c6.size; omega
  clear c6
  go_wp2_with fail
  refine (none_At _ _ (.inl rfl)).mono ?_
  rintro e w7 ⟨rfl, c7⟩
  replace hb0 := hb0.trans (c7.mono (by omega))
  replace hx0 := (c7.block _ (by omega)).trans hx0
  replace h0 := h0.later c7 (Nat.le_refl _)
  replace hs0 : w.heap.size + 1 ≤ w7.heap.size := by have := c7.size; omega
  clear c7
  go_wp2_with fail
  refine (none_Left _ _ (.inl rfl)).mono ?_
  rintro e w8 ⟨rfl, c8⟩
  replace hb0 := hb0.trans (c8.mono (by omega))
  replace hx0 := (c8.block _ (by omega)).trans hx0
  replace h0 := h0.later c8 (Nat.le_refl _)
  replace hs0 : w.heap.size + 1 ≤ w8.heap.size := by have := c8.size; omega
  clear c8
  go_wp2_with fail
  refine (reader_Run 24 enters_none1 _ _ _ _ h0 (fun g k x a => Only (fun j => j = w.heap.size ∨ w8.heap.size ≤ j) w8 a ∧ a.heap[w.heap.size]? = some (.cells #[.pointer (some ⟨g, 0, none⟩)] 31 (0, 0))) ?hP ?hf).mono ?_
  case hP =>
    rintro g k x a b ⟨ha, hc⟩ hbb
    exact ⟨ha.trans ⟨hbb.os, hbb.tape, hbb.output, hbb.size, fun j h1 h2 => hbb.block j (by omega)⟩, (hbb.block _ (by omega)).trans hc⟩
  case hf =>
    intro g u hg hb3 hR
    refine (none1 w.heap.size g (.pointer none) v l u rfl ((hb3.block _ (by omega)).trans hx0) (by omega) (fun i hi => by have := hbl i hi; omega) hR).mono ?_
    rintro e w4 ⟨hO, hA4, hW⟩
    exact ⟨0, 0, hO.kept (fun j hj => by omega), ⟨((Only.refl _ _).below hb3 (Nat.le_refl _)).trans (hO.mono (fun j hj => by omega)), hA4⟩, hW⟩
  rintro e u0 ⟨g, k, x, hk, hg, ⟨hO, hX⟩, hsh, rfl⟩
  replace hb0 := hb0.trans (hO.toBelow (B := w.heap.size) (fun j hj => by omega) (by omega))
  have hz := hO.size
  have hnr : NoRdr u0 (.pointer (some ⟨g, 0, none⟩)) := .inr ⟨g, rfl, hsh⟩
  clear hO hx0 h0 hsh
  have hX0 := cell_of_one hX
  go_wp2_with fail
  refine (none_Must _ false 10 _ hnr).mono ?_
  rintro e u1 ⟨rfl, c1⟩
  replace hb0 := hb0.trans (c1.mono (by omega))
  replace hX := (c1.block _ (by omega)).trans hX
  replace hX0 := cell_of_one hX
  replace hnr := hnr.later c1 (Nat.le_refl _)
  replace hz : w8.heap.size ≤ u1.heap.size := by have := c1.size; omega
  clear c1
  go_wp2_with fail
  refine (law03_alive _).mono ?_
  rintro e u2 ⟨rfl, c2⟩
  replace hb0 := hb0.trans (c2.mono (by omega))
  replace hX := (c2.block _ (by omega)).trans hX
  replace hX0 := cell_of_one hX
  replace hnr := hnr.later c2 (Nat.le_refl _)
  replace hz : w8.heap.size ≤ u2.heap.size := by have := c2.size; omega
  clear c2
  go_wp2_with fail
  refine (none_Byte _ _ hnr).mono ?_
  rintro e u3 ⟨rfl, c3⟩
  replace hb0 := hb0.trans (c3.mono (by omega))
  replace hX := (c3.block _ (by omega)).trans hX
  replace hX0 := cell_of_one hX
  replace hnr := hnr.later c3 (Nat.le_refl _)
  replace hz : w8.heap.size ≤ u3.heap.size := by have := c3.size; omega
  clear c3
  go_wp2_with fail
  refine (none_Uint _ n _ hnr).mono ?_
  rintro e u4 ⟨rfl, c4⟩
  replace hb0 := hb0.trans (c4.mono (by omega))
  replace hX := (c4.block _ (by omega)).trans hX
  replace hX0 := cell_of_one hX
  replace hnr := hnr.later c4 (Nat.le_refl _)
  replace hz : w8.heap.size ≤ u4.heap.size := by have := c4.size; omega
  clear c4
  go_wp2_with fail
  refine (none_Int _ _ hnr).mono ?_
  rintro e u5 ⟨rfl, c5⟩
  replace hb0 := hb0.trans (c5.mono (by omega))
  replace hX := (c5.block _ (by omega)).trans hX
  replace hX0 := cell_of_one hX
  replace hnr := hnr.later c5 (Nat.le_refl _)
  replace hz : w8.heap.size ≤ u5.heap.size := by have := c5.size; omega
  clear c5
  go_wp2_with fail
  refine (none_Bytes _ 5 _ hnr).mono ?_
  rintro e u6 ⟨vc, rfl, hob, c6⟩
  have hlc := len_own hob (by simp)
  clear hob
  replace hb0 := hb0.trans (c6.mono (by omega))
  replace hX := (c6.block _ (by omega)).trans hX
  replace hX0 := cell_of_one hX
  replace hnr := hnr.later c6 (Nat.le_refl _)
  replace hz : w8.heap.size ≤ u6.heap.size := by have := c6.size; omega
  clear c6
  go_wp2_with fail
  refine (none_At _ _ hnr).mono ?_
  rintro e u7 ⟨rfl, c7⟩
  replace hb0 := hb0.trans (c7.mono (by omega))
  replace hX := (c7.block _ (by omega)).trans hX
  replace hX0 := cell_of_one hX
  replace hnr := hnr.later c7 (Nat.le_refl _)
  replace hz : w8.heap.size ≤ u7.heap.size := by have := c7.size; omega
  clear c7
  go_wp2_with fail
  refine (none_Left _ _ hnr).mono ?_
  rintro e u8 ⟨rfl, c8⟩
  replace hb0 := hb0.trans (c8.mono (by omega))
  replace hX := (c8.block _ (by omega)).trans hX
  replace hX0 := cell_of_one hX
  replace hnr := hnr.later c8 (Nat.le_refl _)
  replace hz : w8.heap.size ≤ u8.heap.size := by have := c8.size; omega
  clear c8
  have HB := Lib.hid hb0
  clear hb0 hX hnr
  go_wp2
  go_ret
  exact ⟨rfl, HB.out⟩

end Go.Proofs.Ytojjfocnkdijpaa
