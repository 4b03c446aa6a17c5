/-
  The document's examples for layer 3: 'alive' answers true.
-/
import Derived.Test.YtojjfocnkdijpaaReaderRun
set_option linter.unusedVariables false
set_option linter.unusedSimpArgs false
namespace Go.Proofs.Ytojjfocnkdijpaa
open Go.RowKit

/-- What is known of an older block where only the reader's has turned. -/
theorem _root_.Go.World.grownBy.keep {w w' : World} {g j : Nat} {o : Obj} (h : w.grownBy w' (some g)) (hj : w.heap[j]? = some o) (hne : j ≠ g) : w'.heap[j]? = some o :=
  (h.block j (Array.getElem?_eq_some_iff.1 hj).1 (fun e => hne (by injection e))).trans hj

theorem ex_get : getU ([5, 172, 2].drop 1) = (300, 2, 0) := by
  have := getU_ok (l := [172, 2]) (k := 1) (fun j hj => by obtain rfl : j = 0 := by omega
                                                           decide) (by decide) (by decide) (by decide) (by decide) (by decide)
  exact this

theorem ex_300 : rdU [5, 172, 2] 1 300 = (300, 3, 0) := by unfold rdU; rw [ex_get]; rfl
theorem ex_299 : rdU [5, 172, 2] 1 299 = (0, 1, 3) := by unfold rdU; rw [ex_get]; rfl

theorem alive03_1 (lo xb g : Nat) (y : Int) (v : Value) (w : World) (hx : w.heap[xb]? = some (.cells #[.int .u64 y] 32 (0, 0))) (hlo : xb < lo) (hg : lo ≤ g) (hv : ∀ i, i < 3 → (adr v i).block ≠ xb) (hR : Rdr w g v [5, 172, 2] 0) :
    Calls Try.prog 31 (#[.pointer (some ⟨g, 0, none⟩)] ++ #[.pointer (some ⟨xb, 0, none⟩)]) w fun e w' =>
      Kept lo g w w' ∧ w'.heap[xb]? = some (.cells #[.int .u64 300] 32 (0, 0)) ∧ Went g v [5, 172, 2] 3 0 e w' ∧ Below xb w w' := by
  have hxl : xb < w.heap.size := (Array.getElem?_eq_some_iff.1 hx).1
  have HX := Lib.hid hx
  clear hx
  go_enter Try.func31, Try.ntmps31
  go_wp2_with fail
  refine (reader_Byte _ _ _ _ _ hR).mono ?_
  rintro e w1 h
  obtain ⟨rfl, hg1, hR1⟩ := h.ok rfl
  replace hR1 : Rdr w1 g v [5, 172, 2] 1 := hR1
  have hx1 := hg1.keep HX.out (by omega)
  clear h hR
  go_wp2_with fail
  refine (reader_Uint _ _ _ _ _ hR1 300 (by decide)).mono ?_
  rintro e w2 h
  rw [ex_300] at h
  obtain ⟨rfl, hg2, hR2⟩ := h.ok rfl
  have hx2 := hg2.keep hx1 (by omega)
  have c0 := cell_of_one hx2
  have f0 := free_of_one hx2
  have HX2 := Lib.hid hx2
  have HR2 := Lib.hid hR2
  clear h hR1 hR2 hx1 hx2
  go_wp2
  go_end0
  exact ⟨(((Kept.refl lo g w).grown hg1).grown hg2).setCell (by exact hlo) _, one_setCell HX2.out, .inl ⟨rfl, rfl, HR2.out.setVar (by show xb ≠ g; omega) (fun i hi => hv i hi) _⟩,
    (((Below.refl xb w).grown hg1 (by omega) (fun j hj => by injection hj; omega)).grown hg2 (by have := hg1.size; omega) (fun j hj => by injection hj; omega)).setCell (p := ⟨xb, 0, none⟩) (Nat.le_refl _) _⟩

theorem alive03_2 (lo g : Nat) (v : Value) (w : World) (hR : Rdr w g v [5, 172, 2] 0) :
    Calls Try.prog 32 (#[.pointer (some ⟨g, 0, none⟩)] ++ #[]) w fun e w' => Kept lo g w w' ∧ Went g v [5, 172, 2] 1 3 e w' ∧ w.grownBy w' (some g) := by
  go_enter Try.func32, Try.ntmps32
  go_wp2_with fail
  refine (reader_Byte _ _ _ _ _ hR).mono ?_
  rintro e w1 h
  obtain ⟨rfl, hg1, hR1⟩ := h.ok rfl
  replace hR1 : Rdr w1 g v [5, 172, 2] 1 := hR1
  clear h hR
  go_wp2_with fail
  refine (reader_Uint _ _ _ _ _ hR1 299 (by decide)).mono ?_
  rintro e w2 h
  rw [ex_299] at h
  obtain ⟨rfl, hg2, hR2⟩ := h.no (by decide)
  clear h
  go_wp2
  exact ⟨rfl, ((Kept.refl lo g w).grown hg1).grown hg2, .inr ⟨by decide, rfl, hR2⟩, hg1.trans hg2⟩

theorem alive03_3 (lo g : Nat) (v : Value) (w : World) (hR : Rdr w g v [5, 172, 2] 0) :
    Calls Try.prog 33 (#[.pointer (some ⟨g, 0, none⟩)] ++ #[]) w fun e w' => Kept lo g w w' ∧ Went g v [5, 172, 2] 1 0 e w' ∧ w.grownBy w' (some g) := by
  go_enter Try.func33, Try.ntmps33
  go_wp2_with fail
  refine (reader_Byte _ _ _ _ _ hR).mono ?_
  rintro e w1 h
  obtain ⟨rfl, hg1, hR1⟩ := h.ok rfl
  replace hR1 : Rdr w1 g v [5, 172, 2] 1 := hR1
  clear h hR
  go_wp2
  go_end0
  exact ⟨(Kept.refl lo g w).grown hg1, .inl ⟨rfl, rfl, hR1⟩, hg1⟩

theorem enters_alive1 (args : Array Value) (u : World) : (callFunc 31 args).run Try.prog u = .ok (.enter 31 args) u := enters_fn Try.func31 (by kernel_rfl) rfl args u
theorem enters_alive2 (args : Array Value) (u : World) : (callFunc 32 args).run Try.prog u = .ok (.enter 32 args) u := enters_fn Try.func32 (by kernel_rfl) rfl args u
theorem enters_alive3 (args : Array Value) (u : World) : (callFunc 33 args).run Try.prog u = .ok (.enter 33 args) u := enters_fn Try.func33 (by kernel_rfl) rfl args u

/-- Bytes stay readable in a world that has grown behind them. -/
theorem Rd.behind {a b : World} {v : Value} {l : List UInt8} {B : Nat} (h : Rd a v l) (hb : Below B a b) (hv : ∀ i, i < l.length → (adr v i).block < B) : Rd b v l := h.same fun i hi => hb.block _ (hv i hi)

set_option maxHeartbeats 1000000 in
set_option maxRecDepth 20000 in
theorem law03_alive (w : World) : Calls Try.prog 8 #[] w fun e w' => e = .returned (.bool true) ∧ Below w.heap.size w w' := by
  have hmf : ∀ (fn : Fn) (first cap : Array Value) (w : World), (Instr.makeFunc fn first cap).run Try.prog w = .ok (.func fn first cap) w := fun _ _ _ _ => rfl
  have h0 := rd_lit w [5, 172, 2] (by decide) (0, 0)
  have hbl : ∀ i, i < 3 → (adr (.slice (some ⟨w.heap.size, 0, none⟩) 3 3) i).block = w.heap.size := fun i _ => by simp only [adr, Addr.add]; split <;> rfl
  have h1 : Rd ((w.alloc (.cells (cellsB [5, 172, 2]).toArray 5)).alloc (.cells #[.int .u64 0] 32)) (.slice (some ⟨w.heap.size, 0, none⟩) 3 3) [5, 172, 2] := h0.alloc _
  have hb1 : Below w.heap.size w ((w.alloc (.cells (cellsB [5, 172, 2]).toArray 5)).alloc (.cells #[.int .u64 0] 32)) := ((Below.refl _ _).alloc (Nat.le_refl _) _).alloc (by simp) _
  have hx1 : ((w.alloc (.cells (cellsB [5, 172, 2]).toArray 5)).alloc (.cells #[.int .u64 0] 32)).heap[w.heap.size + 1]? = some (.cells #[.int .u64 0] 32 (0, 0)) := by
    have := heap_alloc_new (w.alloc (.cells (cellsB [5, 172, 2]).toArray 5)) (.cells #[.int .u64 0] 32 (0, 0))
    simpa using this
  have hsz : ((w.alloc (.cells (cellsB [5, 172, 2]).toArray 5)).alloc (.cells #[.int .u64 0] 32)).heap.size = w.heap.size + 2 := by simp
  go_enter Try.func8, Try.ntmps8
  go_wp2_with fail
  refine (reader_Run 31 enters_alive1 _ _ _ _ h1 (fun g k x a => k = 3 ∧ x = 0 ∧ a.heap[w.heap.size + 1]? = some (.cells #[.int .u64 300] 32 (0, 0)) ∧ Below w.heap.size w a ∧ Rd a (.slice (some ⟨w.heap.size, 0, none⟩) 3 3) [5, 172, 2]) ?hP1 ?hf1).mono ?_
  case hP1 =>
    rintro g k x a b ⟨rfl, rfl, ha, hb, hc⟩ hbb
    rw [hsz] at hbb
    exact ⟨rfl, rfl, (hbb.block _ (by omega)).trans ha, hb.trans (hbb.mono (by omega)), hc.behind hbb (fun i hi => by rw [hbl i hi]; omega)⟩
  case hf1 =>
    intro g w1 hg hb hR
    rw [hsz] at hg hb
    refine (alive03_1 (w.heap.size + 2) (w.heap.size + 1) g 0 _ w1 ((hb.block _ (by omega)).trans hx1) (by omega) hg (fun i hi => by rw [hbl i hi]; omega) hR).mono ?_
    rintro e w2 ⟨hk, hx, hw, hbx⟩
    refine ⟨3, 0, hsz ▸ hk, ⟨rfl, rfl, hx, (hb1.trans (hb.mono (by omega))).trans (hbx.mono (by omega)), ?_⟩, hw⟩
    rcases hw with ⟨_, _, hr⟩ | ⟨h, _⟩
    · exact hr.rd
    · exact absurd rfl h
  rintro e w3 ⟨g, k, x, hk, hg, ⟨rfl, rfl, hx, hb, hR⟩, hsh, rfl⟩
  rw [show told [5, 172, 2] 3 0 = 0 from rfl]
  rw [hsz] at hg
  obtain ⟨hl3, hgl⟩ : w.heap.size + 2 ≤ w3.heap.size ∧ g < w3.heap.size := by
    have hg3 : g < w3.heap.size := by obtain ⟨_, _, _, _, h⟩ := hsh; exact (Array.getElem?_eq_some_iff.1 h).1
    exact ⟨by omega, hg3⟩
  clear hsh hb1 hx1 hsz h1 h0
  have hx0 := hx
  have hb0 := hb
  have hR0 := hR
  go_wp2_with fail
  refine (reader_Run 32 enters_alive2 _ _ _ _ hR (fun g k x a => k = 1 ∧ x = 3 ∧ Below w3.heap.size w3 a) ?hP2 ?hf2).mono ?_
  case hP2 =>
    rintro g k x a b ⟨rfl, rfl, hb⟩ hbb
    exact ⟨rfl, rfl, hb.trans hbb⟩
  case hf2 =>
    intro g w1 hg hb hR
    refine (alive03_2 w3.heap.size g _ w1 hR).mono ?_
    rintro e w2 ⟨hk, hw, hgr⟩
    exact ⟨1, 3, hk, ⟨rfl, rfl, hb.grown hgr hb.size (fun j hj => by injection hj; omega)⟩, hw⟩
  rintro e w4 ⟨g2, k, x, hk2, hg2, ⟨rfl, rfl, hb4⟩, hsh2, rfl⟩
  rw [show told [5, 172, 2] 1 3 = 3 from rfl]
  replace hR := hR0.later hb4 (Nat.le_refl _)
  replace hx := (hb4.block _ (by omega)).trans hx0
  replace hb := hb0.trans (hb4.mono (by omega))
  have hl4 := hb4.size
  clear hR0 hx0 hb0 hb4 hsh2
  go_wp2_with fail
  refine (reader_Run 33 enters_alive3 _ _ _ _ hR (fun g k x a => k = 1 ∧ x = 0 ∧ Below w4.heap.size w4 a) ?hP3 ?hf3).mono ?_
  case hP3 =>
    rintro g k x a b ⟨rfl, rfl, hb⟩ hbb
    exact ⟨rfl, rfl, hb.trans hbb⟩
  case hf3 =>
    intro g w1 hg hb hR
    refine (alive03_3 w4.heap.size g _ w1 hR).mono ?_
    rintro e w2 ⟨hk, hw, hgr⟩
    exact ⟨1, 0, hk, ⟨rfl, rfl, hb.grown hgr hb.size (fun j hj => by injection hj; omega)⟩, hw⟩
  rintro e w5 ⟨g3, k, x, hk3, hg3, ⟨rfl, rfl, hb5⟩, hsh3, rfl⟩
  rw [show told [5, 172, 2] 1 0 = 7 from rfl]
  have c0 := cell_of_one ((hb5.block _ (by omega)).trans hx)
  have HB := Lib.hid (hb.trans (hb5.mono (by omega)))
  clear hx hb hb5 hsh3 hR
  go_wp2
  go_ret
  exact ⟨rfl, HB.out⟩

end Go.Proofs.Ytojjfocnkdijpaa
