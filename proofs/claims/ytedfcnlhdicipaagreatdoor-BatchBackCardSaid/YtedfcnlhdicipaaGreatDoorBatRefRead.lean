/-
  The document's own answers for layer 10 (deckleref10): Read, over Take.
-/
import Derived.Test.YtedfcnlhdicipaaGreatDoorGBatP
import Derived.Test.YtedfcnlhdicipaaGreatDoorGBatO
import Derived.Test.YtedfcnlhdicipaaGreatDoorReaderRef
set_option linter.unusedVariables false
set_option linter.unusedSimpArgs false
set_option maxRecDepth 1000000
namespace Go.Proofs.YtedfcnlhdicipaaGreatDoor
open Go.RowKit

/-- A set off bytes, by a schema that has a fault (E) or none. -/
def bat (lt : List Ce → List Ce → Bool) (E : Nat) (l : List UInt8) (kinds : List Int) (k : Nat) : List Bp × Nat × Nat := if E ≠ 0 then ([], k, E) else btRd lt l kinds k
/-- What is told of a Take. -/
def TakeR10 (w : World) (m : Nat) (v : Value) (l : List UInt8) (R : List Bp × Nat × Nat) (e : Ending) (w' : World) : Prop :=
  ∃ tv, e = .returned tv ∧ w.grownBy w' (some m) ∧ Mdl w' m v l R.2.1 R.2.2 ∧ (R.2.2 = 0 → ∃ ps : List PairB, NewP w' w.heap.size tv ps ∧ PSO ps ∧ psL ps = R.1)
/-- What is told of bytes. -/
def batE (R : List Bp × Nat × Nat) (l : List UInt8) : Nat := toldM l R.2.1 R.2.2
def batC (R : List Bp × Nat × Nat) (l : List UInt8) : List Bp := if batE R l = 0 then R.1 else []
def RdO10 (w : World) (l : List UInt8) (R : List Bp × Nat × Nat) (e : Ending) (w' : World) : Prop :=
  Below w.heap.size w w' ∧ ∃ tv ps, e = .returned (.tuple #[tv, .int .i64 (R.2.1 : Int), .int .i64 (batE R l : Int)]) ∧ NewP w' w.heap.size tv ps ∧ PSO ps ∧ psL ps = batC R l

set_option maxHeartbeats 4000000 in
theorem ref_Read10 (sv v : Value) (l : List UInt8) (w : World) (h : Rd w v l) (R : List Bp × Nat × Nat)
    (hT : ∀ (wz : World) (m : Nat) (vz : Value), Below w.heap.size w wz → Mdl wz m vz l 0 0 → Calls Tryz.prog 36 #[.pointer (some ⟨m, 0, none⟩), sv] wz (TakeR10 wz m vz l R)) :
    Calls Tryz.prog 15 #[v, sv] w (RdO10 w l R) := by
  obtain ⟨ao, cap, hv, _⟩ := id h.shape
  subst hv
  obtain ⟨w0, hw0⟩ : ∃ w0, w0 = w.alloc (.cells #[.slice ao l.length cap, .int .i64 0, .int .i64 0] 73) := ⟨_, rfl⟩
  have N0 : w0.heap.size = w.heap.size + 1 := by rw [hw0]; simp
  have N1 : w0.heap[w.heap.size]? = some (.cells #[.slice ao l.length cap, .int .i64 0, .int .i64 0] 73 (0, 0)) := by rw [hw0]; exact heap_alloc_new _ _
  have N2 : Below w.heap.size w w0 := by rw [hw0]; exact (Below.refl _ w).alloc (Nat.le_refl _) _
  have HW0 := Lib.hid hw0
  have HB0 := Lib.hid N2
  have HS0 := Lib.hid N0
  have hM0 : Mdl w0 w.heap.size (.slice ao l.length cap) l 0 0 := ⟨N1, Nat.zero_le _, h.later N2 (Nat.le_refl _), fun i hi => by have := h.block hi; omega⟩
  have HT := Lib.hid (hT w0 w.heap.size _ N2 hM0)
  clear hw0 N0 N1 N2 h hM0 hT
  go_enter Tryz.func15, Tryz.ntmps15
  go_wp2_with fail
  rw [← HW0.out]
  refine HT.out.mono ?_
  rintro e w1 ⟨tv, rfl, hg, hM, hrc⟩
  obtain ⟨k, hk⟩ : ∃ k, k = R.2.1 := ⟨_, rfl⟩
  obtain ⟨x, hx⟩ : ∃ x, x = R.2.2 := ⟨_, rfl⟩
  rw [← hk, ← hx] at hM
  rw [← hx] at hrc
  have HB1 := Lib.hid (show Below w.heap.size w w1 from HB0.out.trans ⟨hg.os, hg.tape, hg.output, hg.size, fun j hj => hg.block j (by have := HS0.out; omega) (fun e => by injection e with e; omega)⟩)
  have HK := Lib.hid hk
  have HX := Lib.hid hx
  have HRC := Lib.hid hrc
  have HM := Lib.hid hM
  clear hg hrc hM hk hx HT
  go_wp2_with fail
  refine (model_Done w.heap.size _ l k x w1 HM.out).mono ?_
  rintro e w2 ⟨rfl, hb⟩
  have HB2 := Lib.hid (HB1.out.trans (hb.mono HB1.out.size))
  have HB12 := Lib.hid hb
  obtain ⟨y, hy⟩ : ∃ y, y = toldM l k x := ⟨_, rfl⟩
  have HRE := Lib.hid (show batE R l = y from by unfold batE; rw [← HK.out, ← HX.out, hy])
  rw [← hy]
  have HY := Lib.hid hy
  clear hb hy
  by_cases h0 : y = 0
  · have q : ((y : Int) != 0) = false := by rw [h0]; rfl
    have HR0 := Lib.hid (show x = 0 from by
      have h1 := HY.out
      unfold toldM at h1
      by_cases hx : x = 0
      · exact hx
      · rw [if_neg hx] at h1; omega)
    obtain ⟨ps, hown, hps, hce⟩ := HRC.out HR0.out
    have HOW := Lib.hid ((hown.lower (b' := w.heap.size) (by have := HS0.out; omega)).later HB12.out (Nat.le_refl _))
    have HCE := Lib.hid hce
    have H0 := Lib.hid h0
    clear h0 hown hce
    go_wp2
    go_ret3
    refine ⟨HB2.out, _, ps, by rw [← HK.out, HRE.out, H0.out]; rfl, HOW.out, hps, ?_⟩
    unfold batC
    rw [HRE.out, if_pos H0.out, HCE.out]
  · have q : ((y : Int) != 0) = true := by rw [bne_iff_ne]; omega
    have H0 := Lib.hid h0
    clear h0
    go_wp2
    go_ret3
    refine ⟨HB2.out, _, [], by rw [← HK.out, HRE.out]; rfl, NewP.nil _ _, fun p hp => absurd hp (by simp), ?_⟩
    unfold batC
    rw [HRE.out, if_neg H0.out]; rfl

end Go.Proofs.YtedfcnlhdicipaaGreatDoor
