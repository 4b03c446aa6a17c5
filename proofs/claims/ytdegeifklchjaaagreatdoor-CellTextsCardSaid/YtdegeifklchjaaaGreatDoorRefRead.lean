/-
  A cell's text read, as the document's own answer for layer 4 tells it: numbers' kinds, and no kind.
-/
import Derived.Test.YtdegeifklchjaaaGreatDoorCellText
import Derived.Test.YtdegeifklchjaaaGreatDoorBlocks
import Derived.Test.YtdegeifklchjaaaGreatDoorReadEq
set_option linter.unusedVariables false
set_option linter.unusedSimpArgs false
set_option maxRecDepth 1000000
namespace Go.Proofs.YtdegeifklchjaaaGreatDoor
open Go.RowKit

theorem wrap_u64 (x : Int) : IntKind.u64.wrap x = ((x % 18446744073709551616).toNat : Int) := by
  have : IntKind.u64.wrap x = x % 18446744073709551616 := by simp [IntKind.wrap, IntKind.signed, IntKind.bits]
  omega

set_option maxHeartbeats 4000000 in
theorem ref_Read0 (s : ByteArray) (l : List UInt8) (w : World) (h : RdS s l) :
    Calls Tryz.prog 7 #[.int .i64 0, .string s] w fun e w' => RdV (readR 0 l) e ∧ Below w.heap.size w w' := by
  have HR := Lib.hid (show readR 0 l = (match unsC l with
    | some v => (some ((v % 18446744073709551616).toNat, []), 0)
    | none => (none, 6)) from by unfold readR; rw [if_pos rfl]; cases unsC l <;> rfl)
  have HB := fun A B => Lib.hid (new2 w A B).2.2.2
  go_enter Tryz.func7, Tryz.ntmps7
  go_wp2_with fail
  refine (ref_Unsigned s l _ h).mono ?_
  rintro e w1 ⟨⟨x, b, rfl, hx1, hx2, hu⟩, rfl⟩
  have HU := Lib.hid hu
  clear hu
  cases b
  · have HF := Lib.hid (show readR 0 l = (none, 6) from by rw [HR.out, HU.out]; rfl)
    clear HU HR
    go_wp2
    refine bodyPost_ret (by simp [results, Tryz.results7, go_sem]; try rfl) rfl ?_
    refine ⟨?_, (HB _ _).out⟩
    rw [HF.out]
    rfl
  · have HF := Lib.hid (show readR 0 l = (some ((x % 18446744073709551616).toNat, []), 0) from by rw [HR.out, HU.out]; rfl)
    have HW := Lib.hid (wrap_u64 x)
    clear HU HR
    go_wp2
    refine bodyPost_ret (by simp [results, Tryz.results7, go_sem]; try rfl) rfl ?_
    refine ⟨?_, (HB _ _).out⟩
    rw [HF.out]
    exact ⟨_, ⟨rfl, by simp⟩, by rw [HW.out]⟩

set_option maxHeartbeats 4000000 in
theorem ref_Read1 (s : ByteArray) (l : List UInt8) (w : World) (h : RdS s l) :
    Calls Tryz.prog 7 #[.int .i64 1, .string s] w fun e w' => RdV (readR 1 l) e ∧ Below w.heap.size w w' := by
  have HR := Lib.hid (show readR 1 l = (match undecC l with
    | some x => (some (x, []), 0)
    | none => (none, 6)) from by unfold readR; rw [if_neg (by decide), if_pos rfl]; cases undecC l <;> rfl)
  have HB := fun A B => Lib.hid (new2 w A B).2.2.2
  go_enter Tryz.func7, Tryz.ntmps7
  go_wp2_with fail
  refine (ref_Undecimal s l _ h).mono ?_
  rintro e w1 ⟨⟨x, b, rfl, hx1, hu⟩, rfl⟩
  have HU := Lib.hid hu
  clear hu
  cases b
  · have HF := Lib.hid (show readR 1 l = (none, 6) from by rw [HR.out, HU.out]; rfl)
    clear HU HR
    go_wp2
    refine bodyPost_ret (by simp [results, Tryz.results7, go_sem]; try rfl) rfl ?_
    refine ⟨?_, (HB _ _).out⟩
    rw [HF.out]
    rfl
  · have HF := Lib.hid (show readR 1 l = (some (x, []), 0) from by rw [HR.out, HU.out]; rfl)
    clear HU HR
    go_wp2
    refine bodyPost_ret (by simp [results, Tryz.results7, go_sem]; try rfl) rfl ?_
    refine ⟨?_, (HB _ _).out⟩
    rw [HF.out]
    exact ⟨_, ⟨rfl, by simp⟩, rfl⟩

set_option maxHeartbeats 4000000 in
theorem ref_Read2 (s : ByteArray) (l : List UInt8) (w : World) (h : RdS s l) :
    Calls Tryz.prog 7 #[.int .i64 2, .string s] w fun e w' => RdV (readR 2 l) e ∧ Below w.heap.size w w' := by
  have hl := h.toList
  have HB := fun A B => Lib.hid (new2 w A B).2.2.2
  by_cases h1 : l = [116, 114, 117, 101]
  · have HF := Lib.hid (show readR 2 l = (some (1, []), 0) from by unfold readR; rw [if_neg (by decide), if_neg (by decide), if_pos rfl, if_pos h1])
    have q1 : (s.toList == [116, 114, 117, 101]) = true := by rw [hl, h1]; rfl
    have q2 : (s.toList == [102, 97, 108, 115, 101]) = false := by rw [hl, h1]; rfl
    clear hl h1 h
    go_enter Tryz.func7, Tryz.ntmps7
    go_wp2
    refine bodyPost_ret (by simp [results, Tryz.results7, go_sem]; try rfl) rfl ?_
    refine ⟨?_, (HB _ _).out⟩
    rw [HF.out]
    exact ⟨_, ⟨rfl, by simp⟩, rfl⟩
  · have q1 : (s.toList == [116, 114, 117, 101]) = false := by rw [hl]; simpa using h1
    by_cases h2 : l = [102, 97, 108, 115, 101]
    · have HF := Lib.hid (show readR 2 l = (some (0, []), 0) from by unfold readR; rw [if_neg (by decide), if_neg (by decide), if_pos rfl, if_neg h1, if_pos h2])
      have q2 : (s.toList == [102, 97, 108, 115, 101]) = true := by rw [hl, h2]; rfl
      clear hl h1 h2 h
      go_enter Tryz.func7, Tryz.ntmps7
      go_wp2
      refine bodyPost_ret (by simp [results, Tryz.results7, go_sem]; try rfl) rfl ?_
      refine ⟨?_, (HB _ _).out⟩
      rw [HF.out]
      exact ⟨_, ⟨rfl, by simp⟩, rfl⟩
    · have HF := Lib.hid (show readR 2 l = (none, 6) from by unfold readR; rw [if_neg (by decide), if_neg (by decide), if_pos rfl, if_neg h1, if_neg h2])
      have q2 : (s.toList == [102, 97, 108, 115, 101]) = false := by rw [hl]; simpa using h2
      clear hl h1 h2 h
      go_enter Tryz.func7, Tryz.ntmps7
      go_wp2
      refine bodyPost_ret (by simp [results, Tryz.results7, go_sem]; try rfl) rfl ?_
      refine ⟨?_, (HB _ _).out⟩
      rw [HF.out]
      rfl

set_option maxHeartbeats 4000000 in
theorem ref_ReadX (kind : Int) (hk : ¬ (0 ≤ kind ∧ kind ≤ 5)) (s : ByteArray) (l : List UInt8) (w : World) (h : RdS s l) :
    Calls Tryz.prog 7 #[.int .i64 kind, .string s] w fun e w' => RdV (readR kind l) e ∧ Below w.heap.size w w' := by
  have HF := Lib.hid (show readR kind l = (none, 10) from by unfold readR; rw [if_neg (by omega), if_neg (by omega), if_neg (by omega), if_neg (by omega), if_neg (by omega)])
  have HB := fun A B => Lib.hid (new2 w A B).2.2.2
  have k0 : (kind == 0) = false := by simp; omega
  have k1 : (kind == 1) = false := by simp; omega
  have k2 : (kind == 2) = false := by simp; omega
  have k3 : (kind == 3) = false := by simp; omega
  have k4 : (kind == 4) = false := by simp; omega
  have k5 : (kind == 5) = false := by simp; omega
  clear hk h
  go_enter Tryz.func7, Tryz.ntmps7
  go_wp2
  refine bodyPost_ret (by simp [results, Tryz.results7, go_sem]; try rfl) rfl ?_
  refine ⟨?_, (HB _ _).out⟩
  rw [HF.out]
  rfl

end Go.Proofs.YtdegeifklchjaaaGreatDoor
