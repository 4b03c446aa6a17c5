/-
  Numbers of either sign read, as the document's own answer for layer 4 tells them.
-/
import Derived.Test.YtdegeifklchjaaaGreatDoorUndec
set_option linter.unusedVariables false
set_option linter.unusedSimpArgs false
set_option maxRecDepth 1000000
namespace Go.Proofs.YtdegeifklchjaaaGreatDoor
open Go.RowKit

/-- The number of either sign that bytes tell. -/
def unsC (l : List UInt8) : Option Int :=
  if l.head? = some 45 then match undecC l.tail with
    | some n => if 0 < n ∧ n ≤ 9223372036854775808 then some (-(n : Int)) else none
    | none => none
  else match undecC l with
    | some n => if n ≤ 9223372036854775807 then some (n : Int) else none
    | none => none

theorem RdS.tail {s : ByteArray} {l : List UInt8} (h : RdS s l) : RdS (s.extract 1 s.size) l.tail := by
  refine ⟨?_, by have := h.small; simp; omega⟩
  rw [h.eq]
  apply ByteArray.ext
  simp [ByteArray.size]
  cases l <;> simp

set_option maxHeartbeats 2000000 in
set_option maxRecDepth 1000000 in
theorem ref_Unsigned (s : ByteArray) (l : List UInt8) (w : World) (h : RdS s l) :
    Calls Tryz.prog 20 #[.string s] w fun e w' => (∃ (x : Int) (b : Bool), e = .returned (.tuple #[.int .i64 x, .bool b]) ∧ -9223372036854775808 ≤ x ∧ x ≤ 9223372036854775807 ∧ unsC l = (if b = true then some x else none)) ∧ w = w' := by
  have hlen := h.len
  have hidx := h.idx
  have hsm := h.small
  have hsz := h.size
  by_cases hl : 0 < l.length
  · have hx := hidx 0 hl
    rw [show ((0 : Nat) : Int) = 0 from rfl] at hx
    obtain ⟨c, hc⟩ : ∃ c : Nat, at8 l 0 = (c : Int) := ⟨(l.getD 0 0).toNat, rfl⟩
    have hcc : (l.getD 0 0).toNat = c := by unfold at8 at hc; omega
    have hc1 := at8_hi l 0
    rw [hc] at hc1 hx
    have hl2 : decide ((l.length : Int) > 0) = true := decide_eq_true (by omega)
    by_cases h45 : c = 45
    · have HU : Hid (unsC l = match undecC l.tail with
          | some n => if 0 < n ∧ n ≤ 9223372036854775808 then some (-(n : Int)) else none
          | none => none) := Lib.hid (by
        unfold unsC; rw [if_pos]
        cases l with
        | nil => simp at hl
        | cons a r =>
          simp at hcc ⊢
          exact UInt8.toNat_inj.mp (by rw [hcc, h45]; rfl))
      have HT := Lib.hid h.tail
      have q1 : ((c : Int) == 45) = true := by rw [h45]; rfl
      have hs1 : (1 : Int) ≤ (s.size : Int) := by rw [hsz]; omega
      clear hidx hc hcc h45 hsz h
      go_enter Tryz.func20, Tryz.ntmps20
      go_wp2_with fail
      refine (ref_Undecimal _ _ _ HT.out).mono ?_
      rintro e w1 ⟨⟨n, b, rfl, hn, hb⟩, rfl⟩
      have HBB := Lib.hid hb
      clear hb
      cases b with
      | false =>
        have HF := Lib.hid (show unsC l = none by rw [HU.out, HBB.out]; rfl)
        clear HBB HU
        go_wp2
        go_ret2
        exact ⟨⟨0, false, rfl, by omega, by omega, by rw [HF.out]; rfl⟩, rfl⟩
      | true =>
        by_cases hn0 : n = 0
        · have HF := Lib.hid (show unsC l = none by rw [HU.out, HBB.out, hn0]; rfl)
          have q2 : ((n : Int) == 0) = true := by rw [hn0]; rfl
          clear HBB HU hn0
          go_wp2
          go_ret2
          exact ⟨⟨0, false, rfl, by omega, by omega, by rw [HF.out]; rfl⟩, rfl⟩
        · have q2 : ((n : Int) == 0) = false := by simp; omega
          by_cases hn1 : 9223372036854775808 < n
          · have HF := Lib.hid (show unsC l = none by rw [HU.out, HBB.out]; exact if_neg (by omega))
            have q3 : decide ((n : Int) > 9223372036854775808) = true := decide_eq_true (by omega)
            clear HBB HU
            go_wp2
            go_ret2
            exact ⟨⟨0, false, rfl, by omega, by omega, by rw [HF.out]; rfl⟩, rfl⟩
          · have HF := Lib.hid (show unsC l = some (-(n : Int)) by rw [HU.out, HBB.out]; exact if_pos (by omega))
            have q3 : decide ((n : Int) > 9223372036854775808) = false := decide_eq_false (by omega)
            clear HBB HU
            go_wp2
            go_ret2
            exact ⟨⟨_, true, rfl, by omega, by omega, by rw [HF.out, show -((n : Int) - 1) - 1 = -(n : Int) from by omega]; rfl⟩, rfl⟩
    · have HU : Hid (unsC l = match undecC l with
          | some n => if n ≤ 9223372036854775807 then some (n : Int) else none
          | none => none) := Lib.hid (by
        unfold unsC; rw [if_neg]
        cases l with
        | nil => simp at hl
        | cons a r =>
          simp at hcc ⊢
          rintro rfl
          exact h45 (by rw [← hcc]; rfl))
      have q1 : ((c : Int) == 45) = false := by simp; omega
      have HH := Lib.hid h
      clear hidx hc hcc h45 hsz h
      go_enter Tryz.func20, Tryz.ntmps20
      go_wp2_with fail
      refine (ref_Undecimal _ _ _ HH.out).mono ?_
      rintro e w1 ⟨⟨n, b, rfl, hn, hb⟩, rfl⟩
      have HBB := Lib.hid hb
      clear hb
      cases b with
      | false =>
        have HF := Lib.hid (show unsC l = none by rw [HU.out, HBB.out]; rfl)
        clear HBB HU
        go_wp2
        go_ret2
        exact ⟨⟨_, false, rfl, (by unfold wrap64; omega), (by unfold wrap64; omega), by rw [HF.out]; rfl⟩, rfl⟩
      | true =>
        by_cases hn1 : n ≤ 9223372036854775807
        · have HF := Lib.hid (show unsC l = some (n : Int) by rw [HU.out, HBB.out]; exact if_pos hn1)
          have q3 : decide ((n : Int) ≤ 9223372036854775807) = true := decide_eq_true (by omega)
          have q4 : wrap64 (n : Int) = (n : Int) := by unfold wrap64; omega
          clear HBB HU
          go_wp2
          go_ret2
          exact ⟨⟨_, true, rfl, by omega, by omega, by rw [HF.out]; rfl⟩, rfl⟩
        · have HF := Lib.hid (show unsC l = none by rw [HU.out, HBB.out]; exact if_neg hn1)
          have q3 : decide ((n : Int) ≤ 9223372036854775807) = false := decide_eq_false (by omega)
          clear HBB HU
          go_wp2
          go_ret2
          exact ⟨⟨_, false, rfl, (by unfold wrap64; omega), (by unfold wrap64; omega), by rw [HF.out]; rfl⟩, rfl⟩
  · have hn : l = [] := List.length_eq_zero_iff.mp (by omega)
    have HU : Hid (unsC l = match undecC l with
        | some n => if n ≤ 9223372036854775807 then some (n : Int) else none
        | none => none) := Lib.hid (by unfold unsC; rw [if_neg (by rw [hn]; simp)])
    have hl2 : decide ((l.length : Int) > 0) = false := decide_eq_false (by omega)
    have HH := Lib.hid h
    clear hidx hsz h hn
    go_enter Tryz.func20, Tryz.ntmps20
    go_wp2_with fail
    refine (ref_Undecimal _ _ _ HH.out).mono ?_
    rintro e w1 ⟨⟨n, b, rfl, hn, hb⟩, rfl⟩
    have HBB := Lib.hid hb
    clear hb
    cases b with
    | false =>
      have HF := Lib.hid (show unsC l = none by rw [HU.out, HBB.out]; rfl)
      clear HBB HU
      go_wp2
      go_ret2
      exact ⟨⟨_, false, rfl, (by unfold wrap64; omega), (by unfold wrap64; omega), by rw [HF.out]; rfl⟩, rfl⟩
    | true =>
      by_cases hn1 : n ≤ 9223372036854775807
      · have HF := Lib.hid (show unsC l = some (n : Int) by rw [HU.out, HBB.out]; exact if_pos hn1)
        have q3 : decide ((n : Int) ≤ 9223372036854775807) = true := decide_eq_true (by omega)
        have q4 : wrap64 (n : Int) = (n : Int) := by unfold wrap64; omega
        clear HBB HU
        go_wp2
        go_ret2
        exact ⟨⟨_, true, rfl, by omega, by omega, by rw [HF.out]; rfl⟩, rfl⟩
      · have HF := Lib.hid (show unsC l = none by rw [HU.out, HBB.out]; exact if_neg hn1)
        have q3 : decide ((n : Int) ≤ 9223372036854775807) = false := decide_eq_false (by omega)
        clear HBB HU
        go_wp2
        go_ret2
        exact ⟨⟨_, false, rfl, (by unfold wrap64; omega), (by unfold wrap64; omega), by rw [HF.out]; rfl⟩, rfl⟩

end Go.Proofs.YtdegeifklchjaaaGreatDoor
