/-
  The document's own answers for layer 4 (deckleref04): Check, the order.
-/
import Derived.Test.YtkljkpffpdpphaaGreatDoorUtf8
import Derived.Lib.Strings
set_option linter.unusedVariables false
set_option linter.unusedSimpArgs false
set_option maxRecDepth 1000000
namespace Go.Proofs.YtkljkpffpdpphaaGreatDoor
open Go.RowKit

/-- A cell's value. -/
def cellV (num : Nat) (s : ByteArray) : Value := .agg #[.int .u64 (num : Int), .string s]

theorem RdS.toList {s : ByteArray} {l : List UInt8} (h : RdS s l) : s.toList = l := by
  rw [h.eq, Lib.toList_data]

/-- What is wrong with a cell. -/
def checkC (kind : Int) (num : Nat) (l : List UInt8) : Nat :=
  if kind < 0 ∨ 5 < kind then 10
  else if ((kind = 3 ∨ kind = 4) ∧ num ≠ 0) ∨ (¬ (kind = 3 ∨ kind = 4) ∧ l ≠ []) ∨ (kind = 2 ∧ 1 < num) ∨ (kind = 4 ∧ utf8 l = false) then 11
  else if 256 < l.length then 7 else 0

set_option maxHeartbeats 2000000 in
set_option maxRecDepth 1000000 in
theorem ref_Check (kind : Int) (num : Nat) (s : ByteArray) (l : List UInt8) (w : World) (h : RdS s l) (hk : -9223372036854775808 ≤ kind ∧ kind ≤ 9223372036854775807) (hn : num < 18446744073709551616) :
    Calls Tryz.prog 26 #[.int .i64 kind, cellV num s] w fun e w' => e = .returned (.int .i64 (checkC kind num l : Nat)) ∧ Below w.heap.size w w' := by
  have hlen := h.len
  have hne := Lib.hid h.toList
  unfold cellV
  by_cases h0 : kind < 0
  · have hd1 : decide (kind < 0) = true := decide_eq_true h0
    rw [show checkC _ num l = 10 from by unfold checkC; rw [if_pos (.inl h0)]]
    go_enter Tryz.func26, Tryz.ntmps26
    go_wp2
    go_ret
    exact ⟨rfl, (Below.refl _ _).alloc (Nat.le_refl _) _⟩
  · have hd1 : decide (kind < 0) = false := decide_eq_false h0
    by_cases h5 : 5 < kind
    · have hd2 : decide (kind > 5) = true := decide_eq_true h5
      rw [show checkC _ num l = 10 from by unfold checkC; rw [if_pos (.inr h5)]]
      go_enter Tryz.func26, Tryz.ntmps26
      go_wp2
      go_ret
      exact ⟨rfl, (Below.refl _ _).alloc (Nat.le_refl _) _⟩
    · clear hd1
      obtain rfl | rfl | rfl | rfl | rfl | rfl : kind = 0 ∨ kind = 1 ∨ kind = 2 ∨ kind = 3 ∨ kind = 4 ∨ kind = 5 := by omega
      · by_cases hl : l = []
        · have hdl : s.toList.isEmpty = true := by rw [hne.out, hl]; rfl
          have hlz : ¬ (l.length : Int) > 256 := by rw [hl]; decide
          rw [show checkC _ num l = 0 from by unfold checkC; rw [if_neg (by omega), if_neg (by simp [hl]), if_neg (by simp [hl])]]
          go_enter Tryz.func26, Tryz.ntmps26
          go_wp2
          go_ret
          exact ⟨rfl, (Below.refl _ _).alloc (Nat.le_refl _) _⟩
        · have hdl : s.toList.isEmpty = false := by rw [hne.out]; cases l <;> simp_all
          rw [show checkC _ num l = 11 from by unfold checkC; rw [if_neg (by omega), if_pos (.inr (.inl ⟨by omega, hl⟩))]]
          go_enter Tryz.func26, Tryz.ntmps26
          go_wp2
          go_ret
          exact ⟨rfl, (Below.refl _ _).alloc (Nat.le_refl _) _⟩
      · by_cases hl : l = []
        · have hdl : s.toList.isEmpty = true := by rw [hne.out, hl]; rfl
          have hlz : ¬ (l.length : Int) > 256 := by rw [hl]; decide
          rw [show checkC _ num l = 0 from by unfold checkC; rw [if_neg (by omega), if_neg (by simp [hl]), if_neg (by simp [hl])]]
          go_enter Tryz.func26, Tryz.ntmps26
          go_wp2
          go_ret
          exact ⟨rfl, (Below.refl _ _).alloc (Nat.le_refl _) _⟩
        · have hdl : s.toList.isEmpty = false := by rw [hne.out]; cases l <;> simp_all
          rw [show checkC _ num l = 11 from by unfold checkC; rw [if_neg (by omega), if_pos (.inr (.inl ⟨by omega, hl⟩))]]
          go_enter Tryz.func26, Tryz.ntmps26
          go_wp2
          go_ret
          exact ⟨rfl, (Below.refl _ _).alloc (Nat.le_refl _) _⟩
      · by_cases hl : l = []
        · by_cases hb : 1 < num
          · have hdl : s.toList.isEmpty = true := by rw [hne.out, hl]; rfl
            have hlz : ¬ (l.length : Int) > 256 := by rw [hl]; decide
            have hb2 : decide ((num : Int) > 1) = true := decide_eq_true (by omega)
            rw [show checkC _ num l = 11 from by unfold checkC; rw [if_neg (by omega), if_pos (.inr (.inr (.inl ⟨rfl, hb⟩)))]]
            go_enter Tryz.func26, Tryz.ntmps26
            go_wp2
            go_ret
            exact ⟨rfl, (Below.refl _ _).alloc (Nat.le_refl _) _⟩
          · have hdl : s.toList.isEmpty = true := by rw [hne.out, hl]; rfl
            have hlz : ¬ (l.length : Int) > 256 := by rw [hl]; decide
            have hb2 : decide ((num : Int) > 1) = false := decide_eq_false (by omega)
            rw [show checkC _ num l = 0 from by unfold checkC; rw [if_neg (by omega), if_neg (by simp [hl]; omega), if_neg (by simp [hl])]]
            go_enter Tryz.func26, Tryz.ntmps26
            go_wp2
            go_ret
            exact ⟨rfl, (Below.refl _ _).alloc (Nat.le_refl _) _⟩
        · have hdl : s.toList.isEmpty = false := by rw [hne.out]; cases l <;> simp_all
          rw [show checkC _ num l = 11 from by unfold checkC; rw [if_neg (by omega), if_pos (.inr (.inl ⟨by omega, hl⟩))]]
          go_enter Tryz.func26, Tryz.ntmps26
          go_wp2
          go_ret
          exact ⟨rfl, (Below.refl _ _).alloc (Nat.le_refl _) _⟩
      · by_cases hz : num = 0
        · by_cases hg : 256 < l.length
          · have hnz : ((num : Int) != 0) = false := by simp; omega
            have hgg : (l.length : Int) > 256 := by omega
            rw [show checkC _ num l = 7 from by unfold checkC; rw [if_neg (by omega), if_neg (by simp [hz]), if_pos hg]]
            go_enter Tryz.func26, Tryz.ntmps26
            go_wp2
            go_ret
            exact ⟨rfl, (Below.refl _ _).alloc (Nat.le_refl _) _⟩
          · have hnz : ((num : Int) != 0) = false := by simp; omega
            have hgg : ¬ (l.length : Int) > 256 := by omega
            rw [show checkC _ num l = 0 from by unfold checkC; rw [if_neg (by omega), if_neg (by simp [hz]), if_neg hg]]
            go_enter Tryz.func26, Tryz.ntmps26
            go_wp2
            go_ret
            exact ⟨rfl, (Below.refl _ _).alloc (Nat.le_refl _) _⟩
        · have hnz : ((num : Int) != 0) = true := by simp; omega
          rw [show checkC _ num l = 11 from by unfold checkC; rw [if_neg (by omega), if_pos (.inl ⟨.inl rfl, hz⟩)]]
          go_enter Tryz.func26, Tryz.ntmps26
          go_wp2
          go_ret
          exact ⟨rfl, (Below.refl _ _).alloc (Nat.le_refl _) _⟩
      · by_cases hz : num = 0
        · cases hu : utf8 l with
          | false =>
            have hnz : ((num : Int) != 0) = false := by simp; omega
            rw [show checkC _ num l = 11 from by unfold checkC; rw [if_neg (by omega), if_pos (.inr (.inr (.inr ⟨rfl, hu⟩)))]]
            go_enter Tryz.func26, Tryz.ntmps26
            go_wp2_with fail
            refine (ref_UTF8 _ _ _ h).mono ?_
            rintro e w1 ⟨rfl, rfl⟩
            rw [hu]
            go_wp2
            go_ret
            exact ⟨rfl, (Below.refl _ _).alloc (Nat.le_refl _) _⟩
          | true =>
            by_cases hg : 256 < l.length
            · have hnz : ((num : Int) != 0) = false := by simp; omega
              have hgg : (l.length : Int) > 256 := by omega
              rw [show checkC _ num l = 7 from by unfold checkC; rw [if_neg (by omega), if_neg (by simp [hz, hu]), if_pos hg]]
              go_enter Tryz.func26, Tryz.ntmps26
              go_wp2_with fail
              refine (ref_UTF8 _ _ _ h).mono ?_
              rintro e w1 ⟨rfl, rfl⟩
              rw [hu]
              go_wp2
              go_ret
              exact ⟨rfl, (Below.refl _ _).alloc (Nat.le_refl _) _⟩
            · have hnz : ((num : Int) != 0) = false := by simp; omega
              have hgg : ¬ (l.length : Int) > 256 := by omega
              rw [show checkC _ num l = 0 from by unfold checkC; rw [if_neg (by omega), if_neg (by simp [hz, hu]), if_neg hg]]
              go_enter Tryz.func26, Tryz.ntmps26
              go_wp2_with fail
              refine (ref_UTF8 _ _ _ h).mono ?_
              rintro e w1 ⟨rfl, rfl⟩
              rw [hu]
              go_wp2
              go_ret
              exact ⟨rfl, (Below.refl _ _).alloc (Nat.le_refl _) _⟩
        · have hnz : ((num : Int) != 0) = true := by simp; omega
          rw [show checkC _ num l = 11 from by unfold checkC; rw [if_neg (by omega), if_pos (.inl ⟨.inr rfl, hz⟩)]]
          go_enter Tryz.func26, Tryz.ntmps26
          go_wp2
          go_ret
          exact ⟨rfl, (Below.refl _ _).alloc (Nat.le_refl _) _⟩
      · by_cases hl : l = []
        · have hdl : s.toList.isEmpty = true := by rw [hne.out, hl]; rfl
          have hlz : ¬ (l.length : Int) > 256 := by rw [hl]; decide
          rw [show checkC _ num l = 0 from by unfold checkC; rw [if_neg (by omega), if_neg (by simp [hl]), if_neg (by simp [hl])]]
          go_enter Tryz.func26, Tryz.ntmps26
          go_wp2
          go_ret
          exact ⟨rfl, (Below.refl _ _).alloc (Nat.le_refl _) _⟩
        · have hdl : s.toList.isEmpty = false := by rw [hne.out]; cases l <;> simp_all
          rw [show checkC _ num l = 11 from by unfold checkC; rw [if_neg (by omega), if_pos (.inr (.inl ⟨by omega, hl⟩))]]
          go_enter Tryz.func26, Tryz.ntmps26
          go_wp2
          go_ret
          exact ⟨rfl, (Below.refl _ _).alloc (Nat.le_refl _) _⟩

end Go.Proofs.YtkljkpffpdpphaaGreatDoor
