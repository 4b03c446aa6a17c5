/-
  The order of cells, as mathematics; a cell that lies in a block of its own.
-/
import Derived.Test.YtkljkpffpdpphaaGreatDoorDoor
set_option linter.unusedVariables false
set_option linter.unusedSimpArgs false
set_option maxRecDepth 1000000
namespace Go.Proofs.YtkljkpffpdpphaaGreatDoor
open Go.RowKit Go.Shelf

/-- A cell's two places, in a block of its own. -/
abbrev CellAt (w : World) (b : Nat) (x : Nat) (s : ByteArray) : Prop := w.heap[b]? = some (.cells #[.int .u64 (x : Int), .string s] 45 (0, 0))
theorem CellAt.lt {w : World} {b x : Nat} {s : ByteArray} (h : CellAt w b x s) : b < w.heap.size := by
  rcases Nat.lt_or_ge b w.heap.size with h' | h'
  · exact h'
  · unfold CellAt at h; rw [Array.getElem?_eq_none h'] at h; cases h
theorem CellAt.later {w w' : World} {b x : Nat} {s : ByteArray} (h : CellAt w b x s) (hb : Below w.heap.size w w') : CellAt w' b x s := (hb.block b h.lt).trans h
theorem CellAt.c0 {w : World} {b x : Nat} {s : ByteArray} (h : CellAt w b x s) : w.cell? ⟨b, 0, none⟩ = some (.int .u64 (x : Int)) := new_cellC (i := 0) h rfl
theorem CellAt.c1 {w : World} {b x : Nat} {s : ByteArray} (h : CellAt w b x s) : w.cell? ⟨b, 1, none⟩ = some (.string s) := new_cellC (i := 1) h rfl
theorem CellAt.g0 {w : World} {b x : Nat} {s : ByteArray} (h : CellAt w b x s) (a : Ord.GW w) : a.val.cell? ⟨b, 0, none⟩ = some (.int .u64 (x : Int)) := (h.later a.grew).c0
theorem CellAt.g1 {w : World} {b x : Nat} {s : ByteArray} (h : CellAt w b x s) (a : Ord.GW w) : a.val.cell? ⟨b, 1, none⟩ = some (.string s) := (h.later a.grew).c1

theorem three_new (w0 : World) (k : Nat) (hk : w0.heap.size = k) (A B C : Obj) :
    (((w0.alloc A).alloc B).alloc C).drew.heap[k]? = some A ∧ (((w0.alloc A).alloc B).alloc C).drew.heap[k + 1]? = some B ∧ (((w0.alloc A).alloc B).alloc C).drew.heap[k + 1 + 1]? = some C := by
  obtain ⟨h0, h1, h2, h3, _⟩ := new3 w0 A B C
  rw [hk] at h1 h2 h3
  exact ⟨h1, h2, h3⟩
theorem three_below {w w0 : World} (h : Below w.heap.size w w0) (A B C : Obj) : Below w.heap.size w (((w0.alloc A).alloc B).alloc C).drew := by
  obtain ⟨_, _, _, _, h4⟩ := new3 w0 A B C
  exact (h.trans (h4.mono h.size)).drew

section
theorem ordZ_flip (a b : Int) : ordZ a b = -ordZ b a := by unfold ordZ; split <;> split <;> first | rfl | (split <;> first | rfl | omega) | omega
theorem ordZ_zero (a b : Int) : ordZ a b = 0 ↔ a = b := by
  unfold ordZ
  constructor
  · intro h; split at h
    · cases h
    · split at h
      · cases h
      · omega
  · rintro rfl; rw [if_neg (by omega), if_neg (by omega)]
theorem ordZ_lt (a b : Int) : ordZ a b < 0 ↔ a < b := by
  unfold ordZ
  split
  · simp; assumption
  · split <;> simp <;> omega
theorem ordZ_gt (a b : Int) : 0 < ordZ a b ↔ b < a := by
  unfold ordZ
  split
  · simp; omega
  · split <;> simp <;> omega
theorem ordZ_one (a b : Int) : -1 ≤ ordZ a b ∧ ordZ a b ≤ 1 := by
  unfold ordZ
  split
  · decide
  · split <;> decide

open _root_.Go.Lib in
theorem cb_flip : ∀ l m : List UInt8, compareBytes l m = -compareBytes m l
  | [], [] => rfl
  | [], _ :: _ => rfl
  | _ :: _, [] => rfl
  | a :: r, b :: t => by
    unfold compareBytes
    by_cases h1 : a < b
    · have h2 : ¬ b < a := by simp only [UInt8.lt_iff_toNat_lt] at *; omega
      simp [h1, h2]
    · by_cases h2 : b < a
      · simp [h1, h2]
      · simp [h1, h2, cb_flip r t]
open _root_.Go.Lib in
theorem cb_zero : ∀ l m : List UInt8, compareBytes l m = 0 ↔ l = m
  | [], [] => by simp [compareBytes]
  | [], _ :: _ => by simp [compareBytes]
  | _ :: _, [] => by simp [compareBytes]
  | a :: r, b :: t => by
    unfold compareBytes
    by_cases h1 : a < b
    · have h3 : a ≠ b := fun e => by subst e; simp only [UInt8.lt_iff_toNat_lt] at h1; omega
      simp [h1, h3]
    · by_cases h2 : b < a
      · have h3 : a ≠ b := fun e => by subst e; exact h1 h2
        simp [h1, h2, h3]
      · have e : a = b := by
          simp only [UInt8.lt_iff_toNat_lt] at h1 h2
          exact UInt8.toNat_inj.1 (by omega)
        subst e
        simp [h1, cb_zero r t]
open _root_.Go.Lib in
theorem cb_one : ∀ l m : List UInt8, -1 ≤ compareBytes l m ∧ compareBytes l m ≤ 1
  | [], [] => by simp [compareBytes]
  | [], _ :: _ => by simp [compareBytes]
  | _ :: _, [] => by simp [compareBytes]
  | a :: r, b :: t => by
    unfold compareBytes
    split
    · decide
    · split
      · decide
      · exact cb_one r t
open _root_.Go.Lib in
/-- Not above, and not above: not above; and below, if either is. -/
theorem cb_trans : ∀ l m n : List UInt8, compareBytes l m ≤ 0 → compareBytes m n ≤ 0 → compareBytes l n ≤ 0 ∧ ((compareBytes l m < 0 ∨ compareBytes m n < 0) → compareBytes l n < 0)
  | [], [], [], _, _ => by simp [compareBytes]
  | [], [], _ :: _, _, _ => by simp [compareBytes]
  | [], _ :: _, [], _, h => by simp [compareBytes] at h
  | [], _ :: _, _ :: _, _, _ => by simp [compareBytes]
  | _ :: _, [], _, h, _ => by simp [compareBytes] at h
  | _ :: _, _ :: _, [], _, h => by simp [compareBytes] at h
  | a :: r, b :: t, c :: q, h1, h2 => by
    have IH := _root_.Go.Lib.hid (cb_trans r t q)
    unfold compareBytes at h1 h2 ⊢
    simp only [UInt8.lt_iff_toNat_lt] at h1 h2 ⊢
    by_cases k1 : a.toNat < b.toNat
    · by_cases k2 : b.toNat < c.toNat
      · rw [if_pos (by omega : a.toNat < c.toNat)]; exact ⟨by decide, fun _ => by decide⟩
      · rw [if_neg k2] at h2
        by_cases k3 : c.toNat < b.toNat
        · rw [if_pos k3] at h2; exact absurd h2 (by decide)
        · rw [if_pos (by omega : a.toNat < c.toNat)]; exact ⟨by decide, fun _ => by decide⟩
    · rw [if_neg k1] at h1
      by_cases k4 : b.toNat < a.toNat
      · rw [if_pos k4] at h1; exact absurd h1 (by decide)
      · rw [if_neg k4] at h1
        by_cases k2 : b.toNat < c.toNat
        · rw [if_pos (by omega : a.toNat < c.toNat)]; exact ⟨by decide, fun _ => by decide⟩
        · rw [if_neg k2] at h2
          by_cases k3 : c.toNat < b.toNat
          · rw [if_pos k3] at h2; exact absurd h2 (by decide)
          · rw [if_neg k3] at h2
            rw [if_neg k1, if_neg k4, if_neg k2, if_neg k3, if_neg (by omega : ¬ a.toNat < c.toNat), if_neg (by omega : ¬ c.toNat < a.toNat)]
            exact IH.out h1 h2
end

section
variable {kind : Int} {x y z : Nat} {l m n : List UInt8}

theorem check_num (h : checkC kind x l = 0) (hk : ¬ (kind = 3 ∨ kind = 4)) : l = [] := by
  have h6 := check_kind h
  rw [checkC_isOf kind x l h6] at h
  obtain rfl | rfl | rfl | rfl | rfl | rfl : kind = 0 ∨ kind = 1 ∨ kind = 2 ∨ kind = 3 ∨ kind = 4 ∨ kind = 5 := by omega
  all_goals first | (exfalso; simp at hk; done) | (cases l with
    | nil => rfl
    | cons a r => simp [isOfC] at h)
theorem check_txt (h : checkC kind x l = 0) (hk : kind = 3 ∨ kind = 4) : x = 0 := by
  have h6 := check_kind h
  rw [checkC_isOf kind x l h6] at h
  rcases hk with rfl | rfl
  · by_cases hx : x = 0
    · exact hx
    · simp [isOfC, hx] at h
  · by_cases hx : x = 0
    · exact hx
    · simp [isOfC, hx] at h

/-- The number by which numbers stand. -/
def keyC (kind : Int) (x : Nat) : Int := if kind = 0 then wrap64 (x : Int) else if kind = 5 then tkey x + 9223372036854775808 else (x : Int)
theorem keyC_inj (hx : x < 18446744073709551616) (hy : y < 18446744073709551616) (h : keyC kind x = keyC kind y) : x = y := by
  unfold keyC at h
  by_cases h0 : kind = 0
  · rw [if_pos h0, if_pos h0] at h
    unfold wrap64 at h
    omega
  · rw [if_neg h0, if_neg h0] at h
    by_cases h5 : kind = 5
    · rw [if_pos h5, if_pos h5] at h
      unfold tkey at h
      split at h <;> split at h <;> omega
    · rw [if_neg h5, if_neg h5] at h
      omega
theorem cmpC_key (hk : ¬ (kind = 3 ∨ kind = 4)) (h1 : checkC kind x l = 0) (h2 : checkC kind y m = 0) : cmpC kind x l y m = ordZ (keyC kind x) (keyC kind y) := by
  have h6 := check_kind h1
  have e0 : ∀ q : Nat, keyC 0 q = wrap64 (q : Int) := fun q => by unfold keyC; rw [if_pos rfl]
  have e1 : ∀ q : Nat, keyC 1 q = (q : Int) := fun q => by unfold keyC; rw [if_neg (by decide), if_neg (by decide)]
  have e2 : ∀ q : Nat, keyC 2 q = (q : Int) := fun q => by unfold keyC; rw [if_neg (by decide), if_neg (by decide)]
  have e5 : ∀ q : Nat, keyC 5 q = tkey q + 9223372036854775808 := fun q => by unfold keyC; rw [if_neg (by decide), if_pos rfl]
  obtain rfl | rfl | rfl | rfl | rfl | rfl : kind = 0 ∨ kind = 1 ∨ kind = 2 ∨ kind = 3 ∨ kind = 4 ∨ kind = 5 := by omega
  · rw [e0, e0]; exact cmpC_0 h1 h2
  · rw [e1, e1]; exact cmpC_1 h1 h2
  · rw [e2, e2]; exact cmpC_2 h1 h2
  · simp at hk
  · simp at hk
  · rw [e5, e5]; exact cmpC_5 h1 h2
theorem cmpC_txt (hk : kind = 3 ∨ kind = 4) (h1 : checkC kind x l = 0) (h2 : checkC kind y m = 0) : cmpC kind x l y m = Lib.compareBytes l m := by
  rcases hk with rfl | rfl
  · exact cmpC_3 h1 h2
  · exact cmpC_4 h1 h2

/-- The order of any three cells of a kind. -/
theorem cmpC_laws (hx : x < 18446744073709551616) (hy : y < 18446744073709551616) (h1 : checkC kind x l = 0) (h2 : checkC kind y m = 0) (h3 : checkC kind z n = 0) :
    cmpC kind x l y m = -cmpC kind y m x l ∧ (cmpC kind x l y m = 0 ↔ x = y ∧ l = m) ∧ (-1 ≤ cmpC kind x l y m ∧ cmpC kind x l y m ≤ 1) ∧
    (cmpC kind x l y m ≤ 0 → cmpC kind y m z n ≤ 0 → cmpC kind x l z n ≤ 0) ∧ (cmpC kind x l y m < 0 → cmpC kind y m z n < 0 → cmpC kind x l z n < 0) := by
  by_cases hk : kind = 3 ∨ kind = 4
  · rw [cmpC_txt hk h1 h2, cmpC_txt hk h2 h1, cmpC_txt hk h2 h3, cmpC_txt hk h1 h3]
    have hx0 := check_txt h1 hk
    have hy0 := check_txt h2 hk
    refine ⟨cb_flip l m, ?_, cb_one l m, fun a b => (cb_trans l m n a b).1, fun a b => (cb_trans l m n (by omega) (by omega)).2 (.inl a)⟩
    rw [cb_zero]
    constructor
    · intro h; exact ⟨by omega, h⟩
    · intro h; exact h.2
  · rw [cmpC_key hk h1 h2, cmpC_key hk h2 h1, cmpC_key hk h2 h3, cmpC_key hk h1 h3]
    have hl := check_num h1 hk
    have hm := check_num h2 hk
    refine ⟨ordZ_flip _ _, ?_, ordZ_one _ _, fun a b => ?_, fun a b => ?_⟩
    · rw [ordZ_zero]
      constructor
      · intro h; exact ⟨keyC_inj hx hy h, by rw [hl, hm]⟩
      · rintro ⟨rfl, _⟩; rfl
    · have a1 : ¬ 0 < ordZ (keyC kind x) (keyC kind y) := by omega
      have b1 : ¬ 0 < ordZ (keyC kind y) (keyC kind z) := by omega
      rw [ordZ_gt] at a1 b1
      have : ¬ 0 < ordZ (keyC kind x) (keyC kind z) := by rw [ordZ_gt]; omega
      omega
    · rw [ordZ_lt] at *
      omega
end

end Go.Proofs.YtkljkpffpdpphaaGreatDoor
