/-
  The document's own answers for layer 4 (deckleref04): the order of cells.
-/
import Derived.Test.YtfleebllabolgaaDoorCellRef
import Derived.Test.YtfleebllabolgaaDoorFloat
import Derived.Laws.Externs
set_option linter.unusedVariables false
set_option linter.unusedSimpArgs false
namespace Go.Proofs.YtfleebllabolgaaDoor
open Go.RowKit

theorem from_bits (x : Nat) (w : World) : (callFunc 15 #[.int .u64 (x : Int)]).run Tryd.prog w = .ok (.value (.float .f64 x)) w := by
  have := run_callFunc_extern (P := Tryd.prog) (f := 15) (e := Extern.MathFloatBits.float64frombits) Tryd.func15 (by kernel_rfl) (by kernel_rfl) (by kernel_rfl) (by kernel_rfl) #[.int .u64 (x : Int)] w
  rw [this]
  rfl

theorem nan_ne (x : Nat) (hx : x < 18446744073709551616) : (FloatKind.f64.format.order x x != some Ordering.eq) = Flt.nan x := by
  have h := Flt.order_eq x x (by simpa [Flt.W] using hx) (by simpa [Flt.W] using hx)
  have e : FloatKind.f64.format.order x x = Ieee.double.order x x := rfl
  rw [e, h]
  cases hn : Flt.nan x with
  | true => simp
  | false => simp

theorem math_IsNaN (x : Nat) (hx : x < 18446744073709551616) (w : World) :
    Calls Tryd.prog 17 #[.float .f64 x] w fun e w' => e = .returned (.bool (Flt.nan x)) ∧ w = w' := by
  go_enter Tryd.func17, Tryd.ntmps17
  have hf := nan_ne x hx
  go_wp2
  go_ret
  exact ⟨rfl, rfl⟩

/-- Where a float stands: 0 no number with a sign, 1 a number, 2 no number without one. -/
def placeC (x : Nat) : Nat := if Flt.nan x = true then (if 9223372036854775808 ≤ x then 0 else 2) else 1

set_option maxRecDepth 1000000 in
theorem ref_place (x : Nat) (hx : x < 18446744073709551616) (w : World) :
    Calls Tryd.prog 42 #[.int .u64 (x : Int)] w fun e w' => e = .returned (.int .i64 (placeC x : Nat)) ∧ w = w' := by
  have hfb := from_bits x
  cases hn : Flt.nan x with
  | true =>
    by_cases hW : 9223372036854775808 ≤ x
    · rw [show placeC x = 0 from by unfold placeC; rw [if_pos hn, if_pos hW]]
      have hd : decide ((9223372036854775808 : Int) ≤ (x : Int)) = true := decide_eq_true (by omega)
      go_enter Tryd.func42, Tryd.ntmps42
      go_wp2_with fail
      refine (math_IsNaN x hx _).mono ?_
      rintro e w1 ⟨rfl, rfl⟩
      rw [hn]
      go_wp2
      go_ret
      exact ⟨rfl, rfl⟩
    · rw [show placeC x = 2 from by unfold placeC; rw [if_pos hn, if_neg hW]]
      have hd : decide ((9223372036854775808 : Int) ≤ (x : Int)) = false := decide_eq_false (by omega)
      go_enter Tryd.func42, Tryd.ntmps42
      go_wp2_with fail
      refine (math_IsNaN x hx _).mono ?_
      rintro e w1 ⟨rfl, rfl⟩
      rw [hn]
      go_wp2
      go_ret
      exact ⟨rfl, rfl⟩
  | false =>
    rw [show placeC x = 1 from by unfold placeC; rw [if_neg (by simp [hn])]]
    go_enter Tryd.func42, Tryd.ntmps42
    go_wp2_with fail
    refine (math_IsNaN x hx _).mono ?_
    rintro e w1 ⟨rfl, rfl⟩
    rw [hn]
    go_wp2
    go_ret
    exact ⟨rfl, rfl⟩

/-- A float's place in the order, as a number. -/
def tkey (x : Nat) : Int := if x < 9223372036854775808 then (x : Int) else 9223372036854775807 - (x : Int)

/-- Is one cell ahead of another one? -/
def aheadC (kind : Int) (x : Nat) (l : List UInt8) (y : Nat) (m : List UInt8) : Bool :=
  if kind = 0 then decide (wrap64 (x : Int) < wrap64 (y : Int)) else if kind = 3 ∨ kind = 4 then Op.bytesLess l m else if kind = 5 then decide (tkey x < tkey y) else decide (x < y)

theorem nan_iff (x : Nat) : Flt.nan x = true ↔ 9218868437227405312 < x % 9223372036854775808 := by
  unfold Flt.nan
  rw [decide_eq_true_iff]
  rfl
theorem placeC_cases {x p : Nat} (h : placeC x = p) : (p = 0 ∧ 9218868437227405312 < x % 9223372036854775808 ∧ 9223372036854775808 ≤ x) ∨ (p = 2 ∧ 9218868437227405312 < x % 9223372036854775808 ∧ ¬ 9223372036854775808 ≤ x) ∨ (p = 1 ∧ ¬ 9218868437227405312 < x % 9223372036854775808) := by
  unfold placeC at h
  by_cases h1 : Flt.nan x = true
  · rw [if_pos h1] at h
    have h2 := (nan_iff x).1 h1
    by_cases h3 : 9223372036854775808 ≤ x
    · rw [if_pos h3] at h; exact .inl ⟨h.symm, h2, h3⟩
    · rw [if_neg h3] at h; exact .inr (.inl ⟨h.symm, h2, h3⟩)
  · rw [if_neg h1] at h
    exact .inr (.inr ⟨h.symm, fun h2 => h1 ((nan_iff x).2 h2)⟩)

/-- Floats that are of two places. -/
theorem tkey_place {x y p q : Nat} (hx : x < 18446744073709551616) (hy : y < 18446744073709551616) (hp : placeC x = p) (hq : placeC y = q) (h : p ≠ q) : decide (tkey x < tkey y) = decide (p < q) := by
  have h1 := placeC_cases hp
  have h2 := placeC_cases hq
  rw [decide_eq_decide]
  unfold tkey
  split <;> split <;> omega
theorem tkey_0 {x y : Nat} (hx : x < 18446744073709551616) (hy : y < 18446744073709551616) (hp : placeC x = 0) (hq : placeC y = 0) : decide (tkey x < tkey y) = decide (x > y) := by
  have h1 := placeC_cases hp
  have h2 := placeC_cases hq
  rw [decide_eq_decide]
  unfold tkey
  split <;> split <;> omega
theorem tkey_2 {x y : Nat} (hx : x < 18446744073709551616) (hy : y < 18446744073709551616) (hp : placeC x = 2) (hq : placeC y = 2) : decide (tkey x < tkey y) = decide (x < y) := by
  have h1 := placeC_cases hp
  have h2 := placeC_cases hq
  rw [decide_eq_decide]
  unfold tkey
  split <;> split <;> omega
theorem place_num {x : Nat} (hp : placeC x = 1) : Flt.nan x = false := by
  have h1 := placeC_cases hp
  cases h : Flt.nan x with
  | false => rfl
  | true => have := (nan_iff x).1 h; omega
theorem key_lo {x : Nat} (h : x < 9223372036854775808) : Flt.key x = x := if_pos h
theorem key_hi {x : Nat} (h : ¬ x < 9223372036854775808) : Flt.key x = -((x - 9223372036854775808 : Nat) : Int) := if_neg h
theorem tkey_lo {x : Nat} (h : x < 9223372036854775808) : tkey x = x := if_pos h
theorem tkey_hi {x : Nat} (h : ¬ x < 9223372036854775808) : tkey x = 9223372036854775807 - (x : Int) := if_neg h
/-- Numbers: as they are, and the zeros by their bits. -/
theorem tkey_zero {x y : Nat} (h1 : Flt.key x = 0) (h2 : Flt.key y = 0) : decide (tkey x < tkey y) = decide (x > y) := by
  rw [decide_eq_decide]
  by_cases a : x < 9223372036854775808
  · rw [key_lo a] at h1
    rw [tkey_lo a]
    by_cases b : y < 9223372036854775808
    · rw [key_lo b] at h2; rw [tkey_lo b]; omega
    · rw [key_hi b] at h2; rw [tkey_hi b]; omega
  · rw [key_hi a] at h1
    rw [tkey_hi a]
    by_cases b : y < 9223372036854775808
    · rw [key_lo b] at h2; rw [tkey_lo b]; omega
    · rw [key_hi b] at h2; rw [tkey_hi b]; omega
theorem tkey_num {x y : Nat} (h : ¬ (Flt.key x = 0 ∧ Flt.key y = 0)) : decide (tkey x < tkey y) = decide (Flt.key x < Flt.key y) := by
  rw [decide_eq_decide]
  by_cases a : x < 9223372036854775808
  · rw [key_lo a] at h ⊢
    rw [tkey_lo a]
    by_cases b : y < 9223372036854775808
    · rw [key_lo b] at h ⊢; rw [tkey_lo b]
    · rw [key_hi b] at h ⊢; rw [tkey_hi b]; omega
  · rw [key_hi a] at h ⊢
    rw [tkey_hi a]
    by_cases b : y < 9223372036854775808
    · rw [key_lo b] at h ⊢; rw [tkey_lo b]; omega
    · rw [key_hi b] at h ⊢; rw [tkey_hi b]; omega
theorem ford {x y : Nat} (hx : x < 18446744073709551616) (hy : y < 18446744073709551616) (h1 : Flt.nan x = false) (h2 : Flt.nan y = false) : FloatKind.f64.format.order x y = some (compare (Flt.key x) (Flt.key y)) := by
  have e : FloatKind.f64.format.order x y = Ieee.double.order x y := rfl
  rw [e, Flt.order_eq x y (by simpa [Flt.W] using hx) (by simpa [Flt.W] using hy), if_neg (by simp [h1, h2])]
theorem key_zero : Flt.key 0 = 0 := by decide
theorem ford_eq0 {x : Nat} (hx : x < 18446744073709551616) (h1 : Flt.nan x = false) : (FloatKind.f64.format.order x 0 == some Ordering.eq) = decide (Flt.key x = 0) := by
  rw [ford hx (by decide) h1 (by decide), key_zero]
  by_cases h : Flt.key x = 0
  · rw [Int.compare_eq_eq.2 h, decide_eq_true h]; rfl
  · rw [decide_eq_false h]
    rcases Int.lt_trichotomy (Flt.key x) 0 with h2 | h2 | h2
    · rw [Int.compare_eq_lt.2 h2]; rfl
    · exact absurd h2 h
    · rw [Int.compare_eq_gt.2 h2]; rfl
theorem ford_lt {x y : Nat} (hx : x < 18446744073709551616) (hy : y < 18446744073709551616) (h1 : Flt.nan x = false) (h2 : Flt.nan y = false) : (FloatKind.f64.format.order x y == some Ordering.lt) = decide (Flt.key x < Flt.key y) := by
  rw [ford hx hy h1 h2]
  rcases Int.lt_trichotomy (Flt.key x) (Flt.key y) with h | h | h
  · rw [Int.compare_eq_lt.2 h, decide_eq_true h]; rfl
  · rw [Int.compare_eq_eq.2 h, decide_eq_false (by omega)]; rfl
  · rw [Int.compare_eq_gt.2 h, decide_eq_false (by omega)]; rfl

set_option maxHeartbeats 2000000 in
set_option maxRecDepth 1000000 in
theorem ref_ahead0 (x y : Nat) (hx : x < 18446744073709551616) (hy : y < 18446744073709551616) (s t : ByteArray) (l m : List UInt8) (w : World) (hs : RdS s l) (ht : RdS t m) :
    Calls Tryd.prog 33 #[.int .i64 0, cellV x s, cellV y t] w fun e w' => e = .returned (.bool (decide (wrap64 (x : Int) < wrap64 (y : Int)))) ∧ Below w.heap.size w w' := by
  have hsl := hs.toList
  have htl := ht.toList
  have hbl : Below w.heap.size w ((w.alloc (.cells #[.int .u64 (x : Int), .string s] 24)).alloc (.cells #[.int .u64 (y : Int), .string t] 24)) := ((Below.refl _ w).alloc (Nat.le_refl _) _).alloc (by simp) _
  have HB := Lib.hid hbl
  clear hs ht hbl
  unfold cellV
  go_enter Tryd.func33, Tryd.ntmps33
  go_wp2
  go_ret
  exact ⟨rfl, HB.out⟩

set_option maxHeartbeats 2000000 in
set_option maxRecDepth 1000000 in
theorem ref_ahead1 (x y : Nat) (hx : x < 18446744073709551616) (hy : y < 18446744073709551616) (s t : ByteArray) (l m : List UInt8) (w : World) (hs : RdS s l) (ht : RdS t m) :
    Calls Tryd.prog 33 #[.int .i64 1, cellV x s, cellV y t] w fun e w' => e = .returned (.bool (decide (x < y))) ∧ Below w.heap.size w w' := by
  have hsl := hs.toList
  have htl := ht.toList
  have hbl : Below w.heap.size w ((w.alloc (.cells #[.int .u64 (x : Int), .string s] 24)).alloc (.cells #[.int .u64 (y : Int), .string t] 24)) := ((Below.refl _ w).alloc (Nat.le_refl _) _).alloc (by simp) _
  have HB := Lib.hid hbl
  clear hs ht hbl
  unfold cellV
  go_enter Tryd.func33, Tryd.ntmps33
  go_wp2
  go_ret
  exact ⟨rfl, HB.out⟩

set_option maxHeartbeats 2000000 in
set_option maxRecDepth 1000000 in
theorem ref_ahead2 (x y : Nat) (hx : x < 18446744073709551616) (hy : y < 18446744073709551616) (s t : ByteArray) (l m : List UInt8) (w : World) (hs : RdS s l) (ht : RdS t m) :
    Calls Tryd.prog 33 #[.int .i64 2, cellV x s, cellV y t] w fun e w' => e = .returned (.bool (decide (x < y))) ∧ Below w.heap.size w w' := by
  have hsl := hs.toList
  have htl := ht.toList
  have hbl : Below w.heap.size w ((w.alloc (.cells #[.int .u64 (x : Int), .string s] 24)).alloc (.cells #[.int .u64 (y : Int), .string t] 24)) := ((Below.refl _ w).alloc (Nat.le_refl _) _).alloc (by simp) _
  have HB := Lib.hid hbl
  clear hs ht hbl
  unfold cellV
  go_enter Tryd.func33, Tryd.ntmps33
  go_wp2
  go_ret
  exact ⟨rfl, HB.out⟩

set_option maxHeartbeats 2000000 in
set_option maxRecDepth 1000000 in
theorem ref_ahead3 (x y : Nat) (hx : x < 18446744073709551616) (hy : y < 18446744073709551616) (s t : ByteArray) (l m : List UInt8) (w : World) (hs : RdS s l) (ht : RdS t m) :
    Calls Tryd.prog 33 #[.int .i64 3, cellV x s, cellV y t] w fun e w' => e = .returned (.bool (Op.bytesLess l m)) ∧ Below w.heap.size w w' := by
  have hsl := hs.toList
  have htl := ht.toList
  have hbl : Below w.heap.size w ((w.alloc (.cells #[.int .u64 (x : Int), .string s] 24)).alloc (.cells #[.int .u64 (y : Int), .string t] 24)) := ((Below.refl _ w).alloc (Nat.le_refl _) _).alloc (by simp) _
  have HB := Lib.hid hbl
  clear hs ht hbl
  unfold cellV
  go_enter Tryd.func33, Tryd.ntmps33
  go_wp2
  go_ret
  exact ⟨rfl, HB.out⟩

set_option maxHeartbeats 2000000 in
set_option maxRecDepth 1000000 in
theorem ref_ahead4 (x y : Nat) (hx : x < 18446744073709551616) (hy : y < 18446744073709551616) (s t : ByteArray) (l m : List UInt8) (w : World) (hs : RdS s l) (ht : RdS t m) :
    Calls Tryd.prog 33 #[.int .i64 4, cellV x s, cellV y t] w fun e w' => e = .returned (.bool (Op.bytesLess l m)) ∧ Below w.heap.size w w' := by
  have hsl := hs.toList
  have htl := ht.toList
  have hbl : Below w.heap.size w ((w.alloc (.cells #[.int .u64 (x : Int), .string s] 24)).alloc (.cells #[.int .u64 (y : Int), .string t] 24)) := ((Below.refl _ w).alloc (Nat.le_refl _) _).alloc (by simp) _
  have HB := Lib.hid hbl
  clear hs ht hbl
  unfold cellV
  go_enter Tryd.func33, Tryd.ntmps33
  go_wp2
  go_ret
  exact ⟨rfl, HB.out⟩

set_option maxHeartbeats 2000000 in
set_option maxRecDepth 1000000 in
theorem ref_ahead5 (x y : Nat) (hx : x < 18446744073709551616) (hy : y < 18446744073709551616) (s t : ByteArray) (l m : List UInt8) (w : World) (hs : RdS s l) (ht : RdS t m) :
    Calls Tryd.prog 33 #[.int .i64 5, cellV x s, cellV y t] w fun e w' => e = .returned (.bool (decide (tkey x < tkey y))) ∧ Below w.heap.size w w' := by
  have hsl := hs.toList
  have htl := ht.toList
  have hbl : Below w.heap.size w ((w.alloc (.cells #[.int .u64 (x : Int), .string s] 24)).alloc (.cells #[.int .u64 (y : Int), .string t] 24)) := ((Below.refl _ w).alloc (Nat.le_refl _) _).alloc (by simp) _
  have HB := Lib.hid hbl
  clear hs ht hbl
  unfold cellV
  have hfx := from_bits x
  have hfy := from_bits y
  obtain ⟨p, hp⟩ : ∃ p, placeC x = p := ⟨_, rfl⟩
  obtain ⟨q, hq⟩ : ∃ q, placeC y = q := ⟨_, rfl⟩
  have HPp := Lib.hid hp
  have HQq := Lib.hid hq
  by_cases hpq : p = q
  · subst hpq
    obtain rfl | rfl | rfl : p = 0 ∨ p = 2 ∨ p = 1 := by have := placeC_cases hp; omega
    · rw [tkey_0 hx hy hp hq]
      clear hp hq
      go_enter Tryd.func33, Tryd.ntmps33
      go_wp2_with fail
      refine (ref_place x hx _).mono ?_
      rintro e w1 ⟨rfl, rfl⟩
      rw [HPp.out]
      go_wp2_with fail
      refine (ref_place y hy _).mono ?_
      rintro e w1 ⟨rfl, rfl⟩
      rw [HQq.out]
      go_wp2
      go_ret
      exact ⟨rfl, HB.out⟩
    · rw [tkey_2 hx hy hp hq]
      clear hp hq
      go_enter Tryd.func33, Tryd.ntmps33
      go_wp2_with fail
      refine (ref_place x hx _).mono ?_
      rintro e w1 ⟨rfl, rfl⟩
      rw [HPp.out]
      go_wp2_with fail
      refine (ref_place y hy _).mono ?_
      rintro e w1 ⟨rfl, rfl⟩
      rw [HQq.out]
      go_wp2
      go_ret
      exact ⟨rfl, HB.out⟩
    · have nx := place_num hp
      have ny := place_num hq
      have fx := ford_eq0 hx nx
      have fy := ford_eq0 hy ny
      have fl := ford_lt hx hy nx ny
      clear hp hq nx ny
      by_cases zx : Flt.key x = 0
      · rw [decide_eq_true zx] at fx
        by_cases zy : Flt.key y = 0
        · rw [decide_eq_true zy] at fy
          rw [tkey_zero zx zy]
          clear fl zx zy
          go_enter Tryd.func33, Tryd.ntmps33
          go_wp2_with fail
          refine (ref_place x hx _).mono ?_
          rintro e w1 ⟨rfl, rfl⟩
          rw [HPp.out]
          go_wp2_with fail
          refine (ref_place y hy _).mono ?_
          rintro e w1 ⟨rfl, rfl⟩
          rw [HQq.out]
          go_wp2
          go_ret
          exact ⟨rfl, HB.out⟩
        · rw [decide_eq_false zy] at fy
          rw [tkey_num (fun h => zy h.2)]
          clear zx zy
          go_enter Tryd.func33, Tryd.ntmps33
          go_wp2_with fail
          refine (ref_place x hx _).mono ?_
          rintro e w1 ⟨rfl, rfl⟩
          rw [HPp.out]
          go_wp2_with fail
          refine (ref_place y hy _).mono ?_
          rintro e w1 ⟨rfl, rfl⟩
          rw [HQq.out]
          go_wp2
          go_ret
          exact ⟨rfl, HB.out⟩
      · rw [decide_eq_false zx] at fx
        rw [tkey_num (fun h => zx h.1)]
        clear zx fy
        go_enter Tryd.func33, Tryd.ntmps33
        go_wp2_with fail
        refine (ref_place x hx _).mono ?_
        rintro e w1 ⟨rfl, rfl⟩
        rw [HPp.out]
        go_wp2_with fail
        refine (ref_place y hy _).mono ?_
        rintro e w1 ⟨rfl, rfl⟩
        rw [HQq.out]
        go_wp2
        go_ret
        exact ⟨rfl, HB.out⟩
  · have hne : ((p : Int) != (q : Int)) = true := by simp; omega
    rw [tkey_place hx hy hp hq hpq]
    clear hp hq
    go_enter Tryd.func33, Tryd.ntmps33
    go_wp2_with fail
    refine (ref_place x hx _).mono ?_
    rintro e w1 ⟨rfl, rfl⟩
    rw [HPp.out]
    go_wp2_with fail
    refine (ref_place y hy _).mono ?_
    rintro e w1 ⟨rfl, rfl⟩
    rw [HQq.out]
    go_wp2
    go_ret
    exact ⟨rfl, HB.out⟩

end Go.Proofs.YtfleebllabolgaaDoor
