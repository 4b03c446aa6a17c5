/-
  CellTexts: the function.
-/
import Derived.Test.YtdegeifklchjaaaGreatDoorRefRead5
import Derived.Test.YtdegeifklchjaaaGreatDoorCellLaws
import Derived.Test.YtdegeifklchjaaaGreatDoorCellTxt
set_option linter.unusedVariables false
set_option linter.unusedSimpArgs false
set_option maxRecDepth 1000000
namespace Go.Proofs.YtdegeifklchjaaaGreatDoor
open Go.RowKit Go.Shelf

/-- What Read answers, as a value. -/
def rdVal (o : Option (Nat × List UInt8) × Nat) : Value := match o with
  | (some (x, b), _) => .tuple #[.agg #[.int .u64 (x : Int), .string ⟨b.toArray⟩], .int .i64 0]
  | (none, k) => .tuple #[.agg #[.int .u64 0, .string ⟨#[]⟩], .int .i64 (k : Int)]
theorem rdVal_of {o : Option (Nat × List UInt8) × Nat} {e : Ending} (h : RdV o e) : e = .returned (rdVal o) := by
  obtain ⟨o, k⟩ := o
  cases o with
  | none => exact h
  | some p =>
    obtain ⟨x, b⟩ := p
    obtain ⟨t, ht, rfl⟩ := h
    rw [ht.eq]; rfl
theorem rdVal_shape (o : Option (Nat × List UInt8) × Nat) : ∃ (x k : Nat) (t : ByteArray), rdVal o = .tuple #[.agg #[.int .u64 (x : Int), .string t], .int .i64 (k : Int)] := by
  obtain ⟨o, k⟩ := o
  cases o with
  | none => exact ⟨0, k, _, rfl⟩
  | some p => exact ⟨p.1, 0, _, rfl⟩

theorem text_any (kind : Int) (num : Nat) (hnum : num < 18446744073709551616) (s : ByteArray) (l : List UInt8) (w : World) (h : RdS s l) (hT : Lib3 w) (he : checkC kind num l = 0) (hl : l.length ≤ 70368744175616) :
    Calls Tryz.prog 5 #[.int .i64 kind, cellV num s] w fun e w' => (∃ t, e = .returned (.tuple #[.string t, .int .i64 0]) ∧ RdS t (textC kind num l)) ∧ Below w.heap.size w w' := by
  obtain ⟨hk, _, _, h3, _, _⟩ := check_zero he
  rw [← textK_textC kind hk num hnum h3 l]
  unfold textK
  by_cases h34 : kind = 3 ∨ kind = 4
  · rw [if_pos h34]
    exact cell_TextB kind h34 num s l w h hT.tabs he hl
  · rw [if_neg h34]
    exact cell_TextN kind (by omega) num hnum s l w h hT he

set_option maxHeartbeats 8000000 in
theorem cellTexts_walk (a : Int) (n : Nat) (s1 : ByteArray) (l1 : List UInt8) (s2 : ByteArray) (l2 : List UInt8) (w : World) (ha : -9223372036854775808 ≤ a ∧ a ≤ 9223372036854775807) (hn : n < 18446744073709551616) (h1 : RdS s1 l1) (h2 : RdS s2 l2) (hT : Tabs w) (hL : Lib4 w) :
    Calls Tryz.prog 3 #[.int .i64 a, cellV n s1, .string s2] w fun e w' => e = .returned (.bool true) ∧ Below w.heap.size w w' := by
  obtain ⟨N0, N1, N2⟩ := new1 w (.cells #[.int .u64 (n : Int), .string s1] 24)
  obtain ⟨w0, hw0⟩ : ∃ w0, w0 = w.alloc (.cells #[.int .u64 (n : Int), .string s1] 24) := ⟨_, rfl⟩
  rw [← hw0] at N0 N1 N2
  have hlen1 := h1.len
  have hlen2 := h2.len
  have c0 := new_cellC (i := 0) N1 rfl
  have c1 := new_cellC (i := 1) N1 rfl
  have hL0 := hL.later N2
  have HB0 := Lib.hid N2
  have hcv : ∀ n u, cellV n u = .agg #[.int .u64 (n : Int), .string u] := fun _ _ => rfl
  have Q0 := Lib.hid N1
  have hal := law04_alive w0 hL0.l3.tabs
  clear N1 N2 hT
  by_cases g1 : 1000 < l1.length
  · have d1 : decide ((l1.length : Int) > 1000) = true := decide_eq_true (by omega)
    go_enter Tryz.func3, Tryz.ntmps3
    go_wp2_with fail
    rw [← hw0]
    go_wp2_with fail
    refine hal.mono ?_
    rintro e w1 ⟨rfl, hb⟩
    have HB := Lib.hid (HB0.out.trans (hb.mono HB0.out.size))
    clear hb
    go_wp2
    go_ret
    exact ⟨rfl, HB.out⟩
  have d1 : decide ((l1.length : Int) > 1000) = false := decide_eq_false (by omega)
  by_cases g2 : 2000 < l2.length
  · have d2 : decide ((l2.length : Int) > 2000) = true := decide_eq_true (by omega)
    go_enter Tryz.func3, Tryz.ntmps3
    go_wp2_with fail
    rw [← hw0]
    go_wp2_with fail
    refine hal.mono ?_
    rintro e w1 ⟨rfl, hb⟩
    have HB := Lib.hid (HB0.out.trans (hb.mono HB0.out.size))
    clear hb
    go_wp2
    go_ret
    exact ⟨rfl, HB.out⟩
  have d2 : decide ((l2.length : Int) > 2000) = false := decide_eq_false (by omega)
  obtain ⟨x, k, t, hsh⟩ := rdVal_shape (readR a l2)
  clear hal
  by_cases he : checkC a n l1 = 0
  · go_enter Tryz.func3, Tryz.ntmps3
    go_wp2_with fail
    rw [← hw0]
    clear hw0
    go_wp2_with fail
    rw [← hcv]
    refine (text_any a n hn s1 l1 _ h1 hL0.l3 he (by omega)).mono ?_
    rintro e w1 ⟨⟨t1, rfl, ht1⟩, hb⟩
    have HT1 := Lib.hid ht1
    clear ht1
    have HB1 := Lib.hid (HB0.out.trans (hb.mono HB0.out.size))
    have Q1 := Lib.hid (keepB Q0.out hb)
    clear hb c0 c1
    go_wp2_with fail
    refine (cell_Read a s2 l2 _ h2 (hL.later HB1.out)).mono ?_
    rintro e w2 ⟨he2, hb⟩
    obtain rfl := rdVal_of he2
    rw [readR_eq, hsh]
    have HB2 := Lib.hid (HB1.out.trans (hb.mono HB1.out.size))
    have Q2 := Lib.hid (keepB Q1.out hb)
    clear hb he2
    go_wp2_with fail
    obtain ⟨R0, R1, R2⟩ := new1 w2 (.cells #[.int .u64 (x : Int), .string t] 24)
    obtain ⟨w3, hw3⟩ : ∃ w3, w3 = w2.alloc (.cells #[.int .u64 (x : Int), .string t] 24) := ⟨_, rfl⟩
    rw [← hw3] at R0 R1 R2
    rw [← hw3]
    have Q3 := Lib.hid (keepB Q2.out R2)
    have HB3 := Lib.hid (HB2.out.trans (R2.mono HB2.out.size))
    have X3 := Lib.hid R1
    clear hw3 R0 R1 R2
    refine (ref_Read a s2 l2 _ h2).mono ?_
    rintro e w4 ⟨he2, hb⟩
    obtain rfl := rdVal_of he2
    rw [hsh]
    have HB4 := Lib.hid (HB3.out.trans (hb.mono HB3.out.size))
    have Q4 := Lib.hid (keepB Q3.out hb)
    have X4 := Lib.hid (keepB X3.out hb)
    clear hb he2
    go_wp2_with fail
    obtain ⟨R0, R1, R2⟩ := new1 w4 (.cells #[.int .u64 (x : Int), .string t] 24)
    obtain ⟨w5, hw5⟩ : ∃ w5, w5 = w4.alloc (.cells #[.int .u64 (x : Int), .string t] 24) := ⟨_, rfl⟩
    rw [← hw5] at R0 R1 R2
    rw [← hw5]
    have Q5 := Lib.hid (keepB Q4.out R2)
    have X5 := Lib.hid (keepB X4.out R2)
    have HB5 := Lib.hid (HB4.out.trans (R2.mono HB4.out.size))
    have Y5 := Lib.hid R1
    clear hw5 R0 R1 R2
    refine (law04_alive _ (hL.later HB5.out).l3.tabs).mono ?_
    rintro e w6 ⟨rfl, hb⟩
    have HB6 := Lib.hid (HB5.out.trans (hb.mono HB5.out.size))
    have q6 := keepB Q5.out hb
    have x6 := keepB X5.out hb
    have y6 := keepB Y5.out hb
    have c0 := new_cellC (i := 0) q6 rfl
    have c1 := new_cellC (i := 1) q6 rfl
    have x0 := new_cellC (i := 0) x6 rfl
    have x1 := new_cellC (i := 1) x6 rfl
    have y0 := new_cellC (i := 0) y6 rfl
    have y1 := new_cellC (i := 1) y6 rfl
    have Q6 := Lib.hid q6
    clear hb q6 x6 y6 hsh
    go_wp2_with fail
    rw [← hcv]
    refine (ref_Check a n s1 l1 _ h1 ha hn).mono ?_
    rintro e w7 ⟨rfl, hb⟩
    have HB7 := Lib.hid (HB6.out.trans (hb.mono HB6.out.size))
    rw [he]
    have q7 := keepB Q6.out hb
    clear c0 c1 x0 x1 y0 y1
    have c0 := new_cellC (i := 0) q7 rfl
    have c1 := new_cellC (i := 1) q7 rfl
    clear q7
    have hk := check_zero he
    have hb0 := hk.1
    have hb2 := hk.2.2.2.1
    clear hk
    go_wp2_with fail
    rw [← hcv]
    refine (ref_Text a n s1 l1 _ hb0 hn (fun h => by have := hb2 h; omega) h1 (by omega)).mono ?_
    rintro e w8 ⟨⟨t2, rfl, ht2⟩, hb'⟩
    have HB8 := Lib.hid (HB7.out.trans (hb'.mono HB7.out.size))
    obtain rfl : t1 = t2 := by rw [HT1.out.eq, ht2.eq]
    clear hb hb' ht2 hb2
    go_wp2
    go_ret
    exact ⟨rfl, HB8.out⟩
  · go_enter Tryz.func3, Tryz.ntmps3
    go_wp2_with fail
    rw [← hw0]
    clear hw0
    go_wp2_with fail
    rw [← hcv]
    refine (cell_TextE a n s1 l1 _ h1 hL0.l3.tabs he).mono ?_
    rintro e w1 ⟨rfl, hb⟩
    have HB1 := Lib.hid (HB0.out.trans (hb.mono HB0.out.size))
    have Q1 := Lib.hid (keepB Q0.out hb)
    clear hb c0 c1
    go_wp2_with fail
    refine (cell_Read a s2 l2 _ h2 (hL.later HB1.out)).mono ?_
    rintro e w2 ⟨he2, hb⟩
    obtain rfl := rdVal_of he2
    rw [readR_eq, hsh]
    have HB2 := Lib.hid (HB1.out.trans (hb.mono HB1.out.size))
    have Q2 := Lib.hid (keepB Q1.out hb)
    clear hb he2
    go_wp2_with fail
    obtain ⟨R0, R1, R2⟩ := new1 w2 (.cells #[.int .u64 (x : Int), .string t] 24)
    obtain ⟨w3, hw3⟩ : ∃ w3, w3 = w2.alloc (.cells #[.int .u64 (x : Int), .string t] 24) := ⟨_, rfl⟩
    rw [← hw3] at R0 R1 R2
    rw [← hw3]
    have Q3 := Lib.hid (keepB Q2.out R2)
    have HB3 := Lib.hid (HB2.out.trans (R2.mono HB2.out.size))
    have X3 := Lib.hid R1
    clear hw3 R0 R1 R2
    refine (ref_Read a s2 l2 _ h2).mono ?_
    rintro e w4 ⟨he2, hb⟩
    obtain rfl := rdVal_of he2
    rw [hsh]
    have HB4 := Lib.hid (HB3.out.trans (hb.mono HB3.out.size))
    have Q4 := Lib.hid (keepB Q3.out hb)
    have X4 := Lib.hid (keepB X3.out hb)
    clear hb he2
    go_wp2_with fail
    obtain ⟨R0, R1, R2⟩ := new1 w4 (.cells #[.int .u64 (x : Int), .string t] 24)
    obtain ⟨w5, hw5⟩ : ∃ w5, w5 = w4.alloc (.cells #[.int .u64 (x : Int), .string t] 24) := ⟨_, rfl⟩
    rw [← hw5] at R0 R1 R2
    rw [← hw5]
    have Q5 := Lib.hid (keepB Q4.out R2)
    have X5 := Lib.hid (keepB X4.out R2)
    have HB5 := Lib.hid (HB4.out.trans (R2.mono HB4.out.size))
    have Y5 := Lib.hid R1
    clear hw5 R0 R1 R2
    refine (law04_alive _ (hL.later HB5.out).l3.tabs).mono ?_
    rintro e w6 ⟨rfl, hb⟩
    have HB6 := Lib.hid (HB5.out.trans (hb.mono HB5.out.size))
    have q6 := keepB Q5.out hb
    have x6 := keepB X5.out hb
    have y6 := keepB Y5.out hb
    have c0 := new_cellC (i := 0) q6 rfl
    have c1 := new_cellC (i := 1) q6 rfl
    have x0 := new_cellC (i := 0) x6 rfl
    have x1 := new_cellC (i := 1) x6 rfl
    have y0 := new_cellC (i := 0) y6 rfl
    have y1 := new_cellC (i := 1) y6 rfl
    have Q6 := Lib.hid q6
    clear hb q6 x6 y6 hsh
    go_wp2_with fail
    rw [← hcv]
    refine (ref_Check a n s1 l1 _ h1 ha hn).mono ?_
    rintro e w7 ⟨rfl, hb⟩
    have HB7 := Lib.hid (HB6.out.trans (hb.mono HB6.out.size))
    have hz : (((checkC a n l1 : Nat) : Int) != 0) = true := by simp; omega
    clear hb
    go_wp2
    go_ret
    exact ⟨rfl, HB7.out⟩

end Go.Proofs.YtdegeifklchjaaaGreatDoor
