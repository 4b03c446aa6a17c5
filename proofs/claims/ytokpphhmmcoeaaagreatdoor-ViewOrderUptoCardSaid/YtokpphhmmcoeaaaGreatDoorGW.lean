/-
  Layer 7: a sum of 128 bits, and its walks; the document's sum in parts.
-/
import Derived.Test.YtokpphhmmcoeaaaGreatDoorGBaseA
import Derived.IntWalk
import Derived.Laws.Externs
import Derived.Deep.QuietTactic
import Derived.BigQuiet
import Derived.WalkSmall
import Derived.StillTailTactics
set_option linter.unusedVariables false
set_option linter.unusedSimpArgs false
set_option maxRecDepth 1000000
namespace Go.Proofs.YtokpphhmmcoeaaaGreatDoor
open Go.RowKit

/-! ## What no program's text reaches -/

/-- Of a number x the higher and the lower 64 bits. -/
def hiX (x : Int) : Int := (x / 18446744073709551616) % 18446744073709551616
def loX (x : Int) : Int := x % 18446744073709551616
def sgX (a : Int) : Int := if a < 0 then 18446744073709551615 else 0
def exV (x : Int) : Value := .agg #[.int .u64 (hiX x), .int .u64 (loX x)]
/-- The sum of all. -/
def tot : List Int → Int
  | [] => 0
  | a :: r => a + tot r
/-- What is told of a sum: the number, the error. -/
def wV (x : Int) : Int := if -9223372036854775808 ≤ x ∧ x ≤ 9223372036854775807 then x else 0
def wE (x : Int) : Int := if -9223372036854775808 ≤ x ∧ x ≤ 9223372036854775807 then 0 else 12
def i64 (x : Int) : Prop := -9223372036854775808 ≤ x ∧ x ≤ 9223372036854775807

theorem hiX_b (x : Int) : 0 ≤ hiX x ∧ hiX x ≤ 18446744073709551615 := by unfold hiX; omega
theorem loX_b (x : Int) : 0 ≤ loX x ∧ loX x ≤ 18446744073709551615 := by unfold loX; omega
theorem lo_plus (x a : Int) : (loX x + loX a) % 18446744073709551616 = loX (x + a) := by unfold loX; omega
theorem hi_plus (x a : Int) (ha : i64 a) : (hiX x + sgX a + (loX x + loX a) / 18446744073709551616) % 18446744073709551616 = hiX (x + a) := by
  obtain ⟨h1, h2⟩ := ha
  unfold hiX sgX loX; split <;> omega
theorem tot_append (a b : List Int) : tot (a ++ b) = tot a + tot b := by
  induction a with
  | nil => simp [tot]
  | cons x r ih => simp [tot, ih]; omega
theorem tot_bound : ∀ (l : List Int), (∀ x ∈ l, i64 x) → -(9223372036854775808 * (l.length : Int)) ≤ tot l ∧ tot l ≤ 9223372036854775808 * (l.length : Int)
  | [], _ => by simp [tot]
  | a :: r, h => by
    have ih := tot_bound r (fun x hx => h x (by simp [hx]))
    have ha := h a (by simp)
    unfold i64 at ha
    simp only [tot, List.length_cons]
    push_cast
    omega
theorem wV_b (x : Int) : -9223372036854775808 ≤ wV x ∧ wV x ≤ 9223372036854775807 := by unfold wV; split <;> omega
theorem wE_b (x : Int) : wE x = 0 ∨ wE x = 12 := by unfold wE; split <;> simp
/-- The lower bits as a number with a sign. -/
def lowI (x : Int) : Int := if loX x < 9223372036854775808 then loX x else loX x - 18446744073709551616
theorem lowI_b (x : Int) : -9223372036854775808 ≤ lowI x ∧ lowI x ≤ 9223372036854775807 := by have := loX_b x; unfold lowI; split <;> omega
theorem fits (x : Int) (h : -170141183460469231731687303715884105728 ≤ x ∧ x < 170141183460469231731687303715884105728) : hiX x = sgX (lowI x) ↔ i64 x := by
  unfold i64 sgX lowI hiX loX
  constructor
  · intro h1; split at h1 <;> split at h1 <;> omega
  · intro h1; split <;> split <;> omega
theorem low_of (x : Int) (h : i64 x) : lowI x = x := by
  unfold i64 at h; unfold lowI loX; split <;> omega

/-! ## The walks -/

theorem bits_Add64 (x y c : Int) (hx : 0 ≤ x) (hy : 0 ≤ y) (hc0 : 0 ≤ c) (hc : c ≤ 1) (w : World) :
    (callFunc 114 #[.int .u64 x, .int .u64 y, .int .u64 c]).run Tryz.prog w =
      .ok (.value (.tuple #[.int .u64 ((x + y + c) % 18446744073709551616), .int .u64 ((x + y + c) / 18446744073709551616)])) w := by
  have := run_callFunc_extern (P := Tryz.prog) (f := 114) (e := add64Entry) Tryz.func114 (by kernel_rfl) (by kernel_rfl) (by kernel_rfl) (by kernel_rfl) #[.int .u64 x, .int .u64 y, .int .u64 c] w
  rw [this, run_add64 x y c hx hy hc0 hc]
  rfl

theorem weight_sign (a : Int) (h : i64 a) (w : World) :
    Calls Tryz.prog 115 #[.int .i64 a] w fun e w' => e = .returned (.int .u64 (sgX a)) ∧ w = w' := by
  obtain ⟨h1, h2⟩ := h
  have e1 : IntKind.u64.wrap (a / 9223372036854775808) = sgX a := by
    unfold sgX
    split
    · have : a / 9223372036854775808 = -1 := by omega
      rw [this]; rfl
    · have : a / 9223372036854775808 = 0 := by omega
      rw [this]; rfl
  go_enter Tryz.func115, Tryz.ntmps115
  go_wp2
  go_ret
  exact ⟨rfl, rfl⟩

theorem weight_sign_q (a : Int) (h : i64 a) (w : World) :
    Calls Tryz.prog 115 #[.int .i64 a] w fun e w' => e = .returned (.int .u64 (sgX a)) ∧ w' = w :=
  (weight_sign a h w).mono fun _ _ h => ⟨h.1, h.2.symm⟩

theorem wrap_lo (a : Int) : IntKind.u64.wrap a = loX a := by simp [IntKind.wrap, IntKind.bits, IntKind.signed, loX]

theorem weight_plus (x a : Int) (h : i64 a) (w : World) :
    Calls Tryz.prog 96 #[exV x, .int .i64 a] w fun e w' => e = .returned (exV (x + a)) ∧ Below w.heap.size w w' := by
  obtain ⟨hx1, hx2⟩ := hiX_b x
  obtain ⟨lx1, lx2⟩ := loX_b x
  obtain ⟨la1, la2⟩ := loX_b a
  have hs : 0 ≤ sgX a ∧ sgX a ≤ 18446744073709551615 := by unfold sgX; split <;> omega
  have hp := hi_plus x a h
  have lp := lo_plus x a
  unfold exV
  rw [← hp, ← lp]
  have hw := wrap_lo a
  generalize hiX x = H at *
  generalize loX x = L at *
  generalize loX a = A at *
  have a1 := fun u => bits_Add64 L A 0 lx1 la1 (by omega) (by omega) u
  simp only [Int.add_zero] at a1
  have a2 := fun u => bits_Add64 H (sgX a) ((L + A) / 18446744073709551616) hx1 hs.1 (by omega) (by omega) u
  generalize (L + A) / 18446744073709551616 = C at *
  generalize (L + A) % 18446744073709551616 = M at *
  generalize (H + sgX a + C) % 18446744073709551616 = R at *
  generalize (H + sgX a + C) / 18446744073709551616 = O at *
  clear hx1 hx2 lx1 lx2 la1 la2 hs hp lp
  go_enter Tryz.func96, Tryz.ntmps96
  go_wp2
  go_quiet (first | (go_at_call 115; refine Calls.quiet_of_same (weight_sign_q a h _)))
  go_wp2
  refine bodyPost_ret (by simp [results, Tryz.results96, go_sem]; try rfl) rfl ?_
  exact ⟨rfl, ((below_drewN (((Below.refl w.heap.size w).alloc (Nat.le_refl _) _).alloc (by simp) _) _).setCell (by simp) _).setCell (by simp) _⟩

theorem wrap_low (x : Int) : IntKind.i64.wrap (loX x) = lowI x := by
  have h := loX_b x
  rw [IntKind.wrap_i64]; unfold lowI; split <;> omega

theorem weight_weight (x : Int) (hx : -170141183460469231731687303715884105728 ≤ x ∧ x < 170141183460469231731687303715884105728) (w : World) :
    Calls Tryz.prog 97 #[exV x] w fun e w' => e = .returned (.tuple #[.int .i64 (wV x), .int .i64 (wE x)]) ∧ Below w.heap.size w w' := by
  have hf := fits x hx
  have hlow := low_of x
  have hwl := wrap_low x
  have hlb := lowI_b x
  have hq := fun u => weight_sign_q (lowI x) hlb u
  unfold exV
  by_cases h : i64 x
  · have e1 : hiX x = sgX (lowI x) := hf.2 h
    rw [show wV x = x from if_pos h, show wE x = 0 from if_pos h]
    rw [hlow h] at e1 hwl hq
    rw [e1]
    clear hf hlow hlb hx h e1
    generalize sgX x = S at *
    generalize loX x = L at *
    go_enter Tryz.func97, Tryz.ntmps97
    go_wp2
    go_quiet (first | (go_at_call 115; refine Calls.quiet_of_same (hq _)))
    go_wp2
    go_ret2
    exact ⟨rfl, below_drewN ((Below.refl w.heap.size w).alloc (Nat.le_refl _) _) _⟩
  · have e1 : hiX x ≠ sgX (lowI x) := fun h' => h (hf.1 h')
    rw [show wV x = 0 from if_neg h, show wE x = 12 from if_neg h]
    clear hf hlow hlb hx h
    generalize sgX (lowI x) = S at *
    generalize lowI x = M at *
    generalize loX x = L at *
    generalize hiX x = H at *
    have e2 : (H != S) = true := by simpa using e1
    clear e1
    go_enter Tryz.func97, Tryz.ntmps97
    go_wp2
    go_quiet (first | (go_at_call 115; refine Calls.quiet_of_same (hq _)))
    go_wp2
    go_ret2
    exact ⟨rfl, below_drewN ((Below.refl w.heap.size w).alloc (Nat.le_refl _) _) _⟩

/-! ### The sum of all -/

theorem RdI.nums {w : World} {v : Value} {l : List Int} (h : RdI .i64 w v l) : ∀ x ∈ l, i64 x := fun x hx => by
  have := h.wf x hx
  simpa [Lit.wf, IntKind.min, IntKind.max, IntKind.signed, IntKind.bits, i64] using this

theorem tot_snoc (l : List Int) (k : Nat) (h : k < l.length) : tot (l.take (k + 1)) = tot (l.take k) + atI l k := by
  rw [List.take_add_one, tot_append]
  simp [List.getElem?_eq_getElem h, tot, atI, List.getD]

theorem tot_small {l : List Int} (h : ∀ x ∈ l, i64 x) (hs : l.length ≤ 140737488351232) : -170141183460469231731687303715884105728 ≤ tot l ∧ tot l < 170141183460469231731687303715884105728 := by
  have := tot_bound l h
  omega

theorem rdI_built (w : World) (l : List Int) (hw : ∀ x ∈ l, i64 x) (T : TypeId) (hs : l.length ≤ 140737488351232) :
    RdI .i64 (w.alloc (.cells (l.map fun x => Value.int .i64 x).toArray T)) (.slice (some ⟨w.heap.size, 0, none⟩) l.length l.length) l := by
  refine ⟨⟨_, _, rfl, Nat.le_refl _, (by intro h; cases h), fun _ => ⟨_, _, rfl⟩⟩, fun i hi => ?_, fun n hn => ?_, hs⟩
  · have := cell_of_row _ _ i _ _ _ (heap_alloc_new w (.cells (l.map fun x => Value.int .i64 x).toArray T))
    have e : adr (.slice (some ⟨w.heap.size, 0, none⟩) l.length l.length) i = ⟨w.heap.size, i, none⟩ := by simp only [adr, Addr.add]; split <;> simp_all
    rw [e, this]
    simp [atI, List.getD, hi]
  · have := hw n hn
    simpa [Lit.wf, IntKind.min, IntKind.max, IntKind.signed, IntKind.bits, i64] using this

def ngV (a : Int) : Int := if a = -9223372036854775808 then 0 else -a
def ngE (a : Int) : Int := if a = -9223372036854775808 then 12 else 0

/-! ### A sum that goes on -/

/-- The Total in block g: of n weights, whose sum is x. -/
def TotR (w : World) (g : Nat) (x : Int) (n : Nat) : Prop := w.heap[g]? = some (.cells #[.int .u64 (hiX x), .int .u64 (loX x), .int .i64 (n : Int)] 116 (0, 0))

theorem total_Sum (g : Nat) (x : Int) (n : Nat) (hx : -170141183460469231731687303715884105728 ≤ x ∧ x < 170141183460469231731687303715884105728) (w : World) (h : TotR w g x n) :
    Calls Tryz.prog 64 #[.pointer (some ⟨g, 0, none⟩)] w fun e w' => e = .returned (.tuple #[.int .i64 (wV x), .int .i64 (wE x)]) ∧ Below w.heap.size w w' := by
  have c0 := cell_of_row _ _ 0 _ _ _ h
  have c1 := cell_of_row _ _ 1 _ _ _ h
  simp at c0 c1
  clear h
  go_enter Tryz.func64, Tryz.ntmps64
  go_wp2_with fail
  refine (weight_weight x hx _).mono ?_
  rintro e w1 ⟨rfl, hb⟩
  go_wp2
  go_ret2
  exact ⟨rfl, hb⟩

theorem total_Add (g : Nat) (x a : Int) (n : Nat) (ha : i64 a) (hn : n ≤ 140737488351232) (w : World) (h : TotR w g x n) :
    Calls Tryz.prog 63 #[.pointer (some ⟨g, 0, none⟩), .int .i64 a] w fun e w' => e = .returned (.int .i64 0) ∧ TotR w' g (x + a) (n + 1) ∧ Only (fun j => j = g) w w' := by
  have c0 := cell_of_row _ _ 0 _ _ _ h
  have c1 := cell_of_row _ _ 1 _ _ _ h
  simp at c0 c1
  have HG := Lib.hid h
  clear h
  go_enter Tryz.func63, Tryz.ntmps63
  go_wp2_with fail
  refine (weight_plus x a ha _).mono ?_
  rintro e w1 ⟨rfl, hb⟩
  have hg1 : w1.heap[g]? = _ := (hb.block _ (Array.getElem?_eq_some_iff.1 HG.out).1).trans HG.out
  have d0 := cell_of_row _ _ 0 _ _ _ hg1
  have d1 := cell_of_row _ _ 1 _ _ _ hg1
  have d2 := cell_of_row _ _ 2 _ _ _ hg1
  have f0 := frozen_of_row _ _ 0 _ _ hg1
  have f1 := frozen_of_row _ _ 1 _ _ hg1
  have f2 := frozen_of_row _ _ 2 _ _ hg1
  simp at d0 d1 d2
  have HG1 := Lib.hid hg1
  have HB := Lib.hid hb
  clear hg1 hb HG c0 c1
  unfold exV
  go_wp2
  go_ret
  refine ⟨rfl, ?_, ?_⟩
  · have := block_setCell (g := g) (k := 2) (block_setCell (g := g) (k := 1) (block_setCell (g := g) (k := 0) HG1.out (.int .u64 (hiX (x + a)))) (.int .u64 (loX (x + a)))) (.int .i64 ((n : Int) + 1))
    unfold TotR
    push_cast
    exact this
  · have h0 : Only (fun j => j = g) w w1 := (Only.refl _ _).below HB.out (Nat.le_refl _)
    exact ((h0.setCell (p := ⟨g, 0, none⟩) rfl _).setCell (p := ⟨g, 1, none⟩) rfl _).setCell (p := ⟨g, 2, none⟩) rfl _

/-! ### The document's example -/

end Go.Proofs.YtokpphhmmcoeaaaGreatDoor


/-
  Layer 7: the document's sum, in parts.
-/
namespace Go.Proofs.YtokpphhmmcoeaaaGreatDoor
open Go.RowKit

/-- A sum in parts. -/
def paH (x : Int) : Int := x / 4294967296
def paL (x : Int) : Int := x % 4294967296
def paV (x : Int) : Value := .agg #[.int .i64 (paH x), .int .i64 (paL x)]
/-- What the parts bear. -/
def paOk (x : Int) : Prop := -19807040628566084398385987584 ≤ x ∧ x ≤ 19807040628566084398385987584

theorem ref_Plus (x a : Int) (hx : paOk x) (ha : i64 a) (w : World) :
    Calls Tryz.prog 69 #[paV x, .int .i64 a] w fun e w' => e = .returned (paV (x + a)) ∧ Below w.heap.size w w' := by
  obtain ⟨x1, x2⟩ := hx
  obtain ⟨a1, a2⟩ := ha
  have hL : 0 ≤ paL x ∧ paL x ≤ 4294967295 := by unfold paL; omega
  have hH : -4611686018427387904 ≤ paH x ∧ paH x ≤ 4611686018427387904 := by unfold paH; omega
  obtain ⟨l1, l2⟩ := hL
  obtain ⟨h1, h2⟩ := hH
  have hw := wrap_lo a
  obtain ⟨m, hm, m1, m2⟩ : ∃ m, loX a % 4294967296 = m ∧ 0 ≤ m ∧ m ≤ 4294967295 := ⟨_, rfl, by unfold loX; omega, by unfold loX; omega⟩
  obtain ⟨q, hq, q1, q2⟩ : ∃ q, a / 4294967296 = q ∧ -2147483648 ≤ q ∧ q ≤ 2147483647 := ⟨_, rfl, by omega, by omega⟩
  have la := loX_b a
  obtain ⟨la1, la2⟩ := la
  have e1 : paH x + q + (paL x + m) / 4294967296 = paH (x + a) := by unfold paH paL loX at *; omega
  have e2 : (paL x + m) % 4294967296 = paL (x + a) := by unfold paL loX at *; omega
  unfold paV
  rw [← e1, ← e2]
  clear e1 e2
  generalize paH x = H at *
  generalize paL x = L at *
  generalize loX a = A at *
  have i1 : -9223372036854775808 ≤ H + q ∧ H + q ≤ 9223372036854775807 := by omega
  have i2 : -9223372036854775808 ≤ H + q + (L + m) / 4294967296 ∧ H + q + (L + m) / 4294967296 ≤ 9223372036854775807 := by omega
  go_enter Tryz.func69, Tryz.ntmps69
  go_wp2
  refine bodyPost_ret (by simp [results, Tryz.results69, go_sem]; try rfl) rfl ?_
  exact ⟨rfl, ((Below.refl w.heap.size w).alloc (Nat.le_refl _) _).alloc (by simp) _⟩

theorem pa_in (x : Int) : i64 x ↔ -2147483648 ≤ paH x ∧ paH x ≤ 2147483647 := by unfold i64 paH; omega
theorem pa_num (x : Int) : paH x * 4294967296 + paL x = x := by unfold paH paL; omega

theorem ref_Whole_in (x : Int) (hx : i64 x) (w : World) :
    Calls Tryz.prog 70 #[paV x] w fun e w' => e = .returned (.tuple #[.int .i64 x, .bool true]) ∧ Below w.heap.size w w' := by
  obtain ⟨h1, h2⟩ := (pa_in x).1 hx
  have hn := pa_num x
  have hL : 0 ≤ paL x ∧ paL x ≤ 4294967295 := by unfold paL; omega
  unfold paV
  obtain ⟨x1, x2⟩ := hx
  generalize paH x = H at *
  generalize paL x = L at *
  subst hn
  have c1 : decide (H < -2147483648) = false := decide_eq_false (by omega)
  have c2 : decide (2147483647 < H) = false := decide_eq_false (by omega)
  obtain ⟨l1, l2⟩ := hL
  go_enter Tryz.func70, Tryz.ntmps70
  go_wp2
  go_ret2
  exact ⟨rfl, (Below.refl w.heap.size w).alloc (Nat.le_refl _) _⟩

theorem ref_Whole_out (x : Int) (hx : ¬ i64 x) (w : World) :
    Calls Tryz.prog 70 #[paV x] w fun e w' => e = .returned (.tuple #[.int .i64 0, .bool false]) ∧ Below w.heap.size w w' := by
  have h : ¬ (-2147483648 ≤ paH x ∧ paH x ≤ 2147483647) := fun h => hx ((pa_in x).2 h)
  unfold paV
  generalize paH x = H at *
  generalize paL x = L at *
  by_cases c1 : H < -2147483648
  · have c1 : decide (H < -2147483648) = true := decide_eq_true c1
    go_enter Tryz.func70, Tryz.ntmps70
    go_wp2
    go_ret2
    exact ⟨rfl, (Below.refl w.heap.size w).alloc (Nat.le_refl _) _⟩
  · have c2 : decide (2147483647 < H) = true := decide_eq_true (by omega)
    have c1 : decide (H < -2147483648) = false := decide_eq_false c1
    go_enter Tryz.func70, Tryz.ntmps70
    go_wp2
    go_ret2
    exact ⟨rfl, (Below.refl w.heap.size w).alloc (Nat.le_refl _) _⟩

theorem ref_Whole (x : Int) (w : World) :
    Calls Tryz.prog 70 #[paV x] w fun e w' => e = .returned (.tuple #[.int .i64 (wV x), .bool (wE x == 0)]) ∧ Below w.heap.size w w' := by
  by_cases h : i64 x
  · rw [show wV x = x from if_pos h, show wE x = 0 from if_pos h]
    exact ref_Whole_in x h w
  · rw [show wV x = 0 from if_neg h, show wE x = 12 from if_neg h]
    exact ref_Whole_out x h w

theorem paOk_take {l : List Int} (h : ∀ x ∈ l, i64 x) (hs : l.length ≤ 2000) (k : Nat) : paOk (tot (l.take k)) := by
  have h1 := tot_bound (l.take k) (fun x hx => h x (List.mem_of_mem_take hx))
  have h2 : (l.take k).length ≤ 2000 := by simp; omega
  unfold paOk
  omega

end Go.Proofs.YtokpphhmmcoeaaaGreatDoor

