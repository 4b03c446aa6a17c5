/-
  Layer 7: a sum of 128 bits, and its walks; the document's sum in parts.
-/
import Derived.Test.YtedfcnlhdicipaaDoorGBaseA
import Derived.IntWalk
import Derived.Laws.Externs
import Derived.Deep.QuietTactic
import Derived.BigQuiet
import Derived.WalkSmall
import Derived.StillTailTactics
set_option linter.unusedVariables false
set_option linter.unusedSimpArgs false
set_option maxRecDepth 1000000
namespace Go.Proofs.YtedfcnlhdicipaaDoor
open Go.RowKit

/-! ## What no program's text reaches -/

/-- Of a number x the higher and the lower 64 bits. -/
def hiX (x : Int) : Int := (x / 18446744073709551616) % 18446744073709551616
def loX (x : Int) : Int := x % 18446744073709551616
def sgX (a : Int) : Int := if a < 0 then 18446744073709551615 else 0
def exV (x : Int) : Value := .agg #[.int .u64 (hiX x), .int .u64 (loX x)]
/-- The sum of all. -/
def tot : List Int → Int
  | [] => 0
  | a :: r => a + tot r
/-- What is told of a sum: the number, the error. -/
def wV (x : Int) : Int := if -9223372036854775808 ≤ x ∧ x ≤ 9223372036854775807 then x else 0
def wE (x : Int) : Int := if -9223372036854775808 ≤ x ∧ x ≤ 9223372036854775807 then 0 else 12
def i64 (x : Int) : Prop := -9223372036854775808 ≤ x ∧ x ≤ 9223372036854775807

theorem hiX_b (x : Int) : 0 ≤ hiX x ∧ hiX x ≤ 18446744073709551615 := by unfold hiX; omega
theorem loX_b (x : Int) : 0 ≤ loX x ∧ loX x ≤ 18446744073709551615 := by unfold loX; omega
theorem lo_plus (x a : Int) : (loX x + loX a) % 18446744073709551616 = loX (x + a) := by unfold loX; omega
theorem hi_plus (x a : Int) (ha : i64 a) : (hiX x + sgX a + (loX x + loX a) / 18446744073709551616) % 18446744073709551616 = hiX (x + a) := by
  obtain ⟨h1, h2⟩ := ha
  unfold hiX sgX loX; split <;> omega
theorem tot_append (a b : List Int) : tot (a ++ b) = tot a + tot b := by
  induction a with
  | nil => simp [tot]
  | cons x r ih => simp [tot, ih]; omega
theorem tot_bound : ∀ (l : List Int), (∀ x ∈ l, i64 x) → -(9223372036854775808 * (l.length : Int)) ≤ tot l ∧ tot l ≤ 9223372036854775808 * (l.length : Int)
  | [], _ => by simp [tot]
  | a :: r, h => by
    have ih := tot_bound r (fun x hx => h x (by simp [hx]))
    have ha := h a (by simp)
    unfold i64 at ha
    simp only [tot, List.length_cons]
    push_cast
    omega
theorem wV_b (x : Int) : -9223372036854775808 ≤ wV x ∧ wV x ≤ 9223372036854775807 := by unfold wV; split <;> omega
theorem wE_b (x : Int) : wE x = 0 ∨ wE x = 12 := by unfold wE; split <;> simp
/-- The lower bits as a number with a sign. -/
def lowI (x : Int) : Int := if loX x < 9223372036854775808 then loX x else loX x - 18446744073709551616
theorem lowI_b (x : Int) : -9223372036854775808 ≤ lowI x ∧ lowI x ≤ 9223372036854775807 := by have := loX_b x; unfold lowI; split <;> omega
theorem fits (x : Int) (h : -170141183460469231731687303715884105728 ≤ x ∧ x < 170141183460469231731687303715884105728) : hiX x = sgX (lowI x) ↔ i64 x := by
  unfold i64 sgX lowI hiX loX
  constructor
  · intro h1; split at h1 <;> split at h1 <;> omega
  · intro h1; split <;> split <;> omega
theorem low_of (x : Int) (h : i64 x) : lowI x = x := by
  unfold i64 at h; unfold lowI loX; split <;> omega

/-! ## The walks -/

theorem wrap_lo (a : Int) : IntKind.u64.wrap a = loX a := by simp [IntKind.wrap, IntKind.bits, IntKind.signed, loX]

theorem wrap_low (x : Int) : IntKind.i64.wrap (loX x) = lowI x := by
  have h := loX_b x
  rw [IntKind.wrap_i64]; unfold lowI; split <;> omega

/-! ### The sum of all -/

theorem RdI.nums {w : World} {v : Value} {l : List Int} (h : RdI .i64 w v l) : ∀ x ∈ l, i64 x := fun x hx => by
  have := h.wf x hx
  simpa [Lit.wf, IntKind.min, IntKind.max, IntKind.signed, IntKind.bits, i64] using this

theorem tot_snoc (l : List Int) (k : Nat) (h : k < l.length) : tot (l.take (k + 1)) = tot (l.take k) + atI l k := by
  rw [List.take_add_one, tot_append]
  simp [List.getElem?_eq_getElem h, tot, atI, List.getD]

theorem tot_small {l : List Int} (h : ∀ x ∈ l, i64 x) (hs : l.length ≤ 140737488351232) : -170141183460469231731687303715884105728 ≤ tot l ∧ tot l < 170141183460469231731687303715884105728 := by
  have := tot_bound l h
  omega

theorem rdI_built (w : World) (l : List Int) (hw : ∀ x ∈ l, i64 x) (T : TypeId) (hs : l.length ≤ 140737488351232) :
    RdI .i64 (w.alloc (.cells (l.map fun x => Value.int .i64 x).toArray T)) (.slice (some ⟨w.heap.size, 0, none⟩) l.length l.length) l := by
  refine ⟨⟨_, _, rfl, Nat.le_refl _, (by intro h; cases h), fun _ => ⟨_, _, rfl⟩⟩, fun i hi => ?_, fun n hn => ?_, hs⟩
  · have := cell_of_row _ _ i _ _ _ (heap_alloc_new w (.cells (l.map fun x => Value.int .i64 x).toArray T))
    have e : adr (.slice (some ⟨w.heap.size, 0, none⟩) l.length l.length) i = ⟨w.heap.size, i, none⟩ := by simp only [adr, Addr.add]; split <;> simp_all
    rw [e, this]
    simp [atI, List.getD, hi]
  · have := hw n hn
    simpa [Lit.wf, IntKind.min, IntKind.max, IntKind.signed, IntKind.bits, i64] using this

def ngV (a : Int) : Int := if a = -9223372036854775808 then 0 else -a
def ngE (a : Int) : Int := if a = -9223372036854775808 then 12 else 0

/-! ### A sum that goes on -/

/-! ### The document's example -/

end Go.Proofs.YtedfcnlhdicipaaDoor


/-
  Layer 7: the document's sum, in parts.
-/
namespace Go.Proofs.YtedfcnlhdicipaaDoor
open Go.RowKit

/-- A sum in parts. -/
def paH (x : Int) : Int := x / 4294967296
def paL (x : Int) : Int := x % 4294967296
def paV (x : Int) : Value := .agg #[.int .i64 (paH x), .int .i64 (paL x)]
/-- What the parts bear. -/
def paOk (x : Int) : Prop := -19807040628566084398385987584 ≤ x ∧ x ≤ 19807040628566084398385987584

theorem pa_in (x : Int) : i64 x ↔ -2147483648 ≤ paH x ∧ paH x ≤ 2147483647 := by unfold i64 paH; omega
theorem pa_num (x : Int) : paH x * 4294967296 + paL x = x := by unfold paH paL; omega

theorem paOk_take {l : List Int} (h : ∀ x ∈ l, i64 x) (hs : l.length ≤ 2000) (k : Nat) : paOk (tot (l.take k)) := by
  have h1 := tot_bound (l.take k) (fun x hx => h x (List.mem_of_mem_take hx))
  have h2 : (l.take k).length ≤ 2000 := by simp; omega
  unfold paOk
  omega

end Go.Proofs.YtedfcnlhdicipaaDoor

