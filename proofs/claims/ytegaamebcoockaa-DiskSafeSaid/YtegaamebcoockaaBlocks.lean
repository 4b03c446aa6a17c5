/-
  Blocks that a call makes, and old blocks of which some alone may turn. No program.
-/
import Derived.WalkKit
import Derived.Below
set_option linter.unusedVariables false
set_option linter.unusedSimpArgs false
set_option maxRecDepth 1000000
namespace Go.Proofs.Ytegaamebcoockaa
open Go.RowKit

/-- Blocks from lo on, but g, are as they were. -/
structure Kept (lo g : Nat) (w w' : World) : Prop where
  size : w.heap.size ≤ w'.heap.size
  block : ∀ j, lo ≤ j → j < w.heap.size → j ≠ g → w'.heap[j]? = w.heap[j]?

theorem Kept.refl (lo g : Nat) (w : World) : Kept lo g w w := ⟨Nat.le_refl _, fun _ _ _ _ => rfl⟩
theorem Kept.trans {lo g : Nat} {a b c : World} (h : Kept lo g a b) (k : Kept lo g b c) : Kept lo g a c :=
  ⟨Nat.le_trans h.size k.size, fun j h1 h2 h3 => (k.block j h1 (Nat.lt_of_lt_of_le h2 h.size) h3).trans (h.block j h1 h2 h3)⟩
theorem Kept.grown {lo g : Nat} {a b c : World} (h : Kept lo g a b) (k : b.grownBy c (some g)) : Kept lo g a c :=
  h.trans ⟨k.size, fun j _ h2 h3 => k.block j h2 (fun e => h3 (by injection e))⟩
theorem Kept.below {lo g B : Nat} {a b c : World} (h : Kept lo g a b) (k : Below B b c) (hB : b.heap.size ≤ B) : Kept lo g a c :=
  h.trans ⟨k.size, fun j _ h2 _ => k.block j (by omega)⟩
theorem Kept.setCell {lo g : Nat} {a b : World} (h : Kept lo g a b) {p : Addr} (hp : p.block < lo) (u : Value) : Kept lo g a (b.setCell p u) :=
  h.trans ⟨by simp [World.setCell], fun j h1 _ _ => Below.heap_setCell _ _ _ _ (by omega)⟩
theorem Kept.alloc {lo g : Nat} {a b : World} (h : Kept lo g a b) (o : Obj) : Kept lo g a (b.alloc o) :=
  h.trans ⟨by simp, fun j _ h2 _ => Below.heap_alloc _ _ _ h2⟩
theorem Kept.drew {lo g : Nat} {a b : World} (h : Kept lo g a b) : Kept lo g a b.drew := ⟨h.size, h.block⟩

/-- Of what was there, blocks of S alone may have turned. -/
structure Only (S : Nat → Prop) (w w' : World) : Prop where
  os : w'.os = w.os
  tape : w'.tape = w.tape
  output : w'.output = w.output
  size : w.heap.size ≤ w'.heap.size
  block : ∀ j, j < w.heap.size → ¬ S j → w'.heap[j]? = w.heap[j]?

theorem Only.refl (S : Nat → Prop) (w : World) : Only S w w := ⟨rfl, rfl, rfl, Nat.le_refl _, fun _ _ _ => rfl⟩
theorem Only.trans {S : Nat → Prop} {a b c : World} (h : Only S a b) (k : Only S b c) : Only S a c :=
  ⟨k.os.trans h.os, k.tape.trans h.tape, k.output.trans h.output, Nat.le_trans h.size k.size, fun j h1 h2 => (k.block j (Nat.lt_of_lt_of_le h1 h.size) h2).trans (h.block j h1 h2)⟩
theorem Only.mono {S T : Nat → Prop} {a b : World} (h : Only S a b) (hT : ∀ j, S j → T j) : Only T a b :=
  ⟨h.os, h.tape, h.output, h.size, fun j h1 h2 => h.block j h1 (fun hs => h2 (hT j hs))⟩
theorem Only.grown {S : Nat → Prop} {a b c : World} {g : Nat} (h : Only S a b) (k : b.grownBy c (some g)) (hg : S g) : Only S a c :=
  h.trans ⟨k.os, k.tape, k.output, k.size, fun j h1 h2 => k.block j h1 (fun e => h2 (by injection e with e; rw [e]; exact hg))⟩
theorem Only.below {S : Nat → Prop} {a b c : World} {B : Nat} (h : Only S a b) (k : Below B b c) (hB : b.heap.size ≤ B) : Only S a c :=
  h.trans ⟨k.os, k.tape, k.output, k.size, fun j h1 _ => k.block j (Nat.lt_of_lt_of_le h1 hB)⟩
theorem Only.setCell {S : Nat → Prop} {a b : World} (h : Only S a b) {p : Addr} (hp : S p.block) (u : Value) : Only S a (b.setCell p u) :=
  h.trans ⟨rfl, rfl, rfl, by simp [World.setCell], fun j _ h2 => Below.heap_setCell _ _ _ _ (fun e => h2 (by rw [e]; exact hp))⟩
theorem Only.alloc {S : Nat → Prop} {a b : World} (h : Only S a b) (o : Obj) : Only S a (b.alloc o) :=
  h.trans ⟨rfl, rfl, rfl, by simp, fun j h1 _ => Below.heap_alloc _ _ _ h1⟩
theorem Only.drew {S : Nat → Prop} {a b : World} (h : Only S a b) : Only S a b.drew := ⟨h.os, h.tape, h.output, h.size, h.block⟩
theorem Only.toBelow {S : Nat → Prop} {a b : World} (h : Only S a b) {B : Nat} (hB : ∀ j, S j → B ≤ j) (hs : B ≤ a.heap.size) : Below B a b :=
  ⟨h.os, h.tape, h.output, h.size, fun j h1 => h.block j (by omega) (fun hj => by have := hB j hj; omega)⟩
theorem Only.kept {S : Nat → Prop} {a b : World} (h : Only S a b) {lo g : Nat} (hS : ∀ j, S j → j < lo ∨ j = g) : Kept lo g a b :=
  ⟨h.size, fun j h1 h2 h3 => h.block j h2 (fun hj => by have := hS j hj; omega)⟩
theorem Only.keep {S : Nat → Prop} {a b : World} (h : Only S a b) {j : Nat} {o : Obj} (hj : a.heap[j]? = some o) (hn : ¬ S j) : b.heap[j]? = some o :=
  (h.block j (Array.getElem?_eq_some_iff.1 hj).1 hn).trans hj

/-- New blocks, one behind the other. -/
theorem new2 (w : World) (x y : Obj) : ((w.alloc x).alloc y).heap.size = w.heap.size + 2 ∧ ((w.alloc x).alloc y).heap[w.heap.size]? = some x ∧ ((w.alloc x).alloc y).heap[w.heap.size + 1]? = some y ∧ Below w.heap.size w ((w.alloc x).alloc y) := by
  refine ⟨by simp, ?_, ?_, ((Below.refl _ w).alloc (Nat.le_refl _) _).alloc (by simp) _⟩
  · rw [Below.heap_alloc _ _ _ (by simp)]; exact heap_alloc_new _ _
  · have := heap_alloc_new (w.alloc x) y
    simpa using this
theorem new3 (w : World) (x y z : Obj) : (((w.alloc x).alloc y).alloc z).heap.size = w.heap.size + 3 ∧ (((w.alloc x).alloc y).alloc z).heap[w.heap.size]? = some x ∧ (((w.alloc x).alloc y).alloc z).heap[w.heap.size + 1]? = some y ∧
    (((w.alloc x).alloc y).alloc z).heap[w.heap.size + 2]? = some z ∧ Below w.heap.size w (((w.alloc x).alloc y).alloc z) := by
  obtain ⟨h0, h1, h2, h3⟩ := new2 w x y
  refine ⟨by simp, ?_, ?_, ?_, h3.alloc (by omega) _⟩
  · rw [Below.heap_alloc _ _ _ (by omega)]; exact h1
  · rw [Below.heap_alloc _ _ _ (by omega)]; exact h2
  · rw [← h0]; exact heap_alloc_new _ _

/-- As many new blocks as there are. -/
theorem news (os : List Obj) : ∀ (w : World), (os.foldl World.alloc w).heap.size = w.heap.size + os.length ∧ (∀ i o, os[i]? = some o → (os.foldl World.alloc w).heap[w.heap.size + i]? = some o) ∧ Below w.heap.size w (os.foldl World.alloc w) := by
  induction os with
  | nil => exact fun w => ⟨rfl, fun i o h => by simp at h, Below.refl _ _⟩
  | cons a r ih =>
    intro w
    obtain ⟨h1, h2, h3⟩ := ih (w.alloc a)
    have hs : (w.alloc a).heap.size = w.heap.size + 1 := by simp
    rw [hs] at h1 h2 h3
    refine ⟨by simp only [List.foldl_cons, List.length_cons]; omega, fun i o h => ?_, ((Below.refl _ w).alloc (Nat.le_refl _) a).trans (h3.mono (by omega))⟩
    cases i with
    | zero =>
      simp only [List.getElem?_cons_zero, Option.some.injEq] at h
      subst h
      exact (h3.block _ (by omega)).trans (heap_alloc_new _ _)
    | succ i =>
      simp only [List.getElem?_cons_succ] at h
      have := h2 i o h
      rw [show w.heap.size + 1 + i = w.heap.size + (i + 1) from by omega] at this
      exact this

end Go.Proofs.Ytegaamebcoockaa
