/-
  Layer 10's laws: whether pairs are too many; contracts over all worlds behind the first.
-/
import Derived.Test.YtedfcnlhdicipaaGreatDoorBatAlive
import Derived.Test.YtedfcnlhdicipaaGreatDoorBatRead
import Derived.Test.YtedfcnlhdicipaaGreatDoorBatBack
import Derived.Test.YtedfcnlhdicipaaGreatDoorGZDefs
import Derived.Test.YtedfcnlhdicipaaGreatDoorZSameW
import Derived.Test.YtedfcnlhdicipaaGreatDoorGZProgA
set_option linter.unusedVariables false
set_option linter.unusedSimpArgs false
set_option maxRecDepth 1000000
namespace Go.Proofs.YtedfcnlhdicipaaGreatDoor
open Go.RowKit Go.Shelf

/-- What Great answers: 0, or 1. -/
def Bit10 (w : World) (e : Ending) (w' : World) : Prop := ∃ x : Int, e = .returned (.int .i64 x) ∧ (x = 0 ∨ x = 1) ∧ Below w.heap.size w w'
theorem new_one10 (w : World) (o : Obj) : (w.alloc o).heap[w.heap.size]? = some o ∧ Below w.heap.size w (w.alloc o) := ⟨heap_alloc_new _ _, (Below.refl _ _).alloc (Nat.le_refl _) _⟩
theorem great_some10 (vals : List Value) (pss : List (List PairB)) (w : World) (hn : vals.length ≤ 3) (hl : pss.length = vals.length) (hr : ∀ i, i < vals.length → RdP w (vals.getD i undef) (pss.getD i [])) :
    Calls Tryz.prog 9 #[.slice (some ⟨w.heap.size, 0, none⟩) vals.length vals.length] (w.alloc (.cells vals.toArray 23)) (Bit10 w) := by
  obtain ⟨N1, N2⟩ := new_one10 w (.cells vals.toArray 23)
  refine (law08_great _ vals pss _ (rdPs_block (vals := vals) N1 (by omega)) hn hl ?_).mono ?_
  · intro i hi wz hz
    exact (hr i hi).later (N2.trans (hz.mono N2.size)) (Nat.le_refl _)
  · rintro e w' ⟨x, rfl, hx, _, hb⟩
    exact ⟨x, rfl, hx, N2.trans (hb.mono N2.size)⟩
theorem great_one10 (v2 : Value) (a : List PairB) (w : World) (h2 : RdP w v2 a) :
    Calls Tryz.prog 9 #[.slice (some ⟨w.heap.size, 0, none⟩) 1 1] (w.alloc (.cells #[v2] 23)) (Bit10 w) :=
  great_some10 [v2] [a] w (by simp) rfl (fun i hi => by
    have hi : i < 1 := hi
    obtain rfl : i = 0 := by omega
    exact h2)
theorem great_two10 (v2 v3 : Value) (a b : List PairB) (w : World) (h2 : RdP w v2 a) (h3 : RdP w v3 b) :
    Calls Tryz.prog 9 #[.slice (some ⟨w.heap.size, 0, none⟩) 2 2] (w.alloc (.cells #[v2, v3] 23)) (Bit10 w) :=
  great_some10 [v2, v3] [a, b] w (by simp) rfl (fun i hi => by
    have hi : i < 2 := hi
    obtain rfl | rfl : i = 0 ∨ i = 1 := by omega
    · exact h2
    · exact h3)

/-- Contracts over a schema that was there at the beginning. -/
structure BatK (v1 : Value) (cs : List ColB) (w : World) : Prop where
  alive : ∀ wz, Below w.heap.size w wz → Calls Tryz.prog 8 #[] wz fun e w' => e = .returned (.bool true) ∧ Below wz.heap.size wz w'
  write : ∀ wz v ps, Below w.heap.size w wz → RdP wz v ps → PSO ps → Calls Tryz.prog 10 #[v1, v] wz fun e w' => ∃ b, e = .returned (.tuple #[b, .int .i64 (chkZ cs ps : Nat)]) ∧ Own w' wz.heap.size b (if chkZ cs ps = 0 then btWr (kindsL cs) (psL ps) else []) ∧ Below wz.heap.size wz w'
  read : ∀ wz v l, Below w.heap.size w wz → Rd wz v l → Calls Tryz.prog 14 #[v, v1] wz (RdO10 wz l (batS cs l 0))

theorem batK (v1 : Value) (cs : List ColB) (w : World) (hR : RdC w v1 cs) (hC : CS cs) (hT : Tabs w) : BatK v1 cs w := {
  alive := fun wz hz => law10_alive wz (hT.later hz)
  write := fun wz v ps hz h hp => batch_Write v1 v cs ps wz (hR.later hz (Nat.le_refl _)) h hC hp (hT.later hz)
  read := fun wz v l hz h => batch_Read v v1 l cs wz h (hR.later hz (Nat.le_refl _)) hC (hT.later hz) }

end Go.Proofs.YtedfcnlhdicipaaGreatDoor
