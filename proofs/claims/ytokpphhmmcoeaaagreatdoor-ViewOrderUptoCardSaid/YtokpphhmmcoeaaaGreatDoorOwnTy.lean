/-
  Slices of the call's own: of what type their block is; while another block turns.
-/
import Derived.Test.YtokpphhmmcoeaaaGreatDoorGBaseB
set_option linter.unusedVariables false
set_option linter.unusedSimpArgs false
set_option maxRecDepth 1000000
namespace Go.Proofs.YtokpphhmmcoeaaaGreatDoor
open Go.RowKit

/-- A slice of bytes of the call's own, while another block turns. -/
theorem Own.grown {w w' : World} {base : Nat} {v : Value} {l : List UInt8} (h : Own w base v l) {r : Option Nat} (hg : w.grownBy w' r) (hne : ∀ k, v.ownBlock = some k → some k ≠ r) : Own w' base v l := by
  refine ⟨h.1, ?_⟩
  rcases h.2 with h2 | ⟨g, cap, cur, rfl, hbg, hgg, q⟩
  · exact .inl h2
  · refine .inr ⟨g, cap, cur, rfl, hbg, ?_, q⟩
    rw [hg.block g (Array.getElem?_eq_some_iff.1 hgg).1 (hne g rfl)]; exact hgg
theorem Own.own_type {w : World} {base q : Nat} {v : Value} {l : List UInt8} (h : Own w base v l) (hq : v.ownBlock = some q) : ∃ cur, w.heap[q]? = some (.cells cur 5 (0, 0)) := by
  rcases h.2 with ⟨rfl, hn⟩ | ⟨g, cap, cur, rfl, hbg, hgg, _⟩
  · cases hq
  · cases hq; exact ⟨_, hgg⟩
theorem own_block_lt {w : World} {base : Nat} {v : Value} {l : List UInt8} (h : Own w base v l) : ∀ b, v.ownBlock = some b → b < w.heap.size := fun b hb => (World.ownsRow.lt h b hb).2
theorem OwnG.own_type {E : Elt} {w : World} {base q : Nat} {v : Value} {vs : List (List Value)} (h : OwnG E w base v vs) (hq : v.ownBlock = some q) : ∃ cur, w.heap[q]? = some (.cells cur E.T (0, 0)) := by
  rcases h.1.2 with ⟨rfl, hn⟩ | ⟨g, cap, cur, rfl, hbg, hgg, _⟩
  · cases hq
  · cases hq; exact ⟨_, hgg⟩
theorem Own.lit {w : World} {base : Nat} {v : Value} {l : List UInt8} (h : Own w base v l) : ∃ ao n cap, v = .slice ao n cap := by
  rcases h.2 with ⟨rfl, hn⟩ | ⟨g, cap, cur, rfl, hbg, hgg, _⟩
  · exact ⟨_, _, _, rfl⟩
  · exact ⟨_, _, _, rfl⟩

end Go.Proofs.YtokpphhmmcoeaaaGreatDoor
