/-
  Pairs of which no cell lies in a given set of blocks; slices of a call's own beside others.
-/
import Derived.Test.YtokpphhmmcoeaaaGreatDoorOwnTy
import Derived.Test.YtokpphhmmcoeaaaGreatDoorGBaseB
set_option linter.unusedVariables false
set_option linter.unusedSimpArgs false
set_option maxRecDepth 1000000
namespace Go.Proofs.YtokpphhmmcoeaaaGreatDoor
open Go.RowKit

theorem hidOnly {S : Nat → Prop} {w w' : World} {B : Nat} (h : Below B w w') (hB : w.heap.size ≤ B) : Only S w w' := (Only.refl S w).below h hB

/-- Pairs of which no cell lies in a block of Q. -/
def OffS (w : World) (v : Value) (ps : List PairB) (Q : Nat → Prop) : Prop :=
  ∃ ts : List TriB, ps = ts.map (·.2) ∧ RdG pairE w v (ts.map triV) ∧ (∀ t ∈ ts, RdE w t.1 t.2.1) ∧ (∀ i, i < ts.length → ¬ Q (adr v (i * 2)).block) ∧ ∀ t ∈ ts, ∀ i, i < t.2.1.length → ¬ Q (adr t.1 (i * 2)).block
section
variable {w w' : World} {v : Value} {ps : List PairB} {Q Q' : Nat → Prop}
theorem OffS.rd (h : OffS w v ps Q) : RdP w v ps := by
  obtain ⟨ts, e, h1, h2, _⟩ := h
  exact ⟨ts, e, h1, h2⟩
theorem OffS.keep (h : OffS w v ps Q) (hk : ∀ j, j < w.heap.size → ¬ Q j → w'.heap[j]? = w.heap[j]?) : OffS w' v ps Q := by
  obtain ⟨ts, e, h1, h2, h3, h4⟩ := h
  refine ⟨ts, e, RdG.same h1 fun i hi => ?_, fun t ht => RdG.same (h2 t ht) fun i hi => ?_, h3, h4⟩
  · have hi' : i < ts.length := by simpa using hi
    exact hk _ (RdG.block h1 pairOk hi) (h3 i hi')
  · have hi' : i < t.2.1.length := by simpa using hi
    exact hk _ (RdG.block (h2 t ht) cellOk hi) (h4 t ht i hi')
theorem OffS.more (h : OffS w v ps Q) (hk : ∀ j, j < w.heap.size → ¬ Q j → ¬ Q' j) : OffS w v ps Q' := by
  obtain ⟨ts, e, h1, h2, h3, h4⟩ := h
  refine ⟨ts, e, h1, h2, fun i hi => hk _ (RdG.block h1 pairOk (i := i) (by simpa using hi)) (h3 i hi), fun t ht i hi => hk _ (RdG.block (h2 t ht) cellOk (i := i) (by simpa using hi)) (h4 t ht i hi)⟩
theorem NewP.offS {base : Nat} (h : NewP w base v ps) (hk : ∀ j, base ≤ j → ¬ Q j) : OffS w v ps Q := by
  obtain ⟨ts, e, h1, h2, h3⟩ := h
  exact ⟨ts, e, h1, fun t ht => (h3 t ht).1, fun i hi => hk _ (h2 i hi), fun t ht i hi => hk _ ((h3 t ht).2 i hi)⟩
theorem OffS.later (h : OffS w v ps Q) (hb : Below w.heap.size w w') : OffS w' v ps Q := h.keep fun j hj _ => hb.block j hj
theorem OffS.nil (w : World) (Q : Nat → Prop) : OffS w (.slice none 0 0) [] Q := ⟨[], rfl, RdG.nil pairE w, by simp, by simp, by simp⟩
end
theorem Own.only13 {w w' : World} {base : Nat} {v : Value} {l : List UInt8} {S : Nat → Prop} (h : Own w base v l) (hO : Only S w w') (hq : ∀ q, base ≤ q → ¬ S q) : Own w' base v l := by
  refine ⟨h.1, ?_⟩
  rcases h.2 with h2 | ⟨g, cap, cur, rfl, hbg, hg, r⟩
  · exact .inl h2
  · exact .inr ⟨g, cap, cur, rfl, hbg, hO.keep hg (hq g hbg), r⟩
theorem OwnG.lit13 {E : Elt} {w : World} {base : Nat} {v : Value} {vs : List (List Value)} (h : OwnG E w base v vs) : ∃ ao n cap, v = .slice ao n cap := by
  rcases h.1.2 with ⟨rfl, _⟩ | ⟨g, cap, cur, rfl, _⟩
  · exact ⟨_, _, _, rfl⟩
  · exact ⟨_, _, _, rfl⟩
/-- A slice of the call's own, where blocks of S alone turn. -/
theorem OwnG.stay {E : Elt} {w w' : World} {base : Nat} {v : Value} {vs : List (List Value)} {S : Nat → Prop} (h : OwnG E w base v vs) (hO : Only S w w') (hq : ∀ q, v.ownBlock = some q → ¬ S q) : OwnG E w' base v vs := by
  refine ⟨⟨h.1.1, ?_⟩, h.2⟩
  rcases h.1.2 with h2 | ⟨g, cap, cur, rfl, hbg, hg, r⟩
  · exact .inl h2
  · exact .inr ⟨g, cap, cur, rfl, hbg, hO.keep hg (hq g rfl), r⟩
/-- A block of another type isn't its own one. -/
theorem OwnG.notOf {E : Elt} {w : World} {base q : Nat} {v : Value} {vs : List (List Value)} {a : Array Value} {T : TypeId} {f : Nat × Nat} (h : OwnG E w base v vs) (hq : w.heap[q]? = some (.cells a T f)) (hT : E.T ≠ T) : v.ownBlock ≠ some q := fun e => by
  obtain ⟨c, hc⟩ := h.own_type e
  rw [hq] at hc
  injection hc with hc
  injection hc with _ h3 _
  exact hT h3.symm
theorem OwnG.apart {E F : Elt} {w : World} {b1 b2 q : Nat} {v u : Value} {vs us : List (List Value)} (h : OwnG E w b1 v vs) (k : OwnG F w b2 u us) (hT : E.T ≠ F.T) (hq : v.ownBlock = some q) : u.ownBlock ≠ some q := fun e => by
  obtain ⟨c, hc⟩ := h.own_type hq
  exact k.notOf hc (fun e => hT e.symm) e

end Go.Proofs.YtokpphhmmcoeaaaGreatDoor
