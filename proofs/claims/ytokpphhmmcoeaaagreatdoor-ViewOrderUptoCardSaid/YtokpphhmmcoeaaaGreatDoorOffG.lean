/-
  Structs of which none lies in a given set of blocks; what others may turn.
-/
import Derived.Test.YtokpphhmmcoeaaaGreatDoorOffS
set_option linter.unusedVariables false
set_option linter.unusedSimpArgs false
set_option maxRecDepth 1000000
namespace Go.Proofs.YtokpphhmmcoeaaaGreatDoor
open Go.RowKit

/-- Structs in a slice, of which none lies in a block of Q. -/
def OffG (E : Elt) (w : World) (v : Value) (vs : List (List Value)) (Q : Nat → Prop) : Prop := RdG E w v vs ∧ ∀ i, i < vs.length → ¬ Q (adr v (i * E.n)).block
section
variable {E : Elt} {w w' : World} {v : Value} {vs : List (List Value)} {Q Q' : Nat → Prop}
theorem OffG.keep (h : OffG E w v vs Q) (hE : E.Ok) (hk : ∀ j, j < w.heap.size → ¬ Q j → w'.heap[j]? = w.heap[j]?) : OffG E w' v vs Q :=
  ⟨h.1.same fun i hi => hk _ (h.1.block hE hi) (h.2 i hi), h.2⟩
theorem OffG.more (h : OffG E w v vs Q) (hE : E.Ok) (hk : ∀ j, j < w.heap.size → ¬ Q j → ¬ Q' j) : OffG E w v vs Q' :=
  ⟨h.1, fun i hi => hk _ (h.1.block hE hi) (h.2 i hi)⟩
theorem OffG.old (h : RdG E w v vs) (hE : E.Ok) (hQ : ∀ j, j < w.heap.size → ¬ Q j) : OffG E w v vs Q := ⟨h, fun i hi => hQ _ (h.block hE hi)⟩
/-- Where a slice's own elements lie. -/
theorem OwnG.where14 {base : Nat} (h : OwnG E w base v vs) {i : Nat} (hi : i < vs.length) : v.ownBlock = some (adr v (i * E.n)).block ∧ base ≤ (adr v (i * E.n)).block := by
  rcases h.1.2 with ⟨rfl, hn⟩ | ⟨g, cap, cur, rfl, hbg, _⟩
  · omega
  · rw [adr_lit]; exact ⟨rfl, hbg⟩
theorem OwnG.off {base : Nat} (h : OwnG E w base v vs) (hs : vs.length ≤ 140737488351232) (hQ : ∀ j, base ≤ j → ¬ Q j) : OffG E w v vs Q :=
  ⟨h.rd hs, fun i hi => hQ _ (h.where14 hi).2⟩
end
theorem Only.only14 {S T : Nat → Prop} {w w' : World} (h : Only S w w') (hT : ∀ j, j < w.heap.size → S j → T j) : Only T w w' :=
  ⟨h.os, h.tape, h.output, h.size, fun j h1 h2 => h.block j h1 (fun hs => h2 (hT j h1 hs))⟩
theorem Only.by14 {w w' : World} {r : Option Nat} (k : w.grownBy w' r) : Only (fun j => r = some j) w w' := ⟨k.os, k.tape, k.output, k.size, fun j h1 h2 => k.block j h1 (fun e => h2 e.symm)⟩
/-- A slice of the call's own, where blocks of S alone turn. -/
theorem Own.stay {w w' : World} {base : Nat} {v : Value} {l : List UInt8} {S : Nat → Prop} (h : Own w base v l) (hO : Only S w w') (hq : ∀ q, v.ownBlock = some q → ¬ S q) : Own w' base v l := by
  refine ⟨h.1, ?_⟩
  rcases h.2 with h2 | ⟨g, cap, cur, rfl, hbg, hg, r⟩
  · exact .inl h2
  · exact .inr ⟨g, cap, cur, rfl, hbg, hO.keep hg (hq g rfl), r⟩
theorem Own.lt14 {w : World} {base : Nat} {v : Value} {l : List UInt8} (h : Own w base v l) {k : Nat} (hk : v.ownBlock = some k) : base ≤ k ∧ k < w.heap.size := World.ownsRow.lt h k hk

end Go.Proofs.YtokpphhmmcoeaaaGreatDoor
