/-
  Layer 12's laws, in lists (no program in it): changes one behind the other.
-/
import Derived.Test.YtokpphhmmcoeaaaGreatDoorGEnt
set_option linter.unusedVariables false
set_option linter.unusedSimpArgs false
set_option maxRecDepth 1000000
namespace Go.Proofs.YtokpphhmmcoeaaaGreatDoor
open Go.RowKit Go.Shelf

section
variable {cs : List ColB} {view a b ps : List PairB} {s k : Int}

theorem ent_ok (ha : Zs cs a) (hk : k = 0 ∨ k = 1) (hs : 0 ≤ s ∧ s ≤ 281474976710656) : entE cs (k, s, a) = 0 := entE_zero.2 ⟨ha.schema, hk, hs, ha.2⟩
/-- A change that follows. -/
theorem ap_delta (hv : Zs cs view) (ha : Zs cs a) (hs : 0 ≤ s ∧ s + 1 ≤ 281474976710656) :
    apE cs s view (0, s + 1, a) = sumE cs view a ∧ (sumE cs view a = 0 → apN cs s view (0, s + 1, a) = s + 1) ∧ apV cs s view (0, s + 1, a) = sumO cs view a := by
  have e : apE cs s view (0, s + 1, a) = sumE cs view a := by
    unfold apE
    rw [if_neg (fun h => h hv.2), if_neg (by omega), ent_ok ha (.inl rfl) (by omega), if_neg (fun h => h rfl), if_neg (by dsimp only; omega), if_neg (by simp)]
  refine ⟨e, fun h => ?_, ?_⟩
  · unfold apN; rw [e, if_pos h]
  · unfold apV
    rw [e]
    by_cases h : sumE cs view a = 0
    · rw [if_pos h, if_neg (by simp)]
    · rw [if_neg h]; unfold sumO; rw [if_neg h]
/-- A snapshot of the number. -/
theorem ap_snap (hv : Zs cs view) (ha : Zs cs a) (hs : 0 ≤ s ∧ s ≤ 281474976710656) :
    apE cs s view (1, s, a) = (if a = view then 0 else 15) ∧ (a = view → apN cs s view (1, s, a) = s ∧ apV cs s view (1, s, a) = view) := by
  have e : apE cs s view (1, s, a) = (if a = view then 0 else 15) := by
    unfold apE
    rw [if_neg (fun h => h hv.2), if_neg (by omega), ent_ok ha (.inr rfl) (by omega), if_neg (fun h => h rfl), if_neg (by dsimp only; omega), if_pos rfl]
  refine ⟨e, fun h => ?_⟩
  rw [if_pos h] at e
  constructor
  · unfold apN; rw [e, if_pos rfl]
  · unfold apV; rw [e, if_pos rfl, if_pos rfl]

/-- What is known of a view, and of all pairs that came to it. -/
def Fold (cs : List ColB) (view all : List PairB) : Prop := PSO all ∧ ((all = [] ∧ view = []) ∨ (Zs cs view ∧ Z.AllV (Vr cs) all ∧ ∀ r, Z.sumW view r = Z.sumW all r))
theorem Fold.nil : Fold cs [] [] := ⟨fun p hp => absurd hp (by simp), .inl ⟨rfl, rfl⟩⟩
theorem Fold.set (h : Fold cs view ps) (hS : errS (colsL cs) = 0) : Zs cs view := by
  rcases h.2 with ⟨_, rfl⟩ | ⟨h1, _⟩
  · exact nil_set hS
  · exact h1
theorem Fold.sum (h : Fold cs view ps) (r : List CellB) : Z.sumW view r = Z.sumW ps r := by
  rcases h.2 with ⟨rfl, rfl⟩ | ⟨_, _, h1⟩
  · rfl
  · exact h1 r
theorem Fold.next {p : List PairB} (h : Fold cs view ps) (hp : PSO p) (h0 : clcE cs p = 0) (h1 : sumE cs view (clcO cs p) = 0) : Fold cs (sumO cs view (clcO cs p)) (ps ++ p) := by
  obtain ⟨z1, z2, z3⟩ := clc_ok hp h0
  have hv := h.set z1.schema
  obtain ⟨z4, z5⟩ := sum_ok hv z1 h1
  refine ⟨fun q hq => ?_, .inr ⟨z4, ?_, fun r => ?_⟩⟩
  · rcases List.mem_append.1 hq with hq | hq
    · exact h.1 q hq
    · exact hp q hq
  · refine allV_app ?_ z3
    rcases h.2 with ⟨rfl, _⟩ | ⟨_, h2, _⟩
    · intro q hq; exact absurd hq (by simp)
    · exact h2
  · rw [z5, z2, Z.sumW_append, h.sum]
theorem Fold.end (h : Fold cs view ps) : (ps.length = 0 ∧ view.length = 0) ∨ (clcE cs ps = 0 ∧ clcO cs ps = view) := by
  rcases h.2 with ⟨rfl, rfl⟩ | ⟨h1, h2, h3⟩
  · exact .inl ⟨rfl, rfl⟩
  · exact .inr (clc_as h.1 h2 h1 (fun r => (h3 r).symm))
/-- A change and its other sign. -/
theorem sign_back (hv : Zs cs view) (ha : Zs cs a) (h1 : negE cs a = 0) (h2 : sumE cs view a = 0) :
    Zs cs (sumO cs view a) ∧ Zs cs (negO cs a) ∧ sumE cs (sumO cs view a) (negO cs a) = 0 ∧ sumO cs (sumO cs view a) (negO cs a) = view := by
  obtain ⟨z1, _, z3⟩ := neg_ok ha h1
  obtain ⟨z4, z5⟩ := sum_ok hv ha h2
  obtain ⟨z6, z7⟩ := sum_as z4 z1 hv (fun r => by rw [z5, z3]; omega)
  exact ⟨z4, z1, z6, z7⟩
theorem sum_three (hv : Zs cs view) (ha : Zs cs a) : sumE cs view a = 0 ∨ sumE cs view a = 12 ∨ sumE cs view a = 13 := by
  rw [(sumE_of hv ha).1]
  exact clcE_three (fun p hp => (allV_app hv.all ha.all p hp).1) hv.schema
end

end Go.Proofs.YtokpphhmmcoeaaaGreatDoor
