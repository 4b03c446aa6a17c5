/-
  Layer 8's laws, in lists (no program in it): sums of sets, their other signs.
-/
import Derived.Test.YteiphdcgffapbaaGreatDoorGZDefs
set_option linter.unusedVariables false
set_option linter.unusedSimpArgs false
set_option maxRecDepth 1000000
namespace Go.Proofs.YteiphdcgffapbaaGreatDoor
open Go.RowKit Go.Shelf

section
variable {cs : List ColB} {ps qs a b c : List PairB}

/-- A set, as Check asks for it. -/
def Zs (cs : List ColB) (a : List PairB) : Prop := PSO a ∧ chkZ cs a = 0
theorem Zs.set (h : Zs cs a) : Z.isSet (Vr cs) (cmpR cs) a := ((chkZ_zero h.1).1 h.2).2.2
theorem Zs.few (h : Zs cs a) : a.length ≤ 1024 := ((chkZ_zero h.1).1 h.2).2.1
theorem Zs.schema (h : Zs cs a) : errS (colsL cs) = 0 := ((chkZ_zero h.1).1 h.2).1
theorem Zs.of (hP : PSO a) (h1 : errS (colsL cs) = 0) (h2 : a.length ≤ 1024) (h3 : Z.isSet (Vr cs) (cmpR cs) a) : Zs cs a := ⟨hP, (chkZ_zero hP).2 ⟨h1, h2, h3⟩⟩
theorem Zs.w64 (h : Zs cs a) (r : List CellB) : i64 (Z.sumW a r) := by
  by_cases hr : Z.has a r
  · obtain ⟨p, hp, rfl⟩ := hr
    rw [Z.sumW_mem (to_row cs) h.set.srt h.set.all p hp]; exact (h.1 p hp).2
  · rw [Z.sumW_no fun p hp e => hr ⟨p, hp, e⟩]; exact i64_zero
theorem Zs.ext (ha : Zs cs a) (hb : Zs cs b) (h : ∀ r, Z.sumW a r = Z.sumW b r) : a = b := Z.set_ext (to_row cs) ha.set hb.set h

/-- Pairs whose sums are a set's are collected, and are that set. -/
theorem clc_as (hP : PSO ps) (hV : Z.AllV (Vr cs) ps) (hc : Zs cs c) (h : ∀ r, Z.sumW ps r = Z.sumW c r) : clcE cs ps = 0 ∧ clcO cs ps = c := by
  have e : canonC cs ps = c := Z.canon_of (to_row cs) hV hc.set (fun r => (h r).symm)
  have h0 : clcE cs ps = 0 := (clcE_zero hP).2 ⟨hc.schema, hV, fun r => by rw [h r]; exact hc.w64 r, by rw [e]; exact hc.few⟩
  exact ⟨h0, by unfold clcO; rw [if_pos h0]; exact e⟩
theorem Zs.all (h : Zs cs a) : Z.AllV (Vr cs) a := h.set.all
theorem allV_app (h1 : Z.AllV (Vr cs) a) (h2 : Z.AllV (Vr cs) b) : Z.AllV (Vr cs) (a ++ b) := fun p hp => by
  rcases List.mem_append.1 hp with hp | hp
  · exact h1 p hp
  · exact h2 p hp
theorem sumE_of (ha : Zs cs a) (hb : Zs cs b) : sumE cs a b = clcE cs (a ++ b) ∧ sumO cs a b = clcO cs (a ++ b) := by
  have e : sumE cs a b = clcE cs (a ++ b) := by unfold sumE; rw [if_neg (fun h => h ha.2), if_neg (fun h => h hb.2)]
  exact ⟨e, by unfold sumO clcO; rw [e]⟩
theorem sum_as (ha : Zs cs a) (hb : Zs cs b) (hc : Zs cs c) (h : ∀ r, Z.sumW a r + Z.sumW b r = Z.sumW c r) : sumE cs a b = 0 ∧ sumO cs a b = c := by
  obtain ⟨e1, e2⟩ := sumE_of ha hb
  rw [e1, e2]
  exact clc_as (ha.1.append hb.1) (allV_app ha.all hb.all) hc (fun r => by rw [Z.sumW_append, h])
theorem nil_set (h : errS (colsL cs) = 0) : Zs cs [] := Zs.of (fun p hp => by simp at hp) h (by simp) Z.isSet.nil

end

end Go.Proofs.YteiphdcgffapbaaGreatDoor


/-
  What layer 12 tells of entries, in lists (no program in it).
-/
namespace Go.Proofs.YteiphdcgffapbaaGreatDoor
open Go.RowKit Go.Shelf

/-- An entry: its kind, its number, its pairs. -/
abbrev EntB := Int × Int × List PairB
def EnO (x : EntB) : Prop := inW x.1 ∧ inW x.2.1 ∧ PSO x.2.2
/-- What Check answers. -/
def entE (cs : List ColB) (x : EntB) : Nat :=
  if errS (colsL cs) ≠ 0 then errS (colsL cs) else if x.1 < 0 ∨ 1 < x.1 then 10 else if x.2.1 < 0 ∨ 281474976710656 < x.2.1 then 3 else chkZ cs x.2.2
/-- What Apply answers: the error, the number, the view. -/
def apE (cs : List ColB) (seq : Int) (view : List PairB) (x : EntB) : Nat :=
  if chkZ cs view ≠ 0 then chkZ cs view else if seq < 0 ∨ 281474976710656 < seq then 3 else if entE cs x ≠ 0 then entE cs x
  else if (x.1 = 0 ∧ x.2.1 ≠ seq + 1) ∨ (x.1 = 1 ∧ x.2.1 ≠ seq) then 14
  else if x.1 = 1 then (if x.2.2 = view then 0 else 15) else sumE cs view x.2.2
def apN (cs : List ColB) (seq : Int) (view : List PairB) (x : EntB) : Int := if apE cs seq view x = 0 then x.2.1 else 0
def apV (cs : List ColB) (seq : Int) (view : List PairB) (x : EntB) : List PairB :=
  if apE cs seq view x = 0 then (if x.1 = 1 then view else sumO cs view x.2.2) else []

section
variable {cs : List ColB} {x : EntB}

theorem entE_zero : entE cs x = 0 ↔ errS (colsL cs) = 0 ∧ (x.1 = 0 ∨ x.1 = 1) ∧ (0 ≤ x.2.1 ∧ x.2.1 ≤ 281474976710656) ∧ chkZ cs x.2.2 = 0 := by
  unfold entE
  by_cases h1 : errS (colsL cs) = 0
  · rw [if_neg (by simpa using h1)]
    by_cases h2 : x.1 < 0 ∨ 1 < x.1
    · rw [if_pos h2]
      exact ⟨fun h => (by cases h), fun h => (by omega)⟩
    · rw [if_neg h2]
      by_cases h3 : x.2.1 < 0 ∨ 281474976710656 < x.2.1
      · rw [if_pos h3]
        exact ⟨fun h => (by cases h), fun h => (by omega)⟩
      · rw [if_neg h3]
        exact ⟨fun h => ⟨h1, by omega, by omega, h⟩, fun h => h.2.2.2⟩
  · rw [if_pos h1]
    exact ⟨fun h => absurd h h1, fun h => absurd h.1 h1⟩
/-- A view that is a set, and none besides. -/
theorem sum_none {view : List PairB} (h : Zs cs view) : sumE cs view [] = 0 ∧ sumO cs view [] = view :=
  sum_as h (nil_set h.schema) h (fun r => by simp [Z.sumW])

end

end Go.Proofs.YteiphdcgffapbaaGreatDoor

