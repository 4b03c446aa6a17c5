/-
  Layer 8's laws, in lists (no program in it): sums of sets, their other signs.
-/
import Derived.Test.YtokpphhmmcoeaaaGreatDoorGZDefs
set_option linter.unusedVariables false
set_option linter.unusedSimpArgs false
set_option maxRecDepth 1000000
namespace Go.Proofs.YtokpphhmmcoeaaaGreatDoor
open Go.RowKit Go.Shelf

section
variable {cs : List ColB} {ps qs a b c : List PairB}

/-- A set, as Check asks for it. -/
def Zs (cs : List ColB) (a : List PairB) : Prop := PSO a ∧ chkZ cs a = 0
theorem Zs.set (h : Zs cs a) : Z.isSet (Vr cs) (cmpR cs) a := ((chkZ_zero h.1).1 h.2).2.2
theorem Zs.few (h : Zs cs a) : a.length ≤ 1024 := ((chkZ_zero h.1).1 h.2).2.1
theorem Zs.schema (h : Zs cs a) : errS (colsL cs) = 0 := ((chkZ_zero h.1).1 h.2).1
theorem Zs.of (hP : PSO a) (h1 : errS (colsL cs) = 0) (h2 : a.length ≤ 1024) (h3 : Z.isSet (Vr cs) (cmpR cs) a) : Zs cs a := ⟨hP, (chkZ_zero hP).2 ⟨h1, h2, h3⟩⟩
theorem Zs.w64 (h : Zs cs a) (r : List CellB) : i64 (Z.sumW a r) := by
  by_cases hr : Z.has a r
  · obtain ⟨p, hp, rfl⟩ := hr
    rw [Z.sumW_mem (to_row cs) h.set.srt h.set.all p hp]; exact (h.1 p hp).2
  · rw [Z.sumW_no fun p hp e => hr ⟨p, hp, e⟩]; exact i64_zero
theorem Zs.ext (ha : Zs cs a) (hb : Zs cs b) (h : ∀ r, Z.sumW a r = Z.sumW b r) : a = b := Z.set_ext (to_row cs) ha.set hb.set h

/-- What Collect answers without an error is a set, with the pairs' sums. -/
theorem clc_ok (hP : PSO ps) (h : clcE cs ps = 0) : Zs cs (clcO cs ps) ∧ (∀ r, Z.sumW (clcO cs ps) r = Z.sumW ps r) ∧ Z.AllV (Vr cs) ps := by
  obtain ⟨h1, h2, h3, h4⟩ := (clcE_zero hP).1 h
  have e : clcO cs ps = canonC cs ps := by unfold clcO; rw [if_pos h]
  rw [e]
  exact ⟨Zs.of (canon_pso hP h2 h3) h1 h4 (Z.canon_set (to_row cs) h2), Z.canon_sum (to_row cs) h2, h2⟩
/-- Pairs whose sums are a set's are collected, and are that set. -/
theorem clc_as (hP : PSO ps) (hV : Z.AllV (Vr cs) ps) (hc : Zs cs c) (h : ∀ r, Z.sumW ps r = Z.sumW c r) : clcE cs ps = 0 ∧ clcO cs ps = c := by
  have e : canonC cs ps = c := Z.canon_of (to_row cs) hV hc.set (fun r => (h r).symm)
  have h0 : clcE cs ps = 0 := (clcE_zero hP).2 ⟨hc.schema, hV, fun r => by rw [h r]; exact hc.w64 r, by rw [e]; exact hc.few⟩
  exact ⟨h0, by unfold clcO; rw [if_pos h0]; exact e⟩
/-- The error hangs on the sums alone, where all rows may be. -/
theorem clcE_eq (hP : PSO ps) (hQ : PSO qs) (h1 : Z.AllV (Vr cs) ps) (h2 : Z.AllV (Vr cs) qs) (h : ∀ r, Z.sumW ps r = Z.sumW qs r) : clcE cs ps = clcE cs qs := by
  have f1 : firstE cs ps = 0 := firstE_zero.2 fun p hp => (h1 p hp).1
  have f2 : firstE cs qs = 0 := firstE_zero.2 fun p hp => (h2 p hp).1
  have ec : canonC cs ps = canonC cs qs := Z.canon_eq (to_row cs) h1 h2 h
  have eo : overB (partsC cs ps) = overB (partsC cs qs) := by
    have g1 := Z.parts_all (to_row cs) h1 (I := i64) i64_zero
    have g2 := Z.parts_all (to_row cs) h2 (I := i64) i64_zero
    have : overB (partsC cs ps) = false ↔ overB (partsC cs qs) = false := by
      rw [overB_false, overB_false, g1, g2]
      constructor
      · intro hh r; rw [← h r]; exact hh r
      · intro hh r; rw [h r]; exact hh r
    cases h9 : overB (partsC cs ps) with
    | false => exact (this.1 h9).symm
    | true =>
      cases h8 : overB (partsC cs qs) with
      | false => rw [this.2 h8] at h9; cases h9
      | true => rfl
  unfold clcE
  rw [f1, f2, ec, eo]
theorem clcE_three (hV : ∀ p ∈ ps, errRow cs p.1 = 0) (hS : errS (colsL cs) = 0) : clcE cs ps = 0 ∨ clcE cs ps = 12 ∨ clcE cs ps = 13 := by
  have f1 : firstE cs ps = 0 := firstE_zero.2 hV
  unfold clcE
  rw [if_neg (fun h => h hS), if_neg (fun h => h f1)]
  split
  · exact .inr (.inl rfl)
  · split
    · exact .inr (.inr rfl)
    · exact .inl rfl

theorem Zs.all (h : Zs cs a) : Z.AllV (Vr cs) a := h.set.all
theorem allV_app (h1 : Z.AllV (Vr cs) a) (h2 : Z.AllV (Vr cs) b) : Z.AllV (Vr cs) (a ++ b) := fun p hp => by
  rcases List.mem_append.1 hp with hp | hp
  · exact h1 p hp
  · exact h2 p hp
theorem sumE_of (ha : Zs cs a) (hb : Zs cs b) : sumE cs a b = clcE cs (a ++ b) ∧ sumO cs a b = clcO cs (a ++ b) := by
  have e : sumE cs a b = clcE cs (a ++ b) := by unfold sumE; rw [if_neg (fun h => h ha.2), if_neg (fun h => h hb.2)]
  exact ⟨e, by unfold sumO clcO; rw [e]⟩
/-- What Sum answers. -/
theorem sum_ok (ha : Zs cs a) (hb : Zs cs b) (h : sumE cs a b = 0) : Zs cs (sumO cs a b) ∧ ∀ r, Z.sumW (sumO cs a b) r = Z.sumW a r + Z.sumW b r := by
  obtain ⟨e1, e2⟩ := sumE_of ha hb
  rw [e1] at h
  obtain ⟨h1, h2, _⟩ := clc_ok (ha.1.append hb.1) h
  rw [e2]
  exact ⟨h1, fun r => by rw [h2, Z.sumW_append]⟩
theorem sum_as (ha : Zs cs a) (hb : Zs cs b) (hc : Zs cs c) (h : ∀ r, Z.sumW a r + Z.sumW b r = Z.sumW c r) : sumE cs a b = 0 ∧ sumO cs a b = c := by
  obtain ⟨e1, e2⟩ := sumE_of ha hb
  rw [e1, e2]
  exact clc_as (ha.1.append hb.1) (allV_app ha.all hb.all) hc (fun r => by rw [Z.sumW_append, h])
theorem sum_flip (ha : Zs cs a) (hb : Zs cs b) : sumE cs a b = sumE cs b a ∧ sumO cs a b = sumO cs b a := by
  have e : sumE cs a b = sumE cs b a := by
    rw [(sumE_of ha hb).1, (sumE_of hb ha).1]
    exact clcE_eq (ha.1.append hb.1) (hb.1.append ha.1) (allV_app ha.all hb.all) (allV_app hb.all ha.all) (fun r => by rw [Z.sumW_append, Z.sumW_append]; omega)
  refine ⟨e, ?_⟩
  by_cases h : sumE cs a b = 0
  · obtain ⟨h1, h2⟩ := sum_ok ha hb h
    obtain ⟨h3, h4⟩ := sum_ok hb ha (e ▸ h)
    exact h1.ext h3 (fun r => by rw [h2, h4]; omega)
  · have h' : sumE cs b a ≠ 0 := e ▸ h
    unfold sumO; rw [if_neg h, if_neg h']
theorem nil_set (h : errS (colsL cs) = 0) : Zs cs [] := Zs.of (fun p hp => by simp at hp) h (by simp) Z.isSet.nil

theorem minB_false {l : List PairB} : minB l = false ↔ ∀ p ∈ l, p.2 ≠ -9223372036854775808 := by
  unfold minB
  rw [List.any_eq_false]
  constructor
  · intro h p hp e; exact h p hp (by simp [e])
  · intro h p hp e; exact h p hp (by simpa using e)
theorem neg_zero (ha : Zs cs a) : negE cs a = 0 ↔ ∀ p ∈ a, p.2 ≠ -9223372036854775808 := by
  unfold negE
  rw [if_neg (fun h => h ha.2), ← minB_false]
  cases minB a <;> simp
theorem neg_ok (ha : Zs cs a) (h : negE cs a = 0) : Zs cs (negO cs a) ∧ negO cs a = Z.negs a ∧ ∀ r, Z.sumW (negO cs a) r = -Z.sumW a r := by
  have e : negO cs a = Z.negs a := by unfold negO; rw [if_pos h]
  have hm := (neg_zero ha).1 h
  rw [e]
  refine ⟨Zs.of (fun p hp => ?_) ha.schema (by simpa [Z.negs] using ha.few) (Z.negs_set ha.set), rfl, Z.negs_sum a⟩
  obtain ⟨q, hq, rfl⟩ := List.mem_map.1 hp
  have h1 := ha.1 q hq
  have h2 := hm q hq
  have h3 := h1.2
  unfold inW at h3
  exact ⟨h1.1, by show -9223372036854775808 ≤ -q.2; omega, by show -q.2 ≤ 9223372036854775807; omega⟩
theorem neg_twice (ha : Zs cs a) (h : negE cs a = 0) : negE cs (negO cs a) = 0 ∧ negO cs (negO cs a) = a := by
  obtain ⟨h1, h2, _⟩ := neg_ok ha h
  have h0 : negE cs (negO cs a) = 0 := (neg_zero h1).2 fun p hp => by
    rw [h2] at hp
    obtain ⟨q, hq, rfl⟩ := List.mem_map.1 hp
    have := (ha.1 q hq).2
    unfold inW at this
    show -q.2 ≠ _
    omega
  refine ⟨h0, ?_⟩
  have e : ∀ x, negE cs x = 0 → negO cs x = Z.negs x := fun x hx => by unfold negO; rw [if_pos hx]
  rw [e _ h0, h2, Z.negs_negs]
/-- The other sign of a sum. -/
theorem neg_sum (ha : Zs cs a) (hb : Zs cs b) (h1 : negE cs a = 0) (h2 : negE cs b = 0) (h3 : sumE cs a b = 0) (h4 : sumE cs (negO cs a) (negO cs b) = 0) :
    negE cs (sumO cs a b) = 0 ∧ negO cs (sumO cs a b) = sumO cs (negO cs a) (negO cs b) := by
  obtain ⟨na, _, sa⟩ := neg_ok ha h1
  obtain ⟨nb, _, sb⟩ := neg_ok hb h2
  obtain ⟨s1, s2⟩ := sum_ok ha hb h3
  obtain ⟨t1, t2⟩ := sum_ok na nb h4
  have h0 : negE cs (sumO cs a b) = 0 := (neg_zero s1).2 fun p hp e => by
    have g1 := Z.sumW_mem (to_row cs) s1.set.srt s1.set.all p hp
    have g2 := t1.w64 p.1
    rw [t2, sa, sb] at g2
    rw [s2] at g1
    unfold i64 at g2
    omega
  obtain ⟨u1, _, u3⟩ := neg_ok s1 h0
  exact ⟨h0, u1.ext t1 (fun r => by rw [u3, s2, t2, sa, sb]; omega)⟩
end

end Go.Proofs.YtokpphhmmcoeaaaGreatDoor


/-
  What layer 12 tells of entries, in lists (no program in it).
-/
namespace Go.Proofs.YtokpphhmmcoeaaaGreatDoor
open Go.RowKit Go.Shelf

/-- An entry: its kind, its number, its pairs. -/
abbrev EntB := Int × Int × List PairB
def EnO (x : EntB) : Prop := inW x.1 ∧ inW x.2.1 ∧ PSO x.2.2
/-- What Check answers. -/
def entE (cs : List ColB) (x : EntB) : Nat :=
  if errS (colsL cs) ≠ 0 then errS (colsL cs) else if x.1 < 0 ∨ 1 < x.1 then 10 else if x.2.1 < 0 ∨ 281474976710656 < x.2.1 then 3 else chkZ cs x.2.2
/-- What Apply answers: the error, the number, the view. -/
def apE (cs : List ColB) (seq : Int) (view : List PairB) (x : EntB) : Nat :=
  if chkZ cs view ≠ 0 then chkZ cs view else if seq < 0 ∨ 281474976710656 < seq then 3 else if entE cs x ≠ 0 then entE cs x
  else if (x.1 = 0 ∧ x.2.1 ≠ seq + 1) ∨ (x.1 = 1 ∧ x.2.1 ≠ seq) then 14
  else if x.1 = 1 then (if x.2.2 = view then 0 else 15) else sumE cs view x.2.2
def apN (cs : List ColB) (seq : Int) (view : List PairB) (x : EntB) : Int := if apE cs seq view x = 0 then x.2.1 else 0
def apV (cs : List ColB) (seq : Int) (view : List PairB) (x : EntB) : List PairB :=
  if apE cs seq view x = 0 then (if x.1 = 1 then view else sumO cs view x.2.2) else []

section
variable {cs : List ColB} {x : EntB}

theorem entE_zero : entE cs x = 0 ↔ errS (colsL cs) = 0 ∧ (x.1 = 0 ∨ x.1 = 1) ∧ (0 ≤ x.2.1 ∧ x.2.1 ≤ 281474976710656) ∧ chkZ cs x.2.2 = 0 := by
  unfold entE
  by_cases h1 : errS (colsL cs) = 0
  · rw [if_neg (by simpa using h1)]
    by_cases h2 : x.1 < 0 ∨ 1 < x.1
    · rw [if_pos h2]
      exact ⟨fun h => (by cases h), fun h => (by omega)⟩
    · rw [if_neg h2]
      by_cases h3 : x.2.1 < 0 ∨ 281474976710656 < x.2.1
      · rw [if_pos h3]
        exact ⟨fun h => (by cases h), fun h => (by omega)⟩
      · rw [if_neg h3]
        exact ⟨fun h => ⟨h1, by omega, by omega, h⟩, fun h => h.2.2.2⟩
  · rw [if_pos h1]
    exact ⟨fun h => absurd h h1, fun h => absurd h.1 h1⟩
theorem entE_codes : entE cs x ≤ 13 := by
  have h1 := errS_codes (colsL cs)
  have h2 := chkZ_codes (cs := cs) (ps := x.2.2)
  unfold entE
  split
  · exact h1
  · split
    · omega
    · split
      · omega
      · exact h2
theorem sumE_codes {a b : List PairB} : sumE cs a b ≤ 13 := by
  have h1 := chkZ_codes (cs := cs) (ps := a)
  have h2 := chkZ_codes (cs := cs) (ps := b)
  have h3 := clcE_codes (cs := cs) (ps := a ++ b)
  unfold sumE
  split
  · exact h1
  · split
    · exact h2
    · exact h3
theorem apE_codes {seq : Int} {view : List PairB} : apE cs seq view x ≤ 15 := by
  have h1 := chkZ_codes (cs := cs) (ps := view)
  have h2 := entE_codes (cs := cs) (x := x)
  have h3 := sumE_codes (cs := cs) (a := view) (b := x.2.2)
  unfold apE
  repeat' split
  all_goals omega
/-- A view that is a set, and none besides. -/
theorem sum_none {view : List PairB} (h : Zs cs view) : sumE cs view [] = 0 ∧ sumO cs view [] = view :=
  sum_as h (nil_set h.schema) h (fun r => by simp [Z.sumW])

end

end Go.Proofs.YtokpphhmmcoeaaaGreatDoor

