/-
  What layer 8 tells of pairs, in lists (no program in it).
-/
import Derived.Test.YtfpidkcdgebnpaaGreatDoorGZPure
import Derived.Test.YtfpidkcdgebnpaaGreatDoorGBaseB
import Derived.Test.YtfpidkcdgebnpaaGreatDoorGLaws
import Derived.Test.YtfpidkcdgebnpaaGreatDoorGW
import Derived.Test.YtfpidkcdgebnpaaGreatDoorGRow
import Derived.Test.YtfpidkcdgebnpaaGreatDoorGBaseA
set_option linter.unusedVariables false
set_option linter.unusedSimpArgs false
set_option maxRecDepth 1000000
namespace Go.Proofs.YtfpidkcdgebnpaaGreatDoor
open Go.RowKit Go.Shelf

/-- A row that may be. -/
def Vr (cs : List ColB) (r : List CellB) : Prop := errRow cs r = 0 ∧ CES r
theorem to_row (cs : List ColB) : Z.TO (Vr cs) (cmpR cs) := by
  refine ⟨fun {a b} ha hb => ?_, fun {a b} ha hb => ?_, fun {a b c} ha hb hc h1 h2 => ?_⟩
  · rw [cmpR_row ha.1 hb.1]; exact cmpL_zero (okR_row ha.2 ha.1) (okR_row hb.2 hb.1)
  · rw [cmpR_row ha.1 hb.1, cmpR_row hb.1 ha.1]; exact cmpL_flip (okR_row ha.2 ha.1) (okR_row hb.2 hb.1)
  · rw [cmpR_row ha.1 hb.1] at h1
    rw [cmpR_row hb.1 hc.1] at h2
    rw [cmpR_row ha.1 hc.1]
    exact (cmpL_trans (okR_row ha.2 ha.1) (okR_row hb.2 hb.1) (okR_row hc.2 hc.1) (by omega) (by omega)).2 (.inl h1)

/-- What is wrong with pairs behind a row. -/
def chkF (cs : List ColB) : Option (List CellB) → List PairB → Nat
  | _, [] => 0
  | q, p :: t => if errRow cs p.1 ≠ 0 then errRow cs p.1 else if p.2 = 0 then 2 else
      match q with
      | some r => if 0 ≤ cmpR cs r p.1 then 9 else chkF cs (some p.1) t
      | none => chkF cs (some p.1) t
def chkZ (cs : List ColB) (ps : List PairB) : Nat := if errS (colsL cs) ≠ 0 then errS (colsL cs) else if 1024 < ps.length then 13 else chkF cs none ps
/-- The first row's error. -/
def firstE (cs : List ColB) : List PairB → Nat
  | [] => 0
  | p :: t => if errRow cs p.1 ≠ 0 then errRow cs p.1 else firstE cs t
/-- A sum that is none. -/
def overB (pt : List PairB) : Bool := pt.any fun p => wE p.2 != 0
abbrev partsC (cs : List ColB) (ps : List PairB) : List PairB := Z.parts (cmpR cs) ps
abbrev canonC (cs : List ColB) (ps : List PairB) : List PairB := Z.canon (cmpR cs) ps
def clcE (cs : List ColB) (ps : List PairB) : Nat :=
  if errS (colsL cs) ≠ 0 then errS (colsL cs) else if firstE cs ps ≠ 0 then firstE cs ps else if overB (partsC cs ps) = true then 12 else if 1024 < (canonC cs ps).length then 13 else 0
def clcO (cs : List ColB) (ps : List PairB) : List PairB := if clcE cs ps = 0 then canonC cs ps else []
def sumE (cs : List ColB) (a b : List PairB) : Nat := if chkZ cs a ≠ 0 then chkZ cs a else if chkZ cs b ≠ 0 then chkZ cs b else clcE cs (a ++ b)
def sumO (cs : List ColB) (a b : List PairB) : List PairB := if sumE cs a b = 0 then canonC cs (a ++ b) else []
def minB (a : List PairB) : Bool := a.any fun p => p.2 == -9223372036854775808
def negE (cs : List ColB) (a : List PairB) : Nat := if chkZ cs a ≠ 0 then chkZ cs a else if minB a = true then 12 else 0
def negO (cs : List ColB) (a : List PairB) : List PairB := if negE cs a = 0 then Z.negs a else []
def wgt (cs : List ColB) (a : List PairB) (r : List CellB) : Int := if chkZ cs a ≠ 0 ∨ errRow cs r ≠ 0 then 0 else Z.sumW a r

section
variable {cs : List ColB} {ps qs a b : List PairB}

theorem chkF_codes : ∀ (q : Option (List CellB)) (ps : List PairB), chkF cs q ps ≤ 13
  | _, [] => by simp [chkF]
  | q, p :: t => by
    have h1 := errRow_codes cs p.1
    have h2 := chkF_codes (some p.1) t
    unfold chkF
    split
    · exact h1
    · split
      · omega
      · split
        · split <;> omega
        · exact h2
theorem chkZ_codes : chkZ cs ps ≤ 13 := by
  have := errS_codes (colsL cs)
  have := chkF_codes (cs := cs) none ps
  unfold chkZ; split
  · omega
  · split <;> omega
theorem firstE_codes : ∀ (ps : List PairB), firstE cs ps ≤ 13
  | [] => by simp [firstE]
  | p :: t => by
    have h1 := errRow_codes cs p.1
    have h2 := firstE_codes t
    unfold firstE; split <;> omega
theorem clcE_codes : clcE cs ps ≤ 13 := by
  have := errS_codes (colsL cs)
  have := firstE_codes (cs := cs) ps
  unfold clcE; repeat' split
  all_goals omega

theorem firstE_zero : ∀ {ps : List PairB}, firstE cs ps = 0 ↔ ∀ p ∈ ps, errRow cs p.1 = 0
  | [] => by simp [firstE]
  | p :: t => by
    unfold firstE
    by_cases h : errRow cs p.1 = 0
    · rw [if_neg (fun h9 => h9 h), firstE_zero]
      simp [h]
    · rw [if_pos h]
      constructor
      · intro h9; exact absurd h9 h
      · intro h9; exact absurd (h9 p (by simp)) h
theorem allV_of (hP : PSO ps) (h : ∀ p ∈ ps, errRow cs p.1 = 0) : Z.AllV (Vr cs) ps := fun p hp => ⟨h p hp, (hP p hp).1⟩

theorem chkF_zero (hP : PSO ps) : ∀ {q : Option (List CellB)}, (∀ r, q = some r → Vr cs r) → (chkF cs q ps = 0 ↔ Z.isSet (Vr cs) (cmpR cs) ps ∧ ∀ r, q = some r → ∀ p ∈ ps, cmpR cs r p.1 < 0) := by
  induction ps with
  | nil => intro q _; simp [chkF, Z.isSet.nil]
  | cons p t ih =>
    intro q hq
    have hPt : PSO t := hP.sub (fun x hx => by simp [hx])
    have hcons : ∀ (hv : Vr cs p.1) (h0 : p.2 ≠ 0), (Z.isSet (Vr cs) (cmpR cs) (p :: t) ↔ Z.isSet (Vr cs) (cmpR cs) t ∧ ∀ x ∈ t, cmpR cs p.1 x.1 < 0) := fun hv h0 => by
      constructor
      · intro h
        exact ⟨h.sub (List.sublist_cons_self p t), (List.pairwise_cons.1 h.srt).1⟩
      · rintro ⟨h1, h2⟩
        exact ⟨List.pairwise_cons.2 ⟨h2, h1.srt⟩, fun x hx => by rcases List.mem_cons.1 hx with rfl | hx; exact hv; exact h1.all x hx, fun x hx => by rcases List.mem_cons.1 hx with rfl | hx; exact h0; exact h1.nz x hx⟩
    unfold chkF
    by_cases h1 : errRow cs p.1 = 0
    · have hv : Vr cs p.1 := ⟨h1, (hP p (by simp)).1⟩
      rw [if_neg (fun h9 => h9 h1)]
      by_cases h2 : p.2 = 0
      · rw [if_pos h2]
        constructor
        · intro h; cases h
        · rintro ⟨h, _⟩; exact absurd h2 (h.nz p (by simp))
      · rw [if_neg h2]
        have iht := ih hPt (q := some p.1) (fun r hr => by injection hr with hr; rw [← hr]; exact hv)
        have hnext : chkF cs (some p.1) t = 0 ↔ Z.isSet (Vr cs) (cmpR cs) (p :: t) := by
          rw [iht, hcons hv h2]
          constructor
          · rintro ⟨h3, h4⟩; exact ⟨h3, h4 p.1 rfl⟩
          · rintro ⟨h3, h4⟩; exact ⟨h3, fun r hr => by injection hr with hr; rw [← hr]; exact h4⟩
        cases q with
        | none =>
          show chkF cs (some p.1) t = 0 ↔ _
          rw [hnext]
          constructor
          · intro h; exact ⟨h, fun r hr => by cases hr⟩
          · rintro ⟨h, _⟩; exact h
        | some r =>
          have hr := hq r rfl
          show (if 0 ≤ cmpR cs r p.1 then 9 else chkF cs (some p.1) t) = 0 ↔ _
          by_cases h3 : 0 ≤ cmpR cs r p.1
          · rw [if_pos h3]
            constructor
            · intro h; cases h
            · rintro ⟨_, h⟩; have := h r rfl p (by simp); omega
          · rw [if_neg h3, hnext]
            constructor
            · intro h
              refine ⟨h, fun r' hr' x hx => ?_⟩
              injection hr' with hr'
              subst hr'
              rcases List.mem_cons.1 hx with rfl | hx
              · omega
              · exact (to_row cs).trans hr hv (h.all x (by simp [hx])) (by omega) ((List.pairwise_cons.1 h.srt).1 x hx)
            · rintro ⟨h, _⟩; exact h
    · rw [if_pos h1]
      constructor
      · intro h; exact absurd h h1
      · rintro ⟨h, _⟩; exact absurd (h.all p (by simp)).1 h1
/-- Pairs of which nothing is wrong are a set, and not too many. -/
theorem chkZ_zero (hP : PSO ps) : chkZ cs ps = 0 ↔ errS (colsL cs) = 0 ∧ ps.length ≤ 1024 ∧ Z.isSet (Vr cs) (cmpR cs) ps := by
  unfold chkZ
  by_cases h1 : errS (colsL cs) = 0
  · rw [if_neg (fun h9 => h9 h1)]
    by_cases h2 : 1024 < ps.length
    · rw [if_pos h2]
      constructor
      · intro h; cases h
      · rintro ⟨_, h, _⟩; omega
    · rw [if_neg h2, chkF_zero hP (fun r hr => by cases hr)]
      constructor
      · rintro ⟨h, _⟩; exact ⟨h1, by omega, h⟩
      · rintro ⟨_, _, h⟩; exact ⟨h, fun r hr => by cases hr⟩
  · rw [if_pos h1]
    constructor
    · intro h; exact absurd h h1
    · rintro ⟨h, _⟩; exact absurd h h1

theorem wE_zero {x : Int} : wE x = 0 ↔ i64 x := by
  by_cases h : i64 x
  · rw [show wE x = 0 from if_pos h]; simp [h]
  · rw [show wE x = 12 from if_neg h]; simp [h]
theorem overB_false : overB ps = false ↔ ∀ p ∈ ps, i64 p.2 := by
  unfold overB
  rw [List.any_eq_false]
  constructor
  · intro h p hp; have := h p hp; exact wE_zero.1 (by simpa using this)
  · intro h p hp; have := wE_zero.2 (h p hp); simp [this]
theorem i64_zero : i64 0 := ⟨by omega, by omega⟩
/-- No error just if all rows may be, each sum is a weight, and there aren't too many. -/
theorem clcE_zero (hP : PSO ps) : clcE cs ps = 0 ↔ errS (colsL cs) = 0 ∧ Z.AllV (Vr cs) ps ∧ (∀ r, i64 (Z.sumW ps r)) ∧ (canonC cs ps).length ≤ 1024 := by
  unfold clcE
  by_cases h1 : errS (colsL cs) = 0
  · rw [if_neg (fun h9 => h9 h1)]
    by_cases h2 : firstE cs ps = 0
    · have hV := allV_of (cs := cs) hP (firstE_zero.1 h2)
      have hall := Z.parts_all (to_row cs) hV (I := i64) i64_zero
      rw [if_neg (fun h9 => h9 h2)]
      by_cases h3 : overB (partsC cs ps) = true
      · rw [if_pos h3]
        constructor
        · intro h; cases h
        · rintro ⟨_, _, h, _⟩
          have := overB_false.2 (hall.2 h)
          rw [h3] at this; cases this
      · rw [if_neg h3]
        have h3' := hall.1 (overB_false.1 (by simpa using h3))
        by_cases h4 : 1024 < (canonC cs ps).length
        · rw [if_pos h4]
          constructor
          · intro h; cases h
          · rintro ⟨_, _, _, h⟩; omega
        · rw [if_neg h4]
          constructor
          · intro _; exact ⟨h1, hV, h3', by omega⟩
          · intro _; rfl
    · rw [if_pos h2]
      constructor
      · intro h; exact absurd h h2
      · rintro ⟨_, h, _⟩; exact absurd (firstE_zero.2 fun p hp => (h p hp).1) h2
  · rw [if_pos h1]
    constructor
    · intro h; exact absurd h h1
    · rintro ⟨h, _⟩; exact absurd h h1

theorem mem_rows {pt : List PairB} (h : ∀ r, Z.has pt r → Z.has ps r) (hP : PSO ps) (hw : ∀ p ∈ pt, i64 p.2) : PSO pt := fun p hp => by
  obtain ⟨q, hq, e⟩ := h p.1 ⟨p, hp, rfl⟩
  refine ⟨?_, hw p hp⟩
  rw [← e]; exact (hP q hq).1
/-- What a set of pairs is made of. -/
theorem canon_pso (hP : PSO ps) (hV : Z.AllV (Vr cs) ps) (hw : ∀ r, i64 (Z.sumW ps r)) : PSO (canonC cs ps) := by
  have h1 := (Z.parts_all (to_row cs) hV (I := i64) i64_zero).2 hw
  refine mem_rows (ps := ps) (fun r ⟨p, hp, e⟩ => (Z.parts_has ps r).1 ⟨p, (List.mem_filter.1 hp).1, e⟩) hP fun p hp => h1 p (List.mem_filter.1 hp).1
theorem clcO_pso (hP : PSO ps) : PSO (clcO cs ps) := by
  unfold clcO; split
  · rename_i h
    obtain ⟨_, h2, h3, _⟩ := (clcE_zero hP).1 h
    exact canon_pso hP h2 h3
  · intro p hp; simp at hp
end

end Go.Proofs.YtfpidkcdgebnpaaGreatDoor


/-
  Layer 8's laws, in lists (no program in it): sums of sets, their other signs.
-/
namespace Go.Proofs.YtfpidkcdgebnpaaGreatDoor
open Go.RowKit Go.Shelf

section
variable {cs : List ColB} {ps qs a b c : List PairB}

/-- A set, as Check asks for it. -/
def Zs (cs : List ColB) (a : List PairB) : Prop := PSO a ∧ chkZ cs a = 0
theorem Zs.set (h : Zs cs a) : Z.isSet (Vr cs) (cmpR cs) a := ((chkZ_zero h.1).1 h.2).2.2
theorem Zs.few (h : Zs cs a) : a.length ≤ 1024 := ((chkZ_zero h.1).1 h.2).2.1
theorem Zs.schema (h : Zs cs a) : errS (colsL cs) = 0 := ((chkZ_zero h.1).1 h.2).1
theorem Zs.of (hP : PSO a) (h1 : errS (colsL cs) = 0) (h2 : a.length ≤ 1024) (h3 : Z.isSet (Vr cs) (cmpR cs) a) : Zs cs a := ⟨hP, (chkZ_zero hP).2 ⟨h1, h2, h3⟩⟩
theorem Zs.w64 (h : Zs cs a) (r : List CellB) : i64 (Z.sumW a r) := by
  by_cases hr : Z.has a r
  · obtain ⟨p, hp, rfl⟩ := hr
    rw [Z.sumW_mem (to_row cs) h.set.srt h.set.all p hp]; exact (h.1 p hp).2
  · rw [Z.sumW_no fun p hp e => hr ⟨p, hp, e⟩]; exact i64_zero
theorem Zs.ext (ha : Zs cs a) (hb : Zs cs b) (h : ∀ r, Z.sumW a r = Z.sumW b r) : a = b := Z.set_ext (to_row cs) ha.set hb.set h

/-- What Collect answers without an error is a set, with the pairs' sums. -/
theorem clc_ok (hP : PSO ps) (h : clcE cs ps = 0) : Zs cs (clcO cs ps) ∧ (∀ r, Z.sumW (clcO cs ps) r = Z.sumW ps r) ∧ Z.AllV (Vr cs) ps := by
  obtain ⟨h1, h2, h3, h4⟩ := (clcE_zero hP).1 h
  have e : clcO cs ps = canonC cs ps := by unfold clcO; rw [if_pos h]
  rw [e]
  exact ⟨Zs.of (canon_pso hP h2 h3) h1 h4 (Z.canon_set (to_row cs) h2), Z.canon_sum (to_row cs) h2, h2⟩
/-- Pairs whose sums are a set's are collected, and are that set. -/
theorem clc_as (hP : PSO ps) (hV : Z.AllV (Vr cs) ps) (hc : Zs cs c) (h : ∀ r, Z.sumW ps r = Z.sumW c r) : clcE cs ps = 0 ∧ clcO cs ps = c := by
  have e : canonC cs ps = c := Z.canon_of (to_row cs) hV hc.set (fun r => (h r).symm)
  have h0 : clcE cs ps = 0 := (clcE_zero hP).2 ⟨hc.schema, hV, fun r => by rw [h r]; exact hc.w64 r, by rw [e]; exact hc.few⟩
  exact ⟨h0, by unfold clcO; rw [if_pos h0]; exact e⟩
/-- The error hangs on the sums alone, where all rows may be. -/
theorem clcE_eq (hP : PSO ps) (hQ : PSO qs) (h1 : Z.AllV (Vr cs) ps) (h2 : Z.AllV (Vr cs) qs) (h : ∀ r, Z.sumW ps r = Z.sumW qs r) : clcE cs ps = clcE cs qs := by
  have f1 : firstE cs ps = 0 := firstE_zero.2 fun p hp => (h1 p hp).1
  have f2 : firstE cs qs = 0 := firstE_zero.2 fun p hp => (h2 p hp).1
  have ec : canonC cs ps = canonC cs qs := Z.canon_eq (to_row cs) h1 h2 h
  have eo : overB (partsC cs ps) = overB (partsC cs qs) := by
    have g1 := Z.parts_all (to_row cs) h1 (I := i64) i64_zero
    have g2 := Z.parts_all (to_row cs) h2 (I := i64) i64_zero
    have : overB (partsC cs ps) = false ↔ overB (partsC cs qs) = false := by
      rw [overB_false, overB_false, g1, g2]
      constructor
      · intro hh r; rw [← h r]; exact hh r
      · intro hh r; rw [h r]; exact hh r
    cases h9 : overB (partsC cs ps) with
    | false => exact (this.1 h9).symm
    | true =>
      cases h8 : overB (partsC cs qs) with
      | false => rw [this.2 h8] at h9; cases h9
      | true => rfl
  unfold clcE
  rw [f1, f2, ec, eo]
theorem clcE_three (hV : ∀ p ∈ ps, errRow cs p.1 = 0) (hS : errS (colsL cs) = 0) : clcE cs ps = 0 ∨ clcE cs ps = 12 ∨ clcE cs ps = 13 := by
  have f1 : firstE cs ps = 0 := firstE_zero.2 hV
  unfold clcE
  rw [if_neg (fun h => h hS), if_neg (fun h => h f1)]
  split
  · exact .inr (.inl rfl)
  · split
    · exact .inr (.inr rfl)
    · exact .inl rfl

theorem Zs.all (h : Zs cs a) : Z.AllV (Vr cs) a := h.set.all
theorem allV_app (h1 : Z.AllV (Vr cs) a) (h2 : Z.AllV (Vr cs) b) : Z.AllV (Vr cs) (a ++ b) := fun p hp => by
  rcases List.mem_append.1 hp with hp | hp
  · exact h1 p hp
  · exact h2 p hp
theorem sumE_of (ha : Zs cs a) (hb : Zs cs b) : sumE cs a b = clcE cs (a ++ b) ∧ sumO cs a b = clcO cs (a ++ b) := by
  have e : sumE cs a b = clcE cs (a ++ b) := by unfold sumE; rw [if_neg (fun h => h ha.2), if_neg (fun h => h hb.2)]
  exact ⟨e, by unfold sumO clcO; rw [e]⟩
/-- What Sum answers. -/
theorem sum_ok (ha : Zs cs a) (hb : Zs cs b) (h : sumE cs a b = 0) : Zs cs (sumO cs a b) ∧ ∀ r, Z.sumW (sumO cs a b) r = Z.sumW a r + Z.sumW b r := by
  obtain ⟨e1, e2⟩ := sumE_of ha hb
  rw [e1] at h
  obtain ⟨h1, h2, _⟩ := clc_ok (ha.1.append hb.1) h
  rw [e2]
  exact ⟨h1, fun r => by rw [h2, Z.sumW_append]⟩
theorem sum_as (ha : Zs cs a) (hb : Zs cs b) (hc : Zs cs c) (h : ∀ r, Z.sumW a r + Z.sumW b r = Z.sumW c r) : sumE cs a b = 0 ∧ sumO cs a b = c := by
  obtain ⟨e1, e2⟩ := sumE_of ha hb
  rw [e1, e2]
  exact clc_as (ha.1.append hb.1) (allV_app ha.all hb.all) hc (fun r => by rw [Z.sumW_append, h])
theorem sum_flip (ha : Zs cs a) (hb : Zs cs b) : sumE cs a b = sumE cs b a ∧ sumO cs a b = sumO cs b a := by
  have e : sumE cs a b = sumE cs b a := by
    rw [(sumE_of ha hb).1, (sumE_of hb ha).1]
    exact clcE_eq (ha.1.append hb.1) (hb.1.append ha.1) (allV_app ha.all hb.all) (allV_app hb.all ha.all) (fun r => by rw [Z.sumW_append, Z.sumW_append]; omega)
  refine ⟨e, ?_⟩
  by_cases h : sumE cs a b = 0
  · obtain ⟨h1, h2⟩ := sum_ok ha hb h
    obtain ⟨h3, h4⟩ := sum_ok hb ha (e ▸ h)
    exact h1.ext h3 (fun r => by rw [h2, h4]; omega)
  · have h' : sumE cs b a ≠ 0 := e ▸ h
    unfold sumO; rw [if_neg h, if_neg h']
theorem nil_set (h : errS (colsL cs) = 0) : Zs cs [] := Zs.of (fun p hp => by simp at hp) h (by simp) Z.isSet.nil

theorem minB_false {l : List PairB} : minB l = false ↔ ∀ p ∈ l, p.2 ≠ -9223372036854775808 := by
  unfold minB
  rw [List.any_eq_false]
  constructor
  · intro h p hp e; exact h p hp (by simp [e])
  · intro h p hp e; exact h p hp (by simpa using e)
theorem neg_zero (ha : Zs cs a) : negE cs a = 0 ↔ ∀ p ∈ a, p.2 ≠ -9223372036854775808 := by
  unfold negE
  rw [if_neg (fun h => h ha.2), ← minB_false]
  cases minB a <;> simp
theorem neg_ok (ha : Zs cs a) (h : negE cs a = 0) : Zs cs (negO cs a) ∧ negO cs a = Z.negs a ∧ ∀ r, Z.sumW (negO cs a) r = -Z.sumW a r := by
  have e : negO cs a = Z.negs a := by unfold negO; rw [if_pos h]
  have hm := (neg_zero ha).1 h
  rw [e]
  refine ⟨Zs.of (fun p hp => ?_) ha.schema (by simpa [Z.negs] using ha.few) (Z.negs_set ha.set), rfl, Z.negs_sum a⟩
  obtain ⟨q, hq, rfl⟩ := List.mem_map.1 hp
  have h1 := ha.1 q hq
  have h2 := hm q hq
  have h3 := h1.2
  unfold inW at h3
  exact ⟨h1.1, by show -9223372036854775808 ≤ -q.2; omega, by show -q.2 ≤ 9223372036854775807; omega⟩
theorem neg_twice (ha : Zs cs a) (h : negE cs a = 0) : negE cs (negO cs a) = 0 ∧ negO cs (negO cs a) = a := by
  obtain ⟨h1, h2, _⟩ := neg_ok ha h
  have h0 : negE cs (negO cs a) = 0 := (neg_zero h1).2 fun p hp => by
    rw [h2] at hp
    obtain ⟨q, hq, rfl⟩ := List.mem_map.1 hp
    have := (ha.1 q hq).2
    unfold inW at this
    show -q.2 ≠ _
    omega
  refine ⟨h0, ?_⟩
  have e : ∀ x, negE cs x = 0 → negO cs x = Z.negs x := fun x hx => by unfold negO; rw [if_pos hx]
  rw [e _ h0, h2, Z.negs_negs]
/-- The other sign of a sum. -/
theorem neg_sum (ha : Zs cs a) (hb : Zs cs b) (h1 : negE cs a = 0) (h2 : negE cs b = 0) (h3 : sumE cs a b = 0) (h4 : sumE cs (negO cs a) (negO cs b) = 0) :
    negE cs (sumO cs a b) = 0 ∧ negO cs (sumO cs a b) = sumO cs (negO cs a) (negO cs b) := by
  obtain ⟨na, _, sa⟩ := neg_ok ha h1
  obtain ⟨nb, _, sb⟩ := neg_ok hb h2
  obtain ⟨s1, s2⟩ := sum_ok ha hb h3
  obtain ⟨t1, t2⟩ := sum_ok na nb h4
  have h0 : negE cs (sumO cs a b) = 0 := (neg_zero s1).2 fun p hp e => by
    have g1 := Z.sumW_mem (to_row cs) s1.set.srt s1.set.all p hp
    have g2 := t1.w64 p.1
    rw [t2, sa, sb] at g2
    rw [s2] at g1
    unfold i64 at g2
    omega
  obtain ⟨u1, _, u3⟩ := neg_ok s1 h0
  exact ⟨h0, u1.ext t1 (fun r => by rw [u3, s2, t2, sa, sb]; omega)⟩
end

end Go.Proofs.YtfpidkcdgebnpaaGreatDoor


/-
  A set's text, and what a text is read as, in lists (no program in it).
-/
namespace Go.Proofs.YtfpidkcdgebnpaaGreatDoor
open Go.RowKit Go.Shelf

theorem rdS_list (l : List UInt8) (h : l.length ≤ 140737488351232) : RdS ⟨l.toArray⟩ l := ⟨rfl, h⟩
def sep2 : List UInt8 := [59, 32]
def pairT (cs : List ColB) (p : PairB) : List UInt8 := sdec p.2 ++ [32] ++ textR cs p.1
def textZ (cs : List ColB) (ps : List PairB) : List UInt8 := if ps = [] then [45] else Lib.join (ps.map (pairT cs)) sep2

/-- The texts between a semicolon and a blank. -/
def cut2 : List UInt8 → List (List UInt8)
  | [] => [[]]
  | [x] => [[x]]
  | x :: y :: r => if x = 59 ∧ y = 32 then [] :: cut2 r else consHead x (cut2 (y :: r))

theorem consHead_ne (x : UInt8) (l : List (List UInt8)) : consHead x l ≠ [] := by cases l <;> simp [consHead]
theorem cut2_ne : ∀ l, cut2 l ≠ []
  | [] => by simp [cut2]
  | [x] => by simp [cut2]
  | x :: y :: r => by
    rw [cut2]
    split
    · simp
    · exact consHead_ne _ _
theorem consHead_len {x : UInt8} {l : List (List UInt8)} (h : l ≠ []) : (consHead x l).length = l.length := by
  cases l with
  | nil => exact absurd rfl h
  | cons a t => rfl
theorem cut2_len : ∀ l, (cut2 l).length ≤ l.length + 1
  | [] => by simp [cut2]
  | [x] => by simp [cut2]
  | x :: y :: r => by
    rw [cut2]
    split
    · have := cut2_len r
      simp; omega
    · have := cut2_len (y :: r)
      rw [consHead_len (cut2_ne _)]
      simp at this ⊢; omega
theorem consHead_part {x : UInt8} {l : List (List UInt8)} {n : Nat} (h : ∀ p ∈ l, p.length ≤ n) : ∀ p ∈ consHead x l, p.length ≤ n + 1 := by
  cases l with
  | nil => intro p hp; simp [consHead] at hp; subst hp; simp
  | cons a t =>
    intro p hp
    rcases List.mem_cons.1 hp with rfl | hp
    · have := h a (by simp); simp; omega
    · have := h p (by simp [hp]); omega
theorem cut2_part : ∀ l, ∀ p ∈ cut2 l, p.length ≤ l.length
  | [] => by simp [cut2]
  | [x] => by simp [cut2]
  | x :: y :: r => by
    rw [cut2]
    split
    · intro p hp
      rcases List.mem_cons.1 hp with rfl | hp
      · simp
      · have := cut2_part r p hp; simp; omega
    · intro p hp
      have := consHead_part (cut2_part (y :: r)) p hp
      simpa using this

theorem index_two (x y : UInt8) (r : List UInt8) : Lib.index (x :: y :: r) [59, 32] = if x = 59 ∧ y = 32 then 0 else if Lib.index (y :: r) [59, 32] = -1 then -1 else Lib.index (y :: r) [59, 32] + 1 := by
  rw [Lib.index]
  by_cases h : x = 59 ∧ y = 32
  · obtain ⟨rfl, rfl⟩ := h
    rw [if_pos (by simp [List.isPrefixOf]), if_pos (by simp)]
  · rw [if_neg h]
    have hp : [59, 32].isPrefixOf (x :: y :: r) = false := by
      rw [Bool.eq_false_iff]
      intro h9
      simp [List.isPrefixOf] at h9
      exact h ⟨h9.1.symm, h9.2.symm⟩
    rw [hp]
    by_cases h1 : Lib.index (y :: r) [59, 32] = -1
    · rw [if_pos h1]; simp [h1]
    · rw [if_neg h1]; simp [h1]
theorem cut2_index : ∀ (l : List UInt8), (Lib.index l [59, 32] = -1 ∧ cut2 l = [l]) ∨ (0 ≤ Lib.index l [59, 32] ∧ cut2 l = l.take (Lib.index l [59, 32]).toNat :: cut2 (l.drop ((Lib.index l [59, 32]).toNat + 2)))
  | [] => .inl ⟨rfl, rfl⟩
  | [x] => .inl ⟨by simp [Lib.index, List.isPrefixOf], rfl⟩
  | x :: y :: r => by
    rw [index_two]
    by_cases h : x = 59 ∧ y = 32
    · rw [if_pos h]
      refine .inr ⟨by omega, ?_⟩
      rw [cut2, if_pos h]
      simp
    · rw [if_neg h]
      rcases cut2_index (y :: r) with ⟨h1, h2⟩ | ⟨h1, h2⟩
      · rw [if_pos h1]
        exact .inl ⟨rfl, by rw [cut2, if_neg h, h2]; rfl⟩
      · rw [if_neg (by omega)]
        refine .inr ⟨by omega, ?_⟩
        rw [cut2, if_neg h, h2, consHead]
        have e3 : (Lib.index (y :: r) [59, 32] + 1).toNat = (Lib.index (y :: r) [59, 32]).toNat + 1 := by omega
        rw [e3]
        rfl
/-- The first text, and what is left behind it. -/
theorem cut2_cut (l : List UInt8) : cut2 l = if (Lib.cut l sep2).2.2 = true then (Lib.cut l sep2).1 :: cut2 (Lib.cut l sep2).2.1 else [(Lib.cut l sep2).1] := by
  unfold Lib.cut sep2
  rcases cut2_index l with ⟨h1, h2⟩ | ⟨h1, h2⟩
  · rw [if_neg (show ¬ (0 ≤ Lib.index l [59, 32]) by omega), h2]; rfl
  · rw [if_pos h1, if_pos rfl, h2]; rfl
theorem cutB_len (l sep : List UInt8) : (Lib.cut l sep).1.length ≤ l.length ∧ (Lib.cut l sep).2.1.length ≤ l.length := by
  unfold Lib.cut
  split
  · simp; omega
  · simp
theorem cutB_less (l sep : List UInt8) (hs : 0 < sep.length) (h : (Lib.cut l sep).2.2 = true) : (Lib.cut l sep).2.1.length < l.length := by
  unfold Lib.cut at h ⊢
  by_cases h0 : 0 ≤ Lib.index l sep
  · rw [if_pos h0]
    dsimp only
    by_cases hl : l = []
    · subst hl
      have : Lib.index [] sep = -1 := by
        unfold Lib.index
        cases sep with
        | nil => simp at hs
        | cons a t => rfl
      omega
    · have := List.length_pos_iff.2 hl
      rw [List.length_drop]; omega
  · rw [if_neg h0] at h; cases h

/-- What is wrong with a pair's text. -/
noncomputable def prE (cs : List ColB) (p : List UInt8) : Nat := if (Lib.cut p [32]).2.2 = true ∧ (unsC (Lib.cut p [32]).1).isSome then rowE cs (Lib.cut p [32]).2.1 else 6
noncomputable def prP (cs : List ColB) (p : List UInt8) : PairB := (rowC cs (Lib.cut p [32]).2.1, (unsC (Lib.cut p [32]).1).getD 0)
noncomputable def prsE (cs : List ColB) : List (List UInt8) → Nat
  | [] => 0
  | p :: t => if prE cs p ≠ 0 then prE cs p else prsE cs t
noncomputable def rdZe (cs : List ColB) (l : List UInt8) : Nat := if errS (colsL cs) ≠ 0 then errS (colsL cs) else if l = [45] then 0 else if prsE cs (cut2 l) ≠ 0 then prsE cs (cut2 l) else chkZ cs ((cut2 l).map (prP cs))
noncomputable def rdZo (cs : List ColB) (l : List UInt8) : List PairB := if l ≠ [45] ∧ rdZe cs l = 0 then (cut2 l).map (prP cs) else []

theorem prP_ok (cs : List ColB) (p : List UInt8) : CES (prP cs p).1 ∧ inW (prP cs p).2 := by
  refine ⟨rowC_ok _ _, ?_⟩
  show inW ((unsC (Lib.cut p [32]).1).getD 0)
  cases h : unsC (Lib.cut p [32]).1 with
  | none => exact ⟨by decide, by decide⟩
  | some v =>
    have := unsC_some _ _ h
    exact ⟨this.2.1, this.2.2⟩
theorem prs_pso (cs : List ColB) (ls : List (List UInt8)) : PSO (ls.map (prP cs)) := fun p hp => by
  obtain ⟨q, _, rfl⟩ := List.mem_map.1 hp
  exact prP_ok cs q
theorem prsE_app (cs : List ColB) : ∀ a b, prsE cs (a ++ b) = if prsE cs a ≠ 0 then prsE cs a else prsE cs b
  | [], b => by simp [prsE]
  | p :: t, b => by
    have e1 : prsE cs (p :: t ++ b) = if prE cs p ≠ 0 then prE cs p else prsE cs (t ++ b) := rfl
    by_cases h : prE cs p = 0
    · have e2 : prsE cs (p :: t) = prsE cs t := if_neg (fun h9 => h9 h)
      rw [e1, e2, if_neg (fun h9 => h9 h)]; exact prsE_app cs t b
    · have e2 : prsE cs (p :: t) = prE cs p := if_pos h
      rw [e1, e2, if_pos h, if_pos h]
/-- One more than may be are as many as there are. -/
theorem chkZ_more {cs : List ColB} {ps : List PairB} : chkZ cs (ps.take 1025) = chkZ cs ps := by
  by_cases h : ps.length ≤ 1024
  · rw [List.take_of_length_le (by omega)]
  · unfold chkZ
    split
    · rfl
    · rw [if_pos (by rw [List.length_take]; omega), if_pos (by omega)]
theorem readV_zero (l : List UInt8) : codeO (readV 0 l) = (if (unsC l).isSome then 0 else 6) ∧ (cellO (readV 0 l)).1 = ((unsC l).map fun v => (v % 18446744073709551616).toNat).getD 0 ∧ (cellO (readV 0 l)).2 = ⟨#[]⟩ := by
  rw [readR_eq]
  unfold readR
  rw [if_pos rfl]
  cases unsC l with
  | none => exact ⟨rfl, rfl, rfl⟩
  | some v => exact ⟨rfl, rfl, rfl⟩

end Go.Proofs.YtfpidkcdgebnpaaGreatDoor


/-
  Two pairs of a slice of the call's own change places.
-/
namespace Go.Proofs.YtfpidkcdgebnpaaGreatDoor
open Go.RowKit

theorem RdE.setOff {w : World} {rv : Value} {r : List CellB} (h : RdE w rv r) {g k : Nat} (hg : offB rv r.length g) (x : Value) : RdE (w.setCell ⟨g, k, none⟩ x) rv r := by
  refine RdG.same h fun i hi => Below.heap_setCell _ _ _ _ ?_
  exact hg i (by simpa using hi)

def swapP (l : List PairB) (a b : Nat) : List PairB := (l.set a (l.getD b default)).set b (l.getD a default)
theorem swapP_len (l : List PairB) (a b : Nat) : (swapP l a b).length = l.length := by simp [swapP]
theorem set_sum (r : List CellB) : ∀ (l : List PairB) (k : Nat) (x : PairB), k < l.length → Z.sumW (l.set k x) r = Z.sumW l r - (if (l.getD k default).1 = r then (l.getD k default).2 else 0) + if x.1 = r then x.2 else 0 := by
  intro l
  induction l with
  | nil => intro k x h; simp at h
  | cons y t ih =>
    intro k x h
    obtain ⟨y1, y2⟩ := y
    obtain ⟨x1, x2⟩ := x
    cases k with
    | zero =>
      show (if x1 = r then x2 else 0) + Z.sumW t r = (if y1 = r then y2 else 0) + Z.sumW t r - (if y1 = r then y2 else 0) + (if x1 = r then x2 else 0)
      generalize (if x1 = r then x2 else 0) = X
      generalize (if y1 = r then y2 else 0) = Y
      omega
    | succ k =>
      simp only [List.set_cons_succ, Z.sumW, List.getD_cons_succ]
      rw [ih k _ (by simpa using h)]
      generalize (if y1 = r then y2 else 0) = Y
      generalize (if x1 = r then x2 else 0) = X
      generalize (if (t.getD k default).1 = r then (t.getD k default).2 else 0) = V
      omega
theorem swapP_sum (l : List PairB) (a b : Nat) (ha : a < l.length) (hb : b < l.length) (r : List CellB) : Z.sumW (swapP l a b) r = Z.sumW l r := by
  unfold swapP
  rw [set_sum r _ b _ (by simpa using hb), set_sum r _ a _ ha]
  by_cases hab : a = b
  · subst hab
    have : (l.set a (l.getD a default)).getD a default = l.getD a default := by simp [List.getD, ha]
    rw [this]; omega
  · have : (l.set a (l.getD b default)).getD b default = l.getD b default := by simp [List.getD, List.getElem?_set_ne hab]
    rw [this]; omega
theorem getD_mem' {α : Type} (l : List α) (k : Nat) (d : α) (h : k < l.length) : l.getD k d ∈ l := by simp [List.getD, h]
theorem swapP_mem {l : List PairB} {a b : Nat} (ha : a < l.length) (hb : b < l.length) {p : PairB} (hp : p ∈ swapP l a b) : p ∈ l := by
  unfold swapP at hp
  rcases List.mem_or_eq_of_mem_set hp with hp | rfl
  · rcases List.mem_or_eq_of_mem_set hp with hp | rfl
    · exact hp
    · exact getD_mem' _ _ _ hb
  · exact getD_mem' _ _ _ ha
theorem swapP_back (l : List PairB) (a b : Nat) (ha : a < l.length) (hb : b < l.length) {p : PairB} (hp : p ∈ l) : p ∈ swapP l a b := by
  obtain ⟨k, hk, rfl⟩ := List.getElem_of_mem hp
  unfold swapP
  by_cases h1 : k = b
  · subst h1
    by_cases h2 : a = k
    · subst h2
      exact List.mem_iff_getElem?.2 ⟨a, by simp [List.getD, hk]⟩
    · refine List.mem_iff_getElem?.2 ⟨a, ?_⟩
      rw [List.getElem?_set_ne (by omega)]
      simp [List.getD, hk, ha]
  · by_cases h2 : k = a
    · subst h2
      refine List.mem_iff_getElem?.2 ⟨b, ?_⟩
      simp [List.getD, hk, hb]
    · refine List.mem_iff_getElem?.2 ⟨k, ?_⟩
      rw [List.getElem?_set_ne (by omega), List.getElem?_set_ne (by omega)]
      simp [hk]
theorem clc_same {cs : List ColB} {a b : List PairB} (hA : PSO a) (hB : PSO b) (hab : ∀ p, p ∈ a ↔ p ∈ b) (hs : ∀ r, Z.sumW a r = Z.sumW b r) : (clcE cs a = 0 ↔ clcE cs b = 0) ∧ clcO cs a = clcO cs b := by
  have one : ∀ {a b : List PairB}, PSO a → PSO b → (∀ p, p ∈ a ↔ p ∈ b) → (∀ r, Z.sumW a r = Z.sumW b r) → clcE cs a = 0 → clcE cs b = 0 ∧ clcO cs b = clcO cs a := by
    intro a b hA hB hab hs h
    obtain ⟨h1, h2, h3⟩ := clc_ok hA h
    exact clc_as hB (fun p hp => h3 p ((hab p).2 hp)) h1 (fun r => by rw [h2, hs])
  by_cases h : clcE cs a = 0
  · obtain ⟨h1, h2⟩ := one hA hB hab hs h
    exact ⟨⟨fun _ => h1, fun _ => h⟩, h2.symm⟩
  · have h' : clcE cs b ≠ 0 := fun h9 => h (one hB hA (fun p => (hab p).symm) (fun r => (hs r).symm) h9).1
    exact ⟨⟨fun h9 => absurd h9 h, fun h9 => absurd h9 h'⟩, by unfold clcO; rw [if_neg h, if_neg h']⟩

section
variable {w : World} {v : Value} {ps : List PairB} {base : Nat}
theorem OwnP.swap (h : OwnP w base v ps) (hs : ps.length ≤ 140737488351232) {a b : Nat} (ha : a < ps.length) (hb : b < ps.length) : ∃ g ra rb, base ≤ g ∧
    (∀ u, (Instr.indexAt 23 v (.int .i64 (a : Int))).run Tryz.prog u = .ok (.pointer (some ⟨g, a * 2, none⟩)) u) ∧
    (∀ u, (Instr.indexAt 23 v (.int .i64 (b : Int))).run Tryz.prog u = .ok (.pointer (some ⟨g, b * 2, none⟩)) u) ∧
    w.cell? ⟨g, a * 2, none⟩ = some ra ∧ w.cell? ⟨g, a * 2 + 1, none⟩ = some (.int .i64 (ps.getD a default).2) ∧
    w.cell? ⟨g, b * 2, none⟩ = some rb ∧ w.cell? ⟨g, b * 2 + 1, none⟩ = some (.int .i64 (ps.getD b default).2) ∧
    (w.frozen? ⟨g, a * 2, none⟩ = false ∧ w.frozen? ⟨g, a * 2 + 1, none⟩ = false ∧ w.frozen? ⟨g, b * 2, none⟩ = false ∧ w.frozen? ⟨g, b * 2 + 1, none⟩ = false) ∧
    (∃ ao n c, ra = .slice ao n c) ∧ (∃ ao n c, rb = .slice ao n c) ∧
    OwnP ((((w.setCell ⟨g, a * 2, none⟩ rb).setCell ⟨g, a * 2 + 1, none⟩ (.int .i64 (ps.getD b default).2)).setCell ⟨g, b * 2, none⟩ ra).setCell ⟨g, b * 2 + 1, none⟩ (.int .i64 (ps.getD a default).2)) base v (swapP ps a b) := by
  obtain ⟨ts, rfl, hg, hr⟩ := h
  rw [List.length_map] at ha hb hs
  have hl : (ts.map triV).length = ts.length := List.length_map ..
  obtain ⟨g, cap, hv, hbg, hix, hsp⟩ := hg.spot pairOk (by rw [hl]; omega) (by rw [hl]; exact hs)
  rw [hl] at hv hix
  have hob : v.ownBlock = some g := by rw [hv]; rfl
  have hn : pairE.n = 2 := rfl
  rw [hn] at hix
  have hta := hr _ (getD_mem' ts a default ha)
  have htb := hr _ (getD_mem' ts b default hb)
  obtain ⟨ta, eta⟩ : ∃ t, t = ts.getD a default := ⟨_, rfl⟩
  obtain ⟨tb, etb⟩ : ∃ t, t = ts.getD b default := ⟨_, rfl⟩
  have ea : (ts.map (·.2)).getD a default = ta.2 := by rw [eta]; simp [List.getD, ha]
  have eb : (ts.map (·.2)).getD b default = tb.2 := by rw [etb]; simp [List.getD, hb]
  rw [← eta] at hta
  rw [← etb] at htb
  have spot : ∀ (w' : World) (ts' : List TriB), ts'.length = ts.length → OwnG pairE w' base v (ts'.map triV) → ∀ k, k < ts.length →
      (w'.cell? ⟨g, k * 2, none⟩ = some (ts'.getD k default).1 ∧ w'.cell? ⟨g, k * 2 + 1, none⟩ = some (.int .i64 (ts'.getD k default).2.2) ∧ w'.frozen? ⟨g, k * 2, none⟩ = false ∧ w'.frozen? ⟨g, k * 2 + 1, none⟩ = false) ∧
      ∀ t : TriB, t.1.oneCell' = true → OwnG pairE ((w'.setCell ⟨g, k * 2, none⟩ t.1).setCell ⟨g, k * 2 + 1, none⟩ (.int .i64 t.2.2)) base v ((ts'.set k t).map triV) := by
    intro w' ts' hl' ho k hk
    have e : (ts'.map triV).getD k [] = triV (ts'.getD k default) := getD_map triV ts' k (by omega) default
    obtain ⟨_, hc⟩ := hsp w' (ts'.map triV) (by simp [hl']) ho k (by simpa using hk)
    rw [e] at hc
    obtain ⟨c0, f0, s0⟩ := hc 0 (by decide)
    obtain ⟨c1, f1, _⟩ := hc 1 (by decide)
    refine ⟨⟨c0, c1, f0, f1⟩, fun t ht => ?_⟩
    have o1 := s0 t.1 ht
    obtain ⟨_, hc1⟩ := hsp _ _ (by simp [hl']) o1 k (by simpa using hk)
    obtain ⟨_, _, s1⟩ := hc1 1 (by decide)
    have o2 := s1 (.int .i64 t.2.2) rfl
    have e2 : ((ts'.map triV).set k ((triV (ts'.getD k default)).set 0 t.1)).set k ((((ts'.map triV).set k ((triV (ts'.getD k default)).set 0 t.1)).getD k []).set 1 (.int .i64 t.2.2)) = (ts'.set k t).map triV := by
      have : ((ts'.map triV).set k ((triV (ts'.getD k default)).set 0 t.1)).getD k [] = (triV (ts'.getD k default)).set 0 t.1 := by
        have : k < ts'.length := by omega
        simp [List.getD, this]
      rw [this, List.set_set, List.map_set]
      rfl
    rw [e2] at o2
    exact o2
  obtain ⟨⟨ca0, ca1, fa0, fa1⟩, sa⟩ := spot w ts rfl hg a ha
  obtain ⟨⟨cb0, cb1, fb0, fb1⟩, _⟩ := spot w ts rfl hg b hb
  rw [← eta] at ca0 ca1
  rw [← etb] at cb0 cb1
  have o1 := sa tb (rowv_one htb.1)
  obtain ⟨_, sb⟩ := spot _ (ts.set a tb) (by simp) o1 b hb
  have o2 := sb ta (rowv_one hta.1)
  refine ⟨g, ta.1, tb.1, hbg, hix a ha, hix b hb, ca0, by rw [ea]; exact ca1, cb0, by rw [eb]; exact cb1, ⟨fa0, fa1, fb0, fb1⟩, hta.1.lit, htb.1.lit, ?_⟩
  rw [ea, eb]
  refine ⟨(ts.set a tb).set b ta, ?_, o2, fun t ht => ?_⟩
  · unfold swapP
    rw [ea, eb, List.map_set, List.map_set]
  · have hm : t ∈ ts := by
      rcases List.mem_or_eq_of_mem_set ht with ht | rfl
      · rcases List.mem_or_eq_of_mem_set ht with ht | rfl
        · exact ht
        · rw [etb]; exact getD_mem' _ _ _ hb
      · rw [eta]; exact getD_mem' _ _ _ ha
    obtain ⟨h1, h2⟩ := hr t hm
    have hoff := h2 g hob
    exact ⟨(((h1.setOff hoff _).setOff hoff _).setOff hoff _).setOff hoff _, h2⟩
end

end Go.Proofs.YtfpidkcdgebnpaaGreatDoor


/-
  Layer 8's law: whether pairs are more than are looked at; its example's schema.
-/
namespace Go.Proofs.YtfpidkcdgebnpaaGreatDoor
open Go.RowKit Go.Shelf

def pairsE : Elt := ⟨62, 23, 1, 24, .slice none 0 0⟩
theorem pairsOk : pairsE.Ok := ⟨Tryz.underlying62, by kernel_rfl, by kernel_rfl, rfl, by decide⟩
def RdPs (w : World) (v : Value) (vals : List Value) : Prop := RdG pairsE w v (vals.map fun x => [x])

theorem rdPs_block {w : World} {b : Nat} {vals : List Value} {z : Nat × Nat} (h : w.heap[b]? = some (.cells vals.toArray 23 z)) (hs : vals.length ≤ 100) : RdPs w (.slice (some ⟨b, 0, none⟩) vals.length vals.length) vals := by
  refine ⟨⟨_, _, by rw [List.length_map], by rw [List.length_map]; omega, (by intro h; cases h), fun _ => ⟨_, _, rfl⟩⟩, fun i hi j u hu => ?_, fun x hx => ?_, by rw [List.length_map]; omega⟩
  · rw [List.length_map] at hi
    rw [getD_map (fun x => [x]) vals i hi undef] at hu
    obtain rfl : j = 0 := by
      have := (List.getElem?_eq_some_iff.1 hu).1
      simpa using this
    have hu : vals.getD i undef = u := by simpa using hu
    rw [adr_lit, cell_of_row _ _ _ _ _ z h, List.getElem?_toArray]
    show vals[0 + (i * 1 + 0)]? = some u
    rw [show 0 + (i * 1 + 0) = i from by omega, List.getElem?_eq_getElem hi, ← hu]
    simp [List.getD, hi]
  · obtain ⟨c, _, rfl⟩ := List.mem_map.1 hx
    rfl

/-- A row that isn't great. -/
def smallR (r : List CellB) : Prop := r.length ≤ 8 ∧ ∀ c ∈ r, c.2.size ≤ 256
def gP (p : PairB) : Int := 1 + sizeW p.1 + (p.1.length : Int)
def gS : List PairB → Int
  | [] => 0
  | p :: t => gP p + gS t
theorem gS_append (a b : List PairB) : gS (a ++ b) = gS a + gS b := by
  induction a with
  | nil => simp [gS]
  | cons p t ih => simp only [List.cons_append, gS, ih]; omega
theorem sizeW_small : ∀ (r : List CellB) (x : Int), r.length ≤ 100 → (∀ c ∈ r, c.2.size ≤ 256) → 0 ≤ x → x + 256 * (r.length : Int) ≤ 1000000 → x ≤ r.foldl (fun n c => wrap64 (n + (c.2.size : Int))) x ∧ r.foldl (fun n c => wrap64 (n + (c.2.size : Int))) x ≤ x + 256 * (r.length : Int)
  | [], x, _, _, _, _ => by simp
  | c :: t, x, hl, h, h0, h1 => by
    have hc := h c (by simp)
    simp only [List.length_cons] at h1 hl ⊢
    push_cast at h1 ⊢
    have e : wrap64 (x + (c.2.size : Int)) = x + (c.2.size : Int) := w64_in ⟨by omega, by omega⟩
    rw [List.foldl_cons, e]
    have := sizeW_small t (x + (c.2.size : Int)) (by omega) (fun d hd => h d (by simp [hd])) (by omega) (by omega)
    omega
theorem gP_small {p : PairB} (h : smallR p.1) : 0 ≤ sizeW p.1 ∧ sizeW p.1 ≤ 2048 ∧ 1 ≤ gP p ∧ gP p ≤ 2057 := by
  obtain ⟨h1, h2⟩ := h
  have := sizeW_small p.1 0 (by omega) h2 (by omega) (by omega)
  have e : sizeW p.1 = p.1.foldl (fun n c => wrap64 (n + (c.2.size : Int))) 0 := rfl
  unfold gP
  rw [e]; omega
theorem gS_small : ∀ {l : List PairB}, (∀ p ∈ l, smallR p.1) → (l.length : Int) ≤ gS l ∧ gS l ≤ 2057 * (l.length : Int)
  | [], _ => by simp [gS]
  | p :: t, h => by
    have h1 := gP_small (h p (by simp))
    have h2 := gS_small (l := t) (fun q hq => h q (by simp [hq]))
    simp only [gS, List.length_cons]; push_cast; omega
theorem row_small {cs : List ColB} {r : List CellB} (h : errRow cs r = 0) : smallR r := by
  obtain ⟨h1, h2, h3⟩ := errRow_len h
  have h8 := ((errS_iffR (colsL cs)).1 h1).1.2
  unfold colsL at h8; rw [List.length_map] at h8
  refine ⟨by omega, fun c hc => ?_⟩
  obtain ⟨i, hi, rfl⟩ := List.getElem_of_mem hc
  have hz := errP_zero h3 (cs[i]'(by omega), r[i]) (by
    have : (cs.zip r)[i]'(by rw [List.length_zip]; omega) = (cs[i]'(by omega), r[i]) := List.getElem_zip
    rw [← this]; exact List.getElem_mem _)
  unfold chk checkC at hz
  split at hz
  · cases hz
  · split at hz
    · cases hz
    · split at hz
      · cases hz
      · rename_i h9
        have : (r[i]).2.data.toList.length ≤ 256 := by dsimp only at h9; omega
        simpa using this

/-- What is known of pairs that aren't more than are looked at. -/
def fewP (l : List PairB) : Prop := (∀ p ∈ l, smallR p.1) → l.length ≤ 5000

set_option maxHeartbeats 8000000 in
theorem law08_great (v : Value) (vals : List Value) (pss : List (List PairB)) (w : World) (h : RdPs w v vals) (hn3 : vals.length ≤ 3) (hl : pss.length = vals.length) (hr : ∀ i, i < vals.length → ∀ wz, Below w.heap.size w wz → RdP wz (vals.getD i undef) (pss.getD i [])) :
    Calls Tryz.prog 12 #[v] w fun e w' => ∃ x : Int, e = .returned (.int .i64 x) ∧ (x = 0 ∨ x = 1) ∧ (x = 0 → fewP pss.flatten) ∧ Below w.heap.size w w' := by
  have hlen := RdG.len h pairsOk
  rw [List.length_map] at hlen
  have HH := Lib.hid h
  have HR := Lib.hid hr
  have HS3 := Lib.hid (show ∀ i, i < vals.length → (pss.getD i []).length ≤ 140737488351232 from fun i hi => (hr i hi w (Below.refl _ _)).small)
  obtain ⟨n, hn⟩ : ∃ n, n = vals.length := ⟨_, rfl⟩
  rw [← hn] at hlen hn3
  have hlen : ∀ u, (Builtin.len_ #[62] 3 #[v]).run Tryz.prog u = .ok (.int .i64 (n : Int)) u := hlen
  have HN := Lib.hid hn
  have HL := Lib.hid hl
  have hsz0 : (∀ i, i ≤ n → ((pss.take i).flatten.length : Int) ≤ (i : Int) * 140737488351232) := fun i => by
    induction i with
    | zero => intro _; simp
    | succ i ih =>
      intro hi
      have h1 := ih (by omega)
      have hip : i < pss.length := by rw [HL.out, ← HN.out]; omega
      have h2 := HS3.out i (by rw [← HN.out]; omega)
      have e : pss.take (i + 1) = pss.take i ++ [pss.getD i []] := by
        rw [List.take_add_one]; simp [List.getD, hip]
      rw [e, List.flatten_append, List.length_append, List.flatten_singleton]
      push_cast; omega
  have HSZ := Lib.hid hsz0
  clear h hn hr hl hsz0
  go_enter Tryz.func12, Tryz.ntmps12
  go_wp2
  go_loopw [3, 10] (fun a i wr => ∃ (k : Nat) (x : Int), k ≤ n ∧ i = .int .i64 k ∧ a = .int .i64 x ∧ Hid ((∀ p ∈ pss.flatten, smallR p.1) → x = gS (pss.take k).flatten) ∧ Hid (Below w.heap.size w wr)) (fun _ i _ => n - (intOf i).toNat)
  case atStart => exact ⟨0, 0, by omega, rfl, rfl, Lib.hid (fun _ => rfl), Lib.hid (Below.refl _ _)⟩
  case round =>
    obtain ⟨k, x, hk, rfl, rfl, HX, HB⟩ := hrel
    by_cases hlt : k < n
    · have hr := RdG.later HH.out pairsOk HB.out (Nat.le_refl _)
      have hl2 : k < (vals.map fun x => [x]).length := by rw [List.length_map, ← HN.out]; exact hlt
      have hidx := RdG.idx hr pairsOk k hl2
      obtain ⟨b, o, ha, hc⟩ := RdG.at hr hl2
      rw [ha] at hidx
      rw [getD_map (fun x => [x]) vals k (by rw [← HN.out]; exact hlt) undef] at hc
      have hc0 := hc 0 _ rfl
      rw [Nat.add_zero] at hc0
      have hre := HR.out k (by rw [← HN.out]; exact hlt)
      have HTK := Lib.hid (show pss.take (k + 1) = pss.take k ++ [pss.getD k []] from by
        rw [List.take_add_one]; simp [List.getD, show k < pss.length by rw [HL.out, ← HN.out]; exact hlt])
      have HMEM := Lib.hid (show pss.getD k [] ∈ pss from by simp [List.getD, show k < pss.length by rw [HL.out, ← HN.out]; exact hlt])
      obtain ⟨rv, hrv⟩ : ∃ rv, rv = vals.getD k undef := ⟨_, rfl⟩
      rw [← hrv] at hc0 hre
      obtain ⟨ps, hps⟩ : ∃ ps, ps = pss.getD k [] := ⟨_, rfl⟩
      rw [← hps] at hre HTK HMEM
      have HRE := Lib.hid hre
      have hl5 := (HRE.out wr HB.out).len
      have hsm5 := (HRE.out wr HB.out).small
      have hzk := HSZ.out k (by omega)
      obtain ⟨m, hm⟩ : ∃ m, m = ps.length := ⟨_, rfl⟩
      rw [← hm] at hl5 hsm5
      have HM := Lib.hid hm
      have hidx : ∀ u, (Instr.indexAt 62 v (.int .i64 (k : Int))).run Tryz.prog u = .ok (.pointer (some ⟨b, o, none⟩)) u := hidx
      clear hr hl2 ha hc hre hrv hps hm
      have HZK := Lib.hid hzk
      clear hzk
      go_wp2
      go_loopw [3, 16] (fun a i wr => ∃ (j : Nat) (y : Int), j ≤ m ∧ i = .int .i64 j ∧ a = .int .i64 y ∧ Hid ((∀ p ∈ pss.flatten, smallR p.1) → y = gS ((pss.take k).flatten ++ ps.take j)) ∧ Hid (Below w.heap.size w wr)) (fun _ i _ => m - (intOf i).toNat)
      case atStart => exact ⟨0, _, by omega, rfl, rfl, Lib.hid (fun h => by rw [HX.out h]; simp), HB⟩
      case round =>
        clear HB hc0 hidx
        obtain ⟨j, y, hj, rfl, rfl, HY, HB⟩ := hrel
        by_cases hjl : j < m
        · have hj2 : j < ps.length := by rw [← HM.out]; exact hjl
          obtain ⟨b9, o9, rw9, hidx, hc0, hc1, hre9, hbl9⟩ := (HRE.out wr HB.out).get hj2
          have HPT := Lib.hid (show ps.take (j + 1) = ps.take j ++ [ps.getD j default] from by
            rw [List.take_add_one]; simp [List.getD, hj2])
          have HPM := Lib.hid (show ps.getD j default ∈ pss.flatten from List.mem_flatten.2 ⟨ps, HMEM.out, by simp [List.getD, hj2]⟩)
          obtain ⟨p, hp⟩ : ∃ p, p = ps.getD j default := ⟨_, rfl⟩
          rw [← hp] at hc1 hre9 HPT HPM
          rcases p with ⟨r, z⟩
          dsimp only at hc1 hre9
          obtain ⟨ao, no, co, rfl⟩ := hre9.lit
          obtain ⟨w7, hw7⟩ : ∃ w7, w7 = wr.alloc (.cells #[.slice ao no co, .int .i64 z] 51) := ⟨_, rfl⟩
          have hbb := (Below.refl wr.heap.size wr).alloc (Nat.le_refl _) (.cells #[.slice ao no co, .int .i64 z] 51)
          have hg7 := heap_alloc_new wr (.cells #[.slice ao no co, .int .i64 z] 51)
          rw [← hw7] at hbb hg7
          have HB7 := Lib.hid (HB.out.trans (hbb.mono HB.out.size)).drew
          have hre7 := (hre9.later hbb (Nat.le_refl _)).drew
          have hl7 := hre7.len
          have SZ := Lib.hid (fun wz (hz : Below w7.drew.heap.size w7.drew wz) => ref_Size06 (.slice ao no co) r wz (hre7.later hz (Nat.le_refl _)))
          have hW7 := Below.refl w7.drew.heap.size w7.drew
          have hg7' : (w7.drew).heap[wr.heap.size]? = _ := hg7
          have s0 := fun x : Ord.GW w7.drew => keep_cell x.grew (cell_of_row _ _ 0 _ _ _ hg7')
          simp at s0
          have hrl : r.length ≤ 140737488351232 := hre9.small
          clear hg7 hg7' hbb hre7 hre9 hp hj2
          subst hw7
          go_wp2_with fail
          refine Ord.wp_region_ord [(0, false), (1, false), (2, false), (5, false), (6, false), (7, false), (3, true), (4, false), (8, false), (9, false), (10, false)] (by kernel_rfl) rfl (by kernel_rfl) (by kernel_rfl) (fun _ _ _ d _ h => by cases d <;> exact h) ?_
          refine Ord.ord_still rfl rfl (by kernel_rfl) (fun K hK => ?_)
          go_big_quiet_op
          refine hK _ ?_; clear hK K
          refine Ord.ord_still rfl rfl (by kernel_rfl) (fun K hK => ?_)
          go_big_quiet_op
          refine hK _ ?_; clear hK K
          refine Ord.ord_still rfl rfl (by kernel_rfl) (fun K hK => ?_)
          go_big_quiet_op
          refine hK _ ?_; clear hK K
          refine Ord.ord_still rfl rfl (by kernel_rfl) (fun K hK => ?_)
          go_big_quiet_op
          refine hK _ ?_; clear hK K
          refine Ord.ord_still rfl rfl (by kernel_rfl) (fun K hK => ?_)
          go_big_quiet_op
          refine hK _ ?_; clear hK K
          refine Ord.ord_still rfl rfl (by kernel_rfl) (fun K hK => ?_)
          go_big_quiet_op
          refine hK _ ?_; clear hK K
          refine Ord.ord_loud rfl (by kernel_rfl) (fun K hK => ?_)
          go_big_op
          refine (SZ.out _ hW7).mono ?_
          rintro e w8 ⟨rfl, hb⟩
          refine hK _ _ hb ?_
          have HB8 := Lib.hid (HB7.out.trans (hb.mono HB7.out.size))
          clear hb
          clear hK K
          refine Ord.ord_still rfl rfl (by kernel_rfl) (fun K hK => ?_)
          go_big_quiet_op
          refine hK _ ?_; clear hK K
          refine Ord.ord_still rfl rfl (by kernel_rfl) (fun K hK => ?_)
          go_big_quiet_op
          refine hK _ ?_; clear hK K
          refine Ord.ord_still rfl rfl (by kernel_rfl) (fun K hK => ?_)
          go_big_quiet_op
          refine hK _ ?_; clear hK K
          refine Ord.ord_still rfl rfl (by kernel_rfl) (fun K hK => ?_)
          go_big_quiet_op
          refine hK _ ?_; clear hK K
          refine Ord.ord_nil ?_
          have HY2 := Lib.hid (show (∀ p ∈ pss.flatten, smallR p.1) → wrap64 (y + wrap64 (wrap64 (1 + sizeW r) + (r.length : Int))) = gS ((pss.take k).flatten ++ ps.take (j + 1)) from fun hs => by
            obtain ⟨g1, g2, g3, g4⟩ := gP_small (hs _ HPM.out)
            have hy := HY.out hs
            have hsub : ∀ q ∈ (pss.take k).flatten ++ ps.take j, smallR q.1 := fun q hq => by
              rcases List.mem_append.1 hq with hq | hq
              · obtain ⟨l, hl, hq⟩ := List.mem_flatten.1 hq
                exact hs q (List.mem_flatten.2 ⟨l, List.mem_of_mem_take hl, hq⟩)
              · exact hs q (List.mem_flatten.2 ⟨ps, HMEM.out, List.mem_of_mem_take hq⟩)
            have hb := gS_small hsub
            rw [List.length_append, List.length_take] at hb
            have hzk := HZK.out
            dsimp only at g1 g2
            have hrs : (r.length : Int) ≤ 8 := by have := (hs _ HPM.out).1; dsimp only at this; omega
            rw [HPT.out, ← List.append_assoc, gS_append, ← hy]
            have e1 : gS [((r, z) : PairB)] = 1 + sizeW r + (r.length : Int) := by simp [gS, gP]
            rw [e1]
            rw [← hy] at hb
            push_cast at hb
            have hj9 : ((min j ps.length : Nat) : Int) ≤ 140737488351232 := by have := HM.out; omega
            have w1 : wrap64 (1 + sizeW r) = 1 + sizeW r := w64_in ⟨by omega, by omega⟩
            have w2 : wrap64 (1 + sizeW r + (r.length : Int)) = 1 + sizeW r + (r.length : Int) := w64_in ⟨by omega, by omega⟩
            have w3 : wrap64 (y + (1 + sizeW r + (r.length : Int))) = y + (1 + sizeW r + (r.length : Int)) := w64_in ⟨by omega, by omega⟩
            rw [w1, w2, w3])
          go_wp2
          go_roundw
          case rel => exact ⟨j + 1, _, by omega, by go_num, rfl, HY2, HB8⟩
          case measure => simp [intOf]; omega
        · obtain rfl : j = m := by omega
          have HX2 := Lib.hid (show (∀ p ∈ pss.flatten, smallR p.1) → y = gS (pss.take (k + 1)).flatten from fun hs => by
            rw [HY.out hs, HTK.out, List.flatten_append, List.flatten_singleton, List.take_of_length_le (l := ps) (by rw [← HM.out]; exact Nat.le_refl _)])
          clear hjl
          go_wp2
          go_roundw
          case rel => exact ⟨k + 1, _, by omega, by go_num, rfl, HX2, HB⟩
          case measure => simp [intOf]; omega
    · obtain rfl : k = n := by omega
      have HF := Lib.hid (show x ≤ 5000 → fewP pss.flatten from fun hx hs => by
        have h1 := HX.out hs
        rw [List.take_of_length_le (by rw [HL.out, ← HN.out]; exact Nat.le_refl _)] at h1
        have := (gS_small hs).1
        omega)
      clear hlt
      by_cases hx : 5000 < x
      · have hd : decide (5000 < x) = true := decide_eq_true hx
        go_wp2
        go_ret
        exact ⟨1, rfl, .inr rfl, fun h => absurd h (by decide), HB.out⟩
      · have hd : decide (5000 < x) = false := decide_eq_false hx
        go_wp2
        go_ret
        exact ⟨0, rfl, .inl rfl, fun _ => HF.out (by omega), HB.out⟩

end Go.Proofs.YtfpidkcdgebnpaaGreatDoor

