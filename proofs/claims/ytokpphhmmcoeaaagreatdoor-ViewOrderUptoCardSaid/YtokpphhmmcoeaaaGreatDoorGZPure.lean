/-
  Sets of rows with weights, over any strict order (no program in it): a list's set is the one sorted list of nonzero weights that has each row's sum.
-/
import Derived.RowKit
import Derived.StepT
import Derived.Calls
set_option linter.unusedVariables false
set_option linter.unusedSimpArgs false
set_option maxRecDepth 100000
namespace Go.Proofs.YtokpphhmmcoeaaaGreatDoor.Z

/-- A strict order of the rows that may be. -/
structure TO {R : Type} (V : R → Prop) (cmp : R → R → Int) : Prop where
  zero : ∀ {a b}, V a → V b → (cmp a b = 0 ↔ a = b)
  flip : ∀ {a b}, V a → V b → cmp a b = -cmp b a
  trans : ∀ {a b c}, V a → V b → V c → cmp a b < 0 → cmp b c < 0 → cmp a c < 0

section
variable {R : Type} {V : R → Prop} {cmp : R → R → Int}

def srt (cmp : R → R → Int) (ps : List (R × Int)) : Prop := ps.Pairwise fun a b => cmp a.1 b.1 < 0
def AllV (V : R → Prop) (ps : List (R × Int)) : Prop := ∀ p ∈ ps, V p.1
structure isSet (V : R → Prop) (cmp : R → R → Int) (a : List (R × Int)) : Prop where
  srt : srt cmp a
  all : AllV V a
  nz : ∀ p ∈ a, p.2 ≠ 0
/-- A sorted list, grouped: a set's own pairs. -/
def negs (a : List (R × Int)) : List (R × Int) := a.map fun p => (p.1, -p.2)

theorem TO.irr (h : TO V cmp) {a : R} (ha : V a) : cmp a a = 0 := (h.zero ha ha).2 rfl
theorem TO.ne (h : TO V cmp) {a b : R} (ha : V a) (hb : V b) (hl : cmp a b < 0) : a ≠ b := fun e => by
  have := (h.zero ha hb).2 e; omega

def nz (ps : List (R × Int)) : List (R × Int) := ps.filter fun p => p.2 != 0
theorem srt_ne (hT : TO V cmp) {p : R × Int} {t : List (R × Int)} (hs : srt cmp (p :: t)) (hV : AllV V (p :: t)) : ∀ q ∈ t, q.1 ≠ p.1 := fun q hq e => by
  have h1 := (List.pairwise_cons.1 hs).1 q hq
  exact hT.ne (hV p (by simp)) (hV q (by simp [hq])) h1 e.symm
theorem nz_set (hT : TO V cmp) {a : List (R × Int)} (hs : srt cmp a) (hV : AllV V a) : isSet V cmp (nz a) :=
  ⟨List.Pairwise.filter _ hs, fun p hp => hV p ((List.mem_filter.1 hp).1), fun p hp => by have := (List.mem_filter.1 hp).2; simpa using this⟩
theorem negs_set {a : List (R × Int)} (h : isSet V cmp a) : isSet V cmp (negs a) := by
  refine ⟨?_, ?_, ?_⟩
  · exact List.pairwise_map.2 h.srt
  · intro p hp
    obtain ⟨q, hq, rfl⟩ := List.mem_map.1 hp
    exact h.all q hq
  · intro p hp
    obtain ⟨q, hq, rfl⟩ := List.mem_map.1 hp
    have := h.nz q hq
    show -q.2 ≠ 0
    omega
theorem negs_negs (a : List (R × Int)) : negs (negs a) = a := by
  unfold negs
  rw [List.map_map]
  have : ((fun p : R × Int => (p.1, -p.2)) ∘ fun p => (p.1, -p.2)) = id := by
    funext p; simp
  rw [this, List.map_id]
theorem isSet.nil : isSet V cmp ([] : List (R × Int)) := ⟨by simp [Z.srt], fun p hp => by simp at hp, fun p hp => by simp at hp⟩
theorem isSet.sub {a b : List (R × Int)} (h : isSet V cmp a) (hs : b.Sublist a) : isSet V cmp b := ⟨List.Pairwise.sublist hs h.srt, fun p hp => h.all p (hs.mem hp), fun p hp => h.nz p (hs.mem hp)⟩
end

section
variable {R : Type} [DecidableEq R] {V : R → Prop} {cmp : R → R → Int}

/-- A row's weight, and x more, in its place. -/
def ins (cmp : R → R → Int) (r : R) (x : Int) : List (R × Int) → List (R × Int)
  | [] => [(r, x)]
  | p :: t => if cmp p.1 r < 0 then p :: ins cmp r x t else if p.1 = r then (p.1, p.2 + x) :: t else (r, x) :: p :: t
/-- Of each row the sum, in order. -/
def partsFrom (cmp : R → R → Int) (acc ps : List (R × Int)) : List (R × Int) := ps.foldl (fun acc p => ins cmp p.1 p.2 acc) acc
def parts (cmp : R → R → Int) (ps : List (R × Int)) : List (R × Int) := partsFrom cmp [] ps
def sumW : List (R × Int) → R → Int
  | [], _ => 0
  | p :: t, r => (if p.1 = r then p.2 else 0) + sumW t r
def has (ps : List (R × Int)) (r : R) : Prop := ∃ p ∈ ps, p.1 = r
/-- The set of pairs. -/
def canon (cmp : R → R → Int) (ps : List (R × Int)) : List (R × Int) := nz (parts cmp ps)

theorem sumW_append (a b : List (R × Int)) (r : R) : sumW (a ++ b) r = sumW a r + sumW b r := by
  induction a with
  | nil => simp [sumW]
  | cons p t ih => simp only [List.cons_append, sumW, ih]; omega
theorem sumW_perm {a b : List (R × Int)} (h : a.Perm b) (r : R) : sumW a r = sumW b r := by
  induction h with
  | nil => rfl
  | cons x _ ih => simp only [sumW, ih]
  | swap x y l => simp only [sumW]; omega
  | trans _ _ h1 h2 => exact h1.trans h2
theorem sumW_no {ps : List (R × Int)} {r : R} (h : ∀ p ∈ ps, p.1 ≠ r) : sumW ps r = 0 := by
  induction ps with
  | nil => rfl
  | cons p t ih =>
    simp only [sumW]
    rw [if_neg (h p (by simp)), ih (fun q hq => h q (by simp [hq]))]; rfl
theorem sumW_mem (hT : TO V cmp) : ∀ {ps : List (R × Int)}, srt cmp ps → AllV V ps → ∀ p ∈ ps, sumW ps p.1 = p.2
  | [], _, _, p, hp => by simp at hp
  | q :: t, hs, hV, p, hp => by
    have hne := srt_ne hT hs hV
    simp only [sumW]
    rcases List.mem_cons.1 hp with rfl | hp
    · rw [if_pos rfl, sumW_no hne, Int.add_zero]
    · rw [if_neg (fun e => hne p hp e.symm), sumW_mem hT (List.pairwise_cons.1 hs).2 (fun x hx => hV x (by simp [hx])) p hp, Int.zero_add]

theorem ins_sum (r : R) (x : Int) (ps : List (R × Int)) (q : R) : sumW (ins cmp r x ps) q = sumW ps q + if r = q then x else 0 := by
  induction ps with
  | nil => simp [ins, sumW]
  | cons p t ih =>
    simp only [ins]
    by_cases h1 : cmp p.1 r < 0
    · rw [if_pos h1]; simp only [sumW, ih]; omega
    · rw [if_neg h1]
      by_cases h2 : p.1 = r
      · rw [if_pos h2]; simp only [sumW]; rw [h2]
        by_cases h3 : r = q
        · simp only [h3, if_true]; omega
        · simp only [h3, if_false]; omega
      · rw [if_neg h2]; simp only [sumW]; omega
theorem ins_has (r : R) (x : Int) (ps : List (R × Int)) (q : R) : has (ins cmp r x ps) q ↔ r = q ∨ has ps q := by
  induction ps with
  | nil => simp [ins, has]
  | cons p t ih =>
    have hc : ∀ (p : R × Int) t, has (p :: t) q ↔ p.1 = q ∨ has t q := fun p t => by simp [has]
    simp only [ins]
    by_cases h1 : cmp p.1 r < 0
    · rw [if_pos h1, hc, hc, ih]
      constructor
      · rintro (h | h | h)
        · exact .inr (.inl h)
        · exact .inl h
        · exact .inr (.inr h)
      · rintro (h | h | h)
        · exact .inr (.inl h)
        · exact .inl h
        · exact .inr (.inr h)
    · rw [if_neg h1]
      by_cases h2 : p.1 = r
      · rw [if_pos h2, hc, hc, h2]
        constructor
        · exact fun h => .inr h
        · rintro (h | h)
          · exact .inl h
          · exact h
      · rw [if_neg h2, hc]
theorem ins_all {r : R} {x : Int} {ps : List (R × Int)} (hV : AllV V ps) (hr : V r) : AllV V (ins cmp r x ps) := fun p hp => by
  rcases (ins_has (cmp := cmp) r x ps p.1).1 ⟨p, hp, rfl⟩ with h | ⟨q, hq, h⟩
  · rw [← h]; exact hr
  · rw [← h]; exact hV q hq
theorem ins_srt (hT : TO V cmp) {r : R} {x : Int} : ∀ {ps : List (R × Int)}, srt cmp ps → AllV V ps → V r → srt cmp (ins cmp r x ps)
  | [], _, _, _ => by simp [ins, srt]
  | p :: t, hs, hV, hr => by
    obtain ⟨h0, h1⟩ := List.pairwise_cons.1 hs
    have hp := hV p (by simp)
    have hVt : AllV V t := fun q hq => hV q (by simp [hq])
    simp only [ins]
    by_cases h2 : cmp p.1 r < 0
    · rw [if_pos h2]
      refine List.pairwise_cons.2 ⟨fun q hq => ?_, ins_srt hT h1 hVt hr⟩
      rcases (ins_has (cmp := cmp) r x t q.1).1 ⟨q, hq, rfl⟩ with h | ⟨q', hq', h⟩
      · rw [← h]; exact h2
      · rw [← h]; exact h0 q' hq'
    · rw [if_neg h2]
      by_cases h3 : p.1 = r
      · rw [if_pos h3]
        exact List.pairwise_cons.2 ⟨fun q hq => h0 q hq, h1⟩
      · rw [if_neg h3]
        have h4 : cmp r p.1 < 0 := by
          have e1 := hT.flip hr hp
          have e2 : ¬ cmp p.1 r = 0 := fun h => h3 ((hT.zero hp hr).1 h)
          omega
        refine List.pairwise_cons.2 ⟨fun q hq => ?_, hs⟩
        rcases List.mem_cons.1 hq with rfl | hq
        · exact h4
        · exact hT.trans hr hp (hVt q hq) h4 (h0 q hq)

theorem ins_new {r : R} {x : Int} : ∀ {ps : List (R × Int)} {j : Nat}, j ≤ ps.length → (∀ i (h : i < ps.length), i < j → cmp ps[i].1 r < 0) → (∀ h : j < ps.length, ¬ cmp ps[j].1 r < 0 ∧ ps[j].1 ≠ r) → ins cmp r x ps = ps.take j ++ (r, x) :: ps.drop j
  | [], j, hj, _, _ => by simp [ins]
  | p :: t, 0, _, _, h => by
    obtain ⟨h1, h2⟩ := h (by simp)
    simp only [List.getElem_cons_zero] at h1 h2
    simp only [ins]; rw [if_neg h1, if_neg h2]; rfl
  | p :: t, j + 1, hj, h0, h => by
    have h1 := h0 0 (by simp) (by omega)
    simp only [List.getElem_cons_zero] at h1
    simp only [ins]; rw [if_pos h1, ins_new (j := j) (by simpa using hj) (fun i hi hij => by have := h0 (i + 1) (by simpa using hi) (by omega); simpa using this) (fun hj' => by have := h (by simpa using hj'); simpa using this)]
    rfl
theorem ins_add {r : R} {x : Int} : ∀ {ps : List (R × Int)} {j : Nat} (hj : j < ps.length), (∀ i (h : i < ps.length), i < j → cmp ps[i].1 r < 0) → ¬ cmp ps[j].1 r < 0 → ps[j].1 = r → ins cmp r x ps = ps.set j (ps[j].1, ps[j].2 + x)
  | [], j, hj, _, _, _ => absurd hj (by simp)
  | p :: t, 0, _, _, h1, h2 => by
    simp only [List.getElem_cons_zero] at h1 h2
    simp only [ins]; rw [if_neg h1, if_pos h2]; rfl
  | p :: t, j + 1, hj, h0, h1, h2 => by
    have h3 := h0 0 (by simp) (by omega)
    simp only [List.getElem_cons_zero] at h3
    simp only [List.getElem_cons_succ] at h1 h2
    simp only [ins]; rw [if_pos h3, ins_add (j := j) (by simpa using hj) (fun i hi hij => by have := h0 (i + 1) (by simpa using hi) (by omega); simpa using this) h1 h2]
    simp

theorem from_sum (ps : List (R × Int)) : ∀ (acc : List (R × Int)) (q : R), sumW (partsFrom cmp acc ps) q = sumW acc q + sumW ps q := by
  induction ps with
  | nil => intro acc q; simp [partsFrom, sumW]
  | cons p t ih =>
    intro acc q
    have := ih (ins cmp p.1 p.2 acc) q
    rw [ins_sum] at this
    show sumW (partsFrom cmp (ins cmp p.1 p.2 acc) t) q = _
    rw [this]; simp only [sumW]; omega
theorem from_has (ps : List (R × Int)) : ∀ (acc : List (R × Int)) (q : R), has (partsFrom cmp acc ps) q ↔ has acc q ∨ has ps q := by
  induction ps with
  | nil => intro acc q; simp [partsFrom, has]
  | cons p t ih =>
    intro acc q
    have := ih (ins cmp p.1 p.2 acc) q
    rw [ins_has] at this
    show has (partsFrom cmp (ins cmp p.1 p.2 acc) t) q ↔ _
    rw [this]
    have hc : has (p :: t) q ↔ p.1 = q ∨ has t q := by simp [has]
    rw [hc]
    constructor
    · rintro ((h | h) | h)
      · exact .inr (.inl h)
      · exact .inl h
      · exact .inr (.inr h)
    · rintro (h | h | h)
      · exact .inl (.inr h)
      · exact .inl (.inl h)
      · exact .inr h
theorem from_ok (hT : TO V cmp) (ps : List (R × Int)) : ∀ (acc : List (R × Int)), srt cmp acc → AllV V acc → AllV V ps → srt cmp (partsFrom cmp acc ps) ∧ AllV V (partsFrom cmp acc ps) := by
  induction ps with
  | nil => intro acc h1 h2 _; exact ⟨h1, h2⟩
  | cons p t ih =>
    intro acc h1 h2 h3
    have hp := h3 p (by simp)
    exact ih _ (ins_srt hT h1 h2 hp) (ins_all h2 hp) (fun q hq => h3 q (by simp [hq]))
theorem parts_sum (ps : List (R × Int)) (q : R) : sumW (parts cmp ps) q = sumW ps q := by
  have := from_sum (cmp := cmp) ps [] q
  rw [show sumW ([] : List (R × Int)) q = 0 from rfl, Int.zero_add] at this
  exact this
theorem parts_has (ps : List (R × Int)) (q : R) : has (parts cmp ps) q ↔ has ps q := by
  have := from_has (cmp := cmp) ps [] q
  rw [show (has [] q ∨ has ps q) ↔ has ps q from by simp [has]] at this
  exact this
theorem parts_ok (hT : TO V cmp) {ps : List (R × Int)} (hV : AllV V ps) : srt cmp (parts cmp ps) ∧ AllV V (parts cmp ps) := from_ok hT ps [] (by simp [srt]) (fun p hp => by simp at hp) hV
theorem parts_snoc (ps : List (R × Int)) (p : R × Int) : parts cmp (ps ++ [p]) = ins cmp p.1 p.2 (parts cmp ps) := by
  simp [parts, partsFrom]

/-- Two sorted lists with the same rows, and the same sums, are one. -/
theorem ext (hT : TO V cmp) : ∀ {a b : List (R × Int)}, srt cmp a → srt cmp b → AllV V a → AllV V b → (∀ r, has a r ↔ has b r) → (∀ r, sumW a r = sumW b r) → a = b
  | [], [], _, _, _, _, _, _ => rfl
  | [], q :: b, _, _, _, _, h, _ => absurd ((h q.1).2 ⟨q, by simp, rfl⟩) (by simp [has])
  | p :: a, [], _, _, _, _, h, _ => absurd ((h p.1).1 ⟨p, by simp, rfl⟩) (by simp [has])
  | p :: a, q :: b, ha, hb, va, vb, h, hw => by
    have hp := va p (by simp)
    have hq := vb q (by simp)
    have e1 : p.1 = q.1 := by
      obtain ⟨p', hp', e⟩ := (h p.1).1 ⟨p, by simp, rfl⟩
      obtain ⟨q', hq', e'⟩ := (h q.1).2 ⟨q, by simp, rfl⟩
      rcases List.mem_cons.1 hp' with rfl | hp'
      · exact e.symm
      · rcases List.mem_cons.1 hq' with rfl | hq'
        · exact e'
        · have h1 := (List.pairwise_cons.1 hb).1 p' hp'
          have h2 := (List.pairwise_cons.1 ha).1 q' hq'
          rw [e] at h1
          rw [e'] at h2
          have := hT.flip hp hq
          omega
    have e2 : p.2 = q.2 := by
      have h1 := sumW_mem hT ha va p (by simp)
      have h2 := sumW_mem hT hb vb q (by simp)
      rw [← h1, ← h2, hw, e1]
    have e : p = q := Prod.ext e1 e2
    subst e
    have na := srt_ne hT ha va
    have nb := srt_ne hT hb vb
    have va' : AllV V a := fun x hx => va x (by simp [hx])
    have vb' : AllV V b := fun x hx => vb x (by simp [hx])
    rw [ext hT (List.pairwise_cons.1 ha).2 (List.pairwise_cons.1 hb).2 va' vb' (fun r => ?_) (fun r => ?_)]
    · constructor
      · rintro ⟨x, hx, rfl⟩
        obtain ⟨y, hy, e⟩ := (h x.1).1 ⟨x, by simp [hx], rfl⟩
        rcases List.mem_cons.1 hy with rfl | hy
        · exact absurd e.symm (na x hx)
        · exact ⟨y, hy, e⟩
      · rintro ⟨x, hx, rfl⟩
        obtain ⟨y, hy, e⟩ := (h x.1).2 ⟨x, by simp [hx], rfl⟩
        rcases List.mem_cons.1 hy with rfl | hy
        · exact absurd e.symm (nb x hx)
        · exact ⟨y, hy, e⟩
    · have := hw r
      simp only [sumW] at this
      omega

theorem isSet.has (hT : TO V cmp) {a : List (R × Int)} (h : isSet V cmp a) (r : R) : has a r ↔ sumW a r ≠ 0 := by
  constructor
  · rintro ⟨p, hp, rfl⟩
    rw [sumW_mem hT h.srt h.all p hp]; exact h.nz p hp
  · intro hn
    by_cases hh : Z.has a r
    · exact hh
    · exact absurd (sumW_no fun p hp e => hh ⟨p, hp, e⟩) hn
/-- Two sets with the same sums are one. -/
theorem set_ext (hT : TO V cmp) {a b : List (R × Int)} (ha : isSet V cmp a) (hb : isSet V cmp b) (h : ∀ r, sumW a r = sumW b r) : a = b :=
  ext hT ha.srt hb.srt ha.all hb.all (fun r => by rw [ha.has hT, hb.has hT, h]) h
theorem nz_sum (hT : TO V cmp) {a : List (R × Int)} (hs : srt cmp a) (hV : AllV V a) (r : R) : sumW (nz a) r = sumW a r := by
  induction a with
  | nil => rfl
  | cons p t ih =>
    have ih := ih (List.pairwise_cons.1 hs).2 (fun x hx => hV x (by simp [hx]))
    by_cases h : p.2 = 0
    · have e : nz (p :: t) = nz t := by simp [nz, h]
      rw [e, ih]; simp only [sumW]; split <;> omega
    · have e : nz (p :: t) = p :: nz t := by simp [nz, h]
      rw [e]; simp only [sumW, ih]
theorem canon_set (hT : TO V cmp) {ps : List (R × Int)} (hV : AllV V ps) : isSet V cmp (canon cmp ps) := nz_set hT (parts_ok hT hV).1 (parts_ok hT hV).2
theorem canon_sum (hT : TO V cmp) {ps : List (R × Int)} (hV : AllV V ps) (r : R) : sumW (canon cmp ps) r = sumW ps r := by
  unfold canon
  rw [nz_sum hT (parts_ok hT hV).1 (parts_ok hT hV).2, parts_sum]
/-- The set of a set's pairs is the set. -/
theorem canon_self (hT : TO V cmp) {a : List (R × Int)} (h : isSet V cmp a) : canon cmp a = a := set_ext hT (canon_set hT h.all) h (canon_sum hT h.all)
theorem canon_of (hT : TO V cmp) {ps a : List (R × Int)} (hV : AllV V ps) (h : isSet V cmp a) (hw : ∀ r, sumW a r = sumW ps r) : canon cmp ps = a :=
  set_ext hT (canon_set hT hV) h (fun r => by rw [canon_sum hT hV, hw])
theorem canon_eq (hT : TO V cmp) {ps qs : List (R × Int)} (h1 : AllV V ps) (h2 : AllV V qs) (hw : ∀ r, sumW ps r = sumW qs r) : canon cmp ps = canon cmp qs :=
  set_ext hT (canon_set hT h1) (canon_set hT h2) (fun r => by rw [canon_sum hT h1, canon_sum hT h2, hw])
/-- A sum of all that isn't one of a row's. -/
theorem parts_all (hT : TO V cmp) {ps : List (R × Int)} (hV : AllV V ps) {I : Int → Prop} (h0 : I 0) : (∀ p ∈ parts cmp ps, I p.2) ↔ ∀ r, I (sumW ps r) := by
  obtain ⟨h1, h2⟩ := parts_ok hT hV
  constructor
  · intro h r
    by_cases hh : Z.has (parts cmp ps) r
    · obtain ⟨p, hp, rfl⟩ := hh
      rw [← parts_sum (cmp := cmp), sumW_mem hT h1 h2 p hp]; exact h p hp
    · rw [← parts_sum (cmp := cmp), sumW_no fun p hp e => hh ⟨p, hp, e⟩]; exact h0
  · intro h p hp
    rw [← sumW_mem hT h1 h2 p hp, parts_sum]; exact h p.1

theorem negs_sum (a : List (R × Int)) (r : R) : sumW (negs a) r = -sumW a r := by
  induction a with
  | nil => rfl
  | cons p t ih =>
    have e : negs (p :: t) = (p.1, -p.2) :: negs t := rfl
    rw [e]; simp only [sumW, ih]; split <;> omega
theorem isSet.len {a b : List (R × Int)} (hT : TO V cmp) (ha : isSet V cmp a) (hb : isSet V cmp b) (h : ∀ r, sumW a r = sumW b r) : a.length = b.length := by rw [set_ext hT ha hb h]
end
end Go.Proofs.YtokpphhmmcoeaaaGreatDoor.Z


/-
  Sorted pairs put together: such of one row stand side by side (no program in it).
-/
namespace Go.Proofs.YtokpphhmmcoeaaaGreatDoor.Z

section
variable {R : Type} [DecidableEq R] {V : R → Prop} {cmp : R → R → Int}

/-- What is left to be put together, with acc of the first one's row ahead. -/
def mg (acc : Int) : List (R × Int) → List (R × Int)
  | [] => []
  | [p] => [(p.1, acc + p.2)]
  | p :: q :: t => if p.1 = q.1 then mg (acc + p.2) (q :: t) else (p.1, acc + p.2) :: mg 0 (q :: t)

theorem mg_sum : ∀ (t : List (R × Int)) (p : R × Int) (acc : Int) (r : R), sumW (mg acc (p :: t)) r = sumW (p :: t) r + if p.1 = r then acc else 0
  | [], p, acc, r => by
    simp only [mg, sumW]
    split <;> omega
  | q :: t, p, acc, r => by
    simp only [mg]
    by_cases h : p.1 = q.1
    · rw [if_pos h, mg_sum t q (acc + p.2) r]
      conv => rhs; rw [sumW]
      rw [h]
      by_cases hq : q.1 = r
      · rw [if_pos hq, if_pos hq, if_pos hq]; omega
      · rw [if_neg hq, if_neg hq, if_neg hq]; omega
    · rw [if_neg h, sumW, mg_sum t q 0 r]
      conv => rhs; rw [sumW]
      by_cases hp : p.1 = r
      · rw [if_pos hp, if_pos hp, if_pos hp]; split <;> omega
      · rw [if_neg hp, if_neg hp, if_neg hp]; split <;> omega
theorem mg_has : ∀ (t : List (R × Int)) (p : R × Int) (acc : Int) (r : R), has (mg acc (p :: t)) r ↔ has (p :: t) r
  | [], p, acc, r => by simp [mg, has]
  | q :: t, p, acc, r => by
    have hc : ∀ (x : R × Int) (l : List (R × Int)), has (x :: l) r ↔ x.1 = r ∨ has l r := fun x l => by simp [has]
    simp only [mg]
    by_cases h : p.1 = q.1
    · rw [if_pos h, mg_has t q _ r, hc p (q :: t), hc q t, h]
      constructor
      · exact .inr
      · rintro (h9 | h9)
        · exact .inl h9
        · exact h9
    · rw [if_neg h, hc, mg_has t q _ r, ← hc p (q :: t)]
theorem mg_rows {l : List (R × Int)} {acc : Int} {x : R × Int} (h : x ∈ mg acc l) : ∃ y ∈ l, y.1 = x.1 := by
  cases l with
  | nil => simp [mg] at h
  | cons p t => exact (mg_has t p acc x.1).1 ⟨x, h, rfl⟩
theorem mg_all {l : List (R × Int)} (hV : AllV V l) (acc : Int) : AllV V (mg acc l) := fun x hx => by
  obtain ⟨y, hy, e⟩ := mg_rows hx
  rw [← e]; exact hV y hy
/-- In order, rows that are the same side by side. -/
def wsrt (cmp : R → R → Int) (ps : List (R × Int)) : Prop := ps.Pairwise fun a b => cmp a.1 b.1 ≤ 0
theorem mg_srt (hT : TO V cmp) : ∀ (l : List (R × Int)) (acc : Int), AllV V l → wsrt cmp l → srt cmp (mg acc l)
  | [], _, _, _ => by simp [mg, srt]
  | [p], _, _, _ => by simp [mg, srt]
  | p :: q :: t, acc, hV, hw => by
    have hV' : AllV V (q :: t) := fun x hx => hV x (by simp [hx])
    obtain ⟨h1, h2⟩ := List.pairwise_cons.1 hw
    simp only [mg]
    by_cases h : p.1 = q.1
    · rw [if_pos h]; exact mg_srt hT (q :: t) _ hV' h2
    · rw [if_neg h]
      refine List.pairwise_cons.2 ⟨fun x hx => ?_, mg_srt hT (q :: t) _ hV' h2⟩
      obtain ⟨y, hy, e⟩ := mg_rows hx
      have hp := hV p (by simp)
      have hq := hV q (by simp)
      have hpq := h1 q (by simp)
      have h0 : cmp p.1 q.1 ≠ 0 := fun h9 => h ((hT.zero hp hq).1 h9)
      rw [← e]
      show cmp p.1 y.1 < 0
      have hpq2 : cmp p.1 q.1 < 0 := by omega
      rcases List.mem_cons.1 hy with rfl | hy
      · exact hpq2
      · have hyv := hV' y (by simp [hy])
        have h3 := (List.pairwise_cons.1 h2).1 y hy
        by_cases h4 : cmp q.1 y.1 = 0
        · rw [← (hT.zero hq hyv).1 h4]; exact hpq2
        · exact hT.trans hp hq hyv hpq2 (by omega)
/-- Sorted pairs put together are the parts of the pairs in whatever order. -/
theorem mg_parts (hT : TO V cmp) {ps sl : List (R × Int)} (hp : sl.Perm ps) (hV : AllV V ps) (hw : wsrt cmp sl) : mg 0 sl = parts cmp ps := by
  have hV' : AllV V sl := fun x hx => hV x (hp.mem_iff.1 hx)
  refine ext hT (mg_srt hT sl 0 hV' hw) (parts_ok hT hV).1 (mg_all hV' 0) (parts_ok hT hV).2 (fun r => ?_) (fun r => ?_)
  · rw [parts_has]
    cases sl with
    | nil => rw [List.nil_perm.1 hp]; simp [mg]
    | cons p t =>
      rw [mg_has]
      constructor
      · rintro ⟨x, hx, e⟩; exact ⟨x, hp.mem_iff.1 hx, e⟩
      · rintro ⟨x, hx, e⟩; exact ⟨x, hp.mem_iff.2 hx, e⟩
  · rw [parts_sum, ← sumW_perm hp]
    cases sl with
    | nil => simp [mg]
    | cons p t => rw [mg_sum]; split <;> omega
end

end Go.Proofs.YtokpphhmmcoeaaaGreatDoor.Z


/-
  No run goes back in the draws: over the whole machine, once for all. No program.
-/
namespace Go.Proofs.YtokpphhmmcoeaaaGreatDoor

def Result.world {α : Type} : Result α → World
  | .ok _ w => w
  | .halt _ w => w

theorem ask_drawn {α : Type} : ∀ (a : Ask α) (w : World), w.drawn ≤ (w.ask a).2.drawn
  | .done _, _ => Nat.le_refl _
  | .ask what range k, w => by
    unfold World.ask
    dsimp only
    split
    · exact ask_drawn _ w
    · exact Nat.le_trans (Nat.le_succ _) (ask_drawn (k _) { w with drawn := w.drawn + 1 })

theorem sys_drawn (c : Sys) (w : World) : w.drawn ≤ (w.sys c).2.drawn := by
  unfold World.sys
  have h := ask_drawn (Kernel.perform c w.os) w
  generalize w.ask (Kernel.perform c w.os) = x at h
  obtain ⟨⟨r, os⟩, w'⟩ := x
  cases r <;> first | exact Nat.le_refl _ | exact h

theorem viewStore_drawn {p : Program} {w w' : World} {at_ : Addr} {u : TypeId} {k : Addr} {v : Value} {at' : Bool} {l : List Addr} (h : w.viewStore p at_ u k v at' = .ok (w', l)) : w'.drawn = w.drawn := by
  unfold World.viewStore at h
  simp only [bind, Except.bind, pure, Except.pure] at h
  repeat' split at h
  all_goals first | (cases h; rfl) | cases h

theorem farStore_drawn {p : Program} {w w' : World} {a : Addr} {v : Value} {at' : Bool} {l : List Addr} (h : w.farStore p a v at' = .ok (w', l)) : w'.drawn = w.drawn := by
  unfold World.farStore at h
  split at h
  · split at h
    · rename_i r hr
      cases h
      exact viewStore_drawn hr
    · cases h
  · cases h

theorem run_drawn {α : Type} (p : Program) : ∀ (s : Sem α) (w : World), w.drawn ≤ (Result.world (s.run p w)).drawn := by
  intro s
  induction s with
  | pure a => intro w; exact Nat.le_refl _
  | load m a k ih =>
    intro w; unfold Sem.run
    split
    · exact ih _ w
    · split
      · exact ih _ w
      · exact Nat.le_refl _
  | store m a v k ih =>
    intro w
    cases v
    all_goals first
      | exact Nat.le_refl _
      | (rw [Sem.run]
         · split
           · split
             · exact Nat.le_refl _
             · exact ih (w.setCell _ _)
           · split
             · rename_i hw
               rw [← farStore_drawn hw]; exact ih _
             · exact Nat.le_refl _
         all_goals (intros; first | contradiction | simp_all))
  | new o k ih => intro w; unfold Sem.run; exact ih w.heap.size { w with heap := w.heap.push o }
  | shape r k ih => intro w; exact ih _ _
  | freeze a n k ih =>
    intro w
    refine Nat.le_trans ?_ (ih (w.freeze a n))
    unfold World.freeze; split <;> exact Nat.le_refl _
  | frozen a k ih => intro w; exact ih _ _
  | getObj r k ih =>
    intro w; unfold Sem.run
    split
    · exact Nat.le_refl _
    · exact ih _ _
    · exact Nat.le_refl _
  | setObj r o k ih =>
    intro w; unfold Sem.run
    split
    · exact Nat.le_refl _
    · exact ih { w with heap := w.heap.setIfInBounds r o }
    · exact Nat.le_refl _
  | choose q k ih =>
    intro w; unfold Sem.run
    split
    · exact ih _ w
    · exact Nat.le_trans (Nat.le_succ _) (ih _ { w with drawn := w.drawn + 1 })
  | sys c k ih => intro w; exact Nat.le_trans (sys_drawn c w) (ih _ _)
  | program k ih => intro w; exact ih _ _
  | mark m k ih => intro w; exact ih _
  | halt h => intro w; exact Nat.le_refl _

theorem ok_drawn {α : Type} {p : Program} {s : Sem α} {w w' : World} {a : α} (h : s.run p w = .ok a w') : w.drawn ≤ w'.drawn := by
  have := run_drawn p s w; rwa [h] at this
theorem halt_drawn {α : Type} {p : Program} {s : Sem α} {w w' : World} {a : Halt} (h : s.run p w = .halt a w') : w.drawn ≤ w'.drawn := by
  have := run_drawn p s w; rwa [h] at this

/-- No step goes back in the draws. -/
def GStep.fwd (w : World) : GStep → Prop
  | .go _ w' _ => w.drawn ≤ w'.drawn
  | .comm _ _ _ _ w' _ => w.drawn ≤ w'.drawn
  | .spawn _ _ w' _ => w.drawn ≤ w'.drawn
  | .count _ w' _ => w.drawn ≤ w'.drawn
  | .timer _ _ w' _ => w.drawn ≤ w'.drawn
  | .alone _ _ w' _ => w.drawn ≤ w'.drawn
  | .newcoro _ _ _ w' _ => w.drawn ≤ w'.drawn
  | .coroswitch _ _ _ w' _ => w.drawn ≤ w'.drawn
  | .collect _ w' _ => w.drawn ≤ w'.drawn
  | .watch _ w' _ => w.drawn ≤ w'.drawn
  | .ended .. => True

theorem GStep.fwd_after (es : Array Event) (w : World) (s : GStep) : GStep.fwd w (s.after es) ↔ GStep.fwd w s := by cases s <;> rfl
theorem GStep.fwd_trans {a b : World} (h : a.drawn ≤ b.drawn) {s : GStep} (k : GStep.fwd b s) : GStep.fwd a s := by
  cases s <;> first | trivial | exact Nat.le_trans h k

theorem endWith_fwd (w : World) (fd : Nat) (t : ByteArray) (o : Outcome) : GStep.fwd w (endWith w fd t o) := by
  unfold endWith; dsimp only; repeat' split
  all_goals trivial
theorem dieOf_fwd (fr : Frame) (l : List ByteArray) (m : String) (b : Bool) (w : World) : GStep.fwd w (dieOf fr l m b w) := Nat.le_refl _
theorem endThrow_fwd (fr : Frame) (m : String) (w : World) : GStep.fwd w (endThrow fr m w) := Nat.le_refl _
theorem endPrinting_fwd (p : Program) (fr : Frame) (v : Value) (w : World) : GStep.fwd w (endPrinting p fr v w) := by
  unfold endPrinting; dsimp only; repeat' split
  all_goals first | trivial | exact Nat.le_refl _
theorem endFatal_fwd (p : Program) (fr : Frame) (cs : List Frame) (d : Option Dying) (m : String) (w : World) : GStep.fwd w (endFatal p fr cs d m w) := by
  unfold endFatal; dsimp only; split
  · exact ok_drawn (by assumption)
  all_goals trivial
theorem fwd_ite {w : World} {c : Prop} [Decidable c] {a b : GStep} (ha : GStep.fwd w a) (hb : GStep.fwd w b) : GStep.fwd w (if c then a else b) := by split <;> assumption
theorem writeOn_fwd (p : Program) (fr : Frame) (d : Dying) (f : Fatal) (w : World) : GStep.fwd w (writeOn p fr d f w) := by
  unfold writeOn; simp only [Sem.runT_eq]; split
  · trivial
  · split
    · rename_i h; exact ok_drawn (congrArg Prod.fst h)
    · rename_i h; exact halt_drawn (congrArg Prod.fst h)
    all_goals trivial
theorem doReturn_fwd (p : Program) (b : Bool) (fr : Frame) (cs : List Frame) (d : Option Dying) (v : Value) (w : World) : GStep.fwd w (doReturn p b fr cs d v w) := by
  unfold doReturn; dsimp only; repeat' split
  all_goals first | trivial | exact Nat.le_refl _
theorem callDeferred_fwd (p : Program) (fr : Frame) (cs : List Frame) (d : Option Dying) (v : Deferred) (w : World) : GStep.fwd w (callDeferred p fr cs d v w) := by
  unfold callDeferred; simp only [Sem.runT_eq]
  refine fwd_ite trivial ?_
  rw [GStep.fwd_after]
  split
  all_goals first
    | trivial | (exact ok_drawn (by assumption)) | (exact halt_drawn (by assumption))
    | (split <;> (exact ok_drawn (by assumption)))
    | (exact GStep.fwd_trans (halt_drawn (by assumption)) (endFatal_fwd ..))
    | (exact GStep.fwd_trans (halt_drawn (by assumption)) (endThrow_fwd ..))
theorem unwind_fwd (p : Program) (b : Bool) (fr : Frame) (cs : List Frame) (d : Option Dying) (w : World) : GStep.fwd w (unwind p b fr cs d w) := by
  unfold unwind; simp only [Sem.runT_eq]
  split
  · rw [GStep.fwd_after]; split
    · exact ok_drawn (by assumption)
    · trivial
  · exact callDeferred_fwd ..
  · split
    · trivial
    · refine fwd_ite trivial ?_
      split
      · exact Nat.le_refl _
      · split
        · refine fwd_ite (Nat.le_refl _) ?_
          split
          · exact ok_drawn (by assumption)
          all_goals trivial
        · split
          · exact endPrinting_fwd ..
          · trivial
    · split
      · exact doReturn_fwd ..
      · rw [GStep.fwd_after]; split
        · exact GStep.fwd_trans (ok_drawn (by assumption)) (doReturn_fwd ..)
        all_goals trivial
theorem die_fwd (p : Program) (fr : Frame) (d : Dying) (w : World) : GStep.fwd w (die p fr d w) := by
  unfold die; simp only [Sem.runT_eq]
  split
  · exact writeOn_fwd ..
  · split
    · exact fwd_ite (Nat.le_refl _) (endWith_fwd ..)
    · split
      · exact Nat.le_refl _
      · split
        · exact ok_drawn (by assumption)
        · trivial
      · rw [GStep.fwd_after]; split
        · exact ok_drawn (by assumption)
        · exact ok_drawn (by assumption)
        · trivial
        · exact GStep.fwd_trans (halt_drawn (by assumption)) (endPrinting_fwd ..)
        · trivial
      · trivial
theorem early_fwd (p : Program) (fr : Frame) (cs : List Frame) (d : Option Dying) (g : Nat) (w : World) : GStep.fwd w (early p fr cs d g w) := by
  unfold early; dsimp only
  repeat' split
  all_goals first | trivial | exact Nat.le_refl _ | exact (ok_drawn (by assumption)) | (rename_i e _ _ _ _; exact (ok_drawn e :))
theorem apply_fwd (p : Program) (l : Bool) (fr : Frame) (cs : List Frame) (d : Option Dying) (s : Sem Next) (w : World) : GStep.fwd w (stepG.apply p l fr cs d s w) := by
  unfold stepG.apply
  have hr : (if l = true then s.runT p w #[] else (s.run p w, #[])).1 = s.run p w := by split <;> simp [Sem.runT_eq]
  generalize (if l = true then s.runT p w #[] else (s.run p w, #[])) = x at hr
  obtain ⟨r, es⟩ := x
  dsimp only at hr ⊢
  rw [GStep.fwd_after]
  subst hr
  split
  all_goals first
    | trivial | (exact ok_drawn (by assumption)) | (exact halt_drawn (by assumption))
    | (exact GStep.fwd_trans (halt_drawn (by assumption)) (endFatal_fwd ..))
    | (exact GStep.fwd_trans (halt_drawn (by assumption)) (endThrow_fwd ..))
    | (exact GStep.fwd_trans (halt_drawn (by assumption)) (early_fwd ..))
    | (exact fwd_ite (GStep.fwd_trans (ok_drawn (by assumption)) (endThrow_fwd ..)) (ok_drawn (by assumption)))
    | (split <;> (exact ok_drawn (by assumption)))

theorem oper_fwd (p : Program) (l : Bool) (fr : Frame) (cs : List Frame) (d : Option Dying) (w : World) : GStep.fwd w (stepG.oper p l fr cs d w) := by
  unfold stepG.oper
  split
  · trivial
  · split <;> exact apply_fwd ..
theorem exec_fwd (p : Program) (b l : Bool) (fr : Frame) (cs : List Frame) (d : Option Dying) (w : World) : GStep.fwd w (stepG.exec p b l fr cs d w) := by
  unfold stepG.exec; simp only [Sem.runT_eq]
  split
  all_goals first
    | exact Nat.le_refl _
    | trivial
    | exact apply_fwd ..
    | exact oper_fwd ..
    | (split <;> first | (rw [GStep.fwd_after]; split; (exact GStep.fwd_trans (ok_drawn (by assumption)) (doReturn_fwd ..)); trivial) | trivial | exact Nat.le_refl _ | exact fwd_ite (Nat.le_refl _) trivial)
    | (rw [GStep.fwd_after]; split
       · first | exact GStep.fwd_trans (ok_drawn (by assumption)) (apply_fwd ..) | exact ok_drawn (by assumption)
       all_goals first | trivial | exact halt_drawn (by assumption))
    | skip
  · cases exitTo _ _
    · dsimp only [Option.elim]; split <;> first | (rw [GStep.fwd_after]; split; (exact GStep.fwd_trans (ok_drawn (by assumption)) (doReturn_fwd ..)); trivial) | trivial | exact Nat.le_refl _ | exact fwd_ite (Nat.le_refl _) trivial
    · exact Nat.le_refl _
  · cases gotoIn _ _
    · dsimp only [Option.elim]; split <;> first | (rw [GStep.fwd_after]; split; (exact GStep.fwd_trans (ok_drawn (by assumption)) (doReturn_fwd ..)); trivial) | trivial | exact Nat.le_refl _ | exact fwd_ite (Nat.le_refl _) trivial
    · exact Nat.le_refl _
  · cases Extern.next _
    · trivial
    · exact apply_fwd ..
  · refine fwd_ite (Nat.le_refl _) ?_
    split
    · exact ok_drawn (by assumption)
    · trivial
  · exact fwd_ite (oper_fwd ..) (Nat.le_refl _)
theorem stepG_fwd (p : Program) (b : Bool) (g : Goroutine) (w : World) (l : Bool) : GStep.fwd w (stepG p b g w l) := by
  unfold stepG; dsimp only
  split
  · exact die_fwd ..
  · exact exec_fwd ..
  · exact unwind_fwd ..

def Stepped.fwd (n : Nat) : Stepped → Prop
  | .next m => n ≤ m.world.drawn
  | .ended .. => True
theorem Stepped.fwd_ite {n : Nat} {c : Prop} [Decidable c] {a b : Stepped} (ha : Stepped.fwd n a) (hb : Stepped.fwd n b) : Stepped.fwd n (if c then a else b) := by split <;> assumption
theorem look_fwd (p : Program) (gs : Array Goroutine) (rest : Rest) (w : World) : Stepped.fwd w.drawn (look p gs rest w) := by
  unfold look; dsimp only
  split
  · refine Stepped.fwd_ite trivial ?_
    split
    · trivial
    · split
      · rename_i h; exact (ok_drawn h :)
      all_goals trivial
  · trivial
theorem waitingAt_drawn {rest : Rest} {cases : Array CommCase} {w w' : World} (h : waitingAt rest cases w = some w') : w'.drawn = w.drawn := by
  unfold waitingAt at h
  split at h
  · split at h
    · cases h; rfl
    · cases h
  · cases h; rfl
theorem communicate_fwd (p : Program) (rest : Rest) (gs : Array Goroutine) (i : Nat) (g : Goroutine) (cases : Array CommCase) (b : Bool) (shape : CommShape) (w : World) : Stepped.fwd w.drawn (communicate p rest gs i g cases b shape w).1 := by
  unfold communicate; dsimp only
  split
  · trivial
  · split
    · split
      · split
        · rename_i h; exact Nat.le_of_eq (waitingAt_drawn h).symm
        · trivial
      · exact Nat.le_refl _
    · split
      · trivial
      · rename_i h
        have h0 := ok_drawn h
        split
        · split
          · rename_i k; exact Nat.le_trans h0 (halt_drawn k :)
          · trivial
        · exact h0
        · exact h0
        · split
          · exact h0
          · split
            · rename_i k; exact Nat.le_trans h0 (ok_drawn k :)
            · trivial
        · exact h0
        · exact h0
        · trivial
theorem withTimers_drawn (m : Machine) (ts : Array Timer) : (m.withTimers ts).world = m.world := rfl
theorem drain_drawn (w : World) (c : Nat) : (drain w c).2.drawn = w.drawn := by unfold drain; split <;> rfl
theorem retime_drawn (m : Machine) (k : Nat) (t : Timer) (a b : Nat) : (retime m k t a b).2.world.drawn = m.world.drawn := by
  unfold retime; dsimp only
  split
  · exact drain_drawn ..
  · rfl
theorem timerOp_drawn {m m' : Machine} {op : TimerOp} {v : Value} (h : timerOp m op = .ok (v, m')) : m'.world.drawn = m.world.drawn := by
  unfold timerOp at h
  split at h
  · split at h
    · cases h; rfl
    · split at h
      · split at h
        · cases h
        · cases h; rfl
      · cases h
  · unfold timerOp.named at h
    split at h
    · have := congrArg (fun x : Except Halt (Value × Machine) => match x with | .ok y => y.2.world.drawn | _ => 0) h
      dsimp only at this
      rw [← this]; exact retime_drawn ..
    · cases h
  · split at h
    · rename_i m2 ho
      have hm : m2.world.drawn = m.world.drawn := by
        unfold timerOp.opened at ho
        split at ho
        · split at ho
          · cases ho; rfl
          · cases ho
        · cases ho; rfl
      unfold timerOp.named at h
      split at h
      · have := congrArg (fun x : Except Halt (Value × Machine) => match x with | .ok y => y.2.world.drawn | _ => 0) h
        dsimp only at this
        rw [← this, retime_drawn]; exact hm
      · cases h
    · cases h
  · cases h; rfl
theorem Stepped.fwd_le {a b : Nat} (h : a ≤ b) {s : Stepped} (k : Stepped.fwd b s) : Stepped.fwd a s := by cases s; exact Nat.le_trans h k; trivial
theorem runT_fwd (p : Program) (m : Machine) (i : Nat) (l : Bool) : Stepped.fwd m.world.drawn (runT p m i l).1 := by
  unfold runT; dsimp only
  have hs := stepG_fwd p (i == 0) (m.gs.swapAt! i { (default : Goroutine) with status := .finished }).1 m.world l
  generalize stepG p (i == 0) (m.gs.swapAt! i { (default : Goroutine) with status := .finished }).1 m.world l = s at hs
  cases s
  case go => exact hs
  case spawn => exact hs
  case ended => trivial
  case comm =>
    dsimp only [GStep.fwd] at hs ⊢
    exact Stepped.fwd_le hs (communicate_fwd ..)
  case count => exact Stepped.fwd_ite trivial hs
  case alone => exact hs
  case collect =>
    exact Stepped.fwd_le hs (look_fwd ..)
  case watch => exact hs
  case newcoro => exact hs
  case coroswitch =>
    dsimp only [GStep.fwd] at hs ⊢
    split
    · exact hs
    · split
      · rename_i h; cases h; exact hs
      · trivial
    · trivial
  case timer =>
    dsimp only [GStep.fwd] at hs ⊢
    split
    · rename_i h
      exact Nat.le_trans hs (Nat.le_of_eq (timerOp_drawn h).symm)
    · split
      · rename_i h; cases h; exact hs
      · trivial
    all_goals trivial

theorem serve_fwd (p : Program) (m : Machine) (k : Nat) : Stepped.fwd m.world.drawn (serve p m k) := by
  unfold serve; split
  · trivial
  · exact Nat.le_refl _
  · dsimp only; split
    · trivial
    · exact Nat.le_refl _
def Move.fwd (n : Nat) : Move → Prop
  | .goroutine m _ => n ≤ m.world.drawn
  | .machine s _ => Stepped.fwd n s
theorem Move.fwd_ite {n : Nat} {c : Prop} [Decidable c] {a b : Move} (ha : Move.fwd n a) (hb : Move.fwd n b) : Move.fwd n (if c then a else b) := by split <;> assumption
theorem askOn_fwd (p : Program) (m : Machine) : Move.fwd m.world.drawn (askOn p m) := by
  unfold askOn; dsimp only
  split
  · trivial
  · rename_i h
    have h0 := ok_drawn h
    refine Move.fwd_ite (Stepped.fwd_le h0 (serve_fwd p { m with world := _ } _)) ?_
    split
    · split
      · exact h0
      · refine Move.fwd_ite h0 ?_
        split <;> trivial
    · split
      · split
        · trivial
        · rename_i h1
          refine Move.fwd_ite (Nat.le_trans h0 (ok_drawn h1 :)) ?_
          split
          · trivial
          · rename_i k1; exact Nat.le_trans h0 (Nat.le_trans (ok_drawn h1 :) (ok_drawn k1 :))
      · split
        · trivial
        · rename_i k
          have hk := Nat.le_trans h0 (ok_drawn k)
          split
          · trivial
          · rename_i h1
            refine Move.fwd_ite (Nat.le_trans hk (ok_drawn h1 :)) ?_
            split
            · trivial
            · rename_i k1; exact Nat.le_trans hk (Nat.le_trans (ok_drawn h1 :) (ok_drawn k1 :))
        · rename_i k; exact Nat.le_trans h0 (ok_drawn k :)
        · rename_i k
          have hk := Nat.le_trans h0 (ok_drawn k)
          split
          · trivial
          · rename_i h1
            refine Move.fwd_ite (Nat.le_trans hk (ok_drawn h1 :)) ?_
            split
            · trivial
            · rename_i k1; exact Nat.le_trans hk (Nat.le_trans (ok_drawn h1 :) (ok_drawn k1 :))
theorem move_fwd (p : Program) (m : Machine) : Move.fwd m.world.drawn (move p m) := by
  have ha : ∀ m2 : Machine, m.world.drawn ≤ m2.world.drawn → Move.fwd m.world.drawn (ask p m2) := by
    intro m2 h2
    have hm : ∀ {m3 : Machine}, m2.world.drawn ≤ m3.world.drawn → Move.fwd m.world.drawn (askOn p m3) := by
      intro m3 h3
      have := askOn_fwd p m3
      revert this
      cases askOn p m3
      · exact fun k => Nat.le_trans h2 (Nat.le_trans h3 k)
      · exact fun k => Stepped.fwd_le (Nat.le_trans h2 h3) k
    unfold ask
    split
    · split
      · trivial
      · rename_i wn h
        have hl := look_fwd p m2.gs m2.rest wn
        generalize look p m2.gs m2.rest wn = y at hl
        cases y
        · exact hm (Nat.le_trans (ok_drawn h) hl)
        · trivial
      · rename_i h; exact hm (m3 := { m2 with world := _ }) (ok_drawn h)
    · exact hm (Nat.le_refl _)
  unfold move
  split
  · exact Move.fwd_ite (Nat.le_refl _) trivial
  · split
    · exact Move.fwd_ite (Nat.le_refl _) (ha _ (Nat.le_refl _))
    · exact ha _ (Nat.le_refl _)
theorem step_fwd (p : Program) (m : Machine) : Stepped.fwd m.world.drawn (step p m) := by
  have h := move_fwd p m
  unfold step stepT
  revert h
  cases move p m
  · exact fun k => Stepped.fwd_le k (runT_fwd ..)
  · exact fun k => k
theorem Steps.drawn {P : Program} {m m' : Machine} (h : Steps P m m') : m.world.drawn ≤ m'.world.drawn := by
  obtain ⟨n, hn⟩ := h
  induction n generalizing m with
  | zero => simp [runN] at hn; rw [hn]; exact Nat.le_refl _
  | succ n ih =>
    simp only [runN] at hn
    have hs := step_fwd P m
    cases h1 : step P m with
    | next m1 => rw [h1] at hn hs; exact Nat.le_trans hs (ih hn)
    | ended o w => rw [h1] at hn; cases hn
/-- A call that ends has drawn forward. -/
theorem Calls.drawn {P : Program} {f : FuncId} {args : Array Value} {w : World} {R : Ending → World → Prop} (h : Calls P f args w R) :
    Calls P f args w fun e w' => R e w' ∧ (e ≠ .outgrown → w.drawn ≤ w'.drawn) := by
  intro cs
  obtain ⟨e, w', fr, hR, hc, hf, hl⟩ := h cs
  refine ⟨e, w', fr, ⟨hR, ?_⟩, hc, hf, hl⟩
  intro he
  cases e with
  | returned v => exact Steps.drawn hc
  | panicked c => exact Steps.drawn hc
  | outgrown => exact absurd rfl he
end Go.Proofs.YtokpphhmmcoeaaaGreatDoor

