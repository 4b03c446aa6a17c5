/-
  What layer 8 tells of pairs, in lists (no program in it).
-/
import Derived.Test.YtokpphhmmcoeaaaGreatDoorGZPure
import Derived.Test.YtokpphhmmcoeaaaGreatDoorGBaseB
import Derived.Test.YtokpphhmmcoeaaaGreatDoorGRow
import Derived.Test.YtokpphhmmcoeaaaGreatDoorGW
import Derived.Test.YtokpphhmmcoeaaaGreatDoorGBaseA
set_option linter.unusedVariables false
set_option linter.unusedSimpArgs false
set_option maxRecDepth 1000000
namespace Go.Proofs.YtokpphhmmcoeaaaGreatDoor
open Go.RowKit Go.Shelf

/-- A row that may be. -/
def Vr (cs : List ColB) (r : List CellB) : Prop := errRow cs r = 0 ∧ CES r
theorem to_row (cs : List ColB) : Z.TO (Vr cs) (cmpR cs) := by
  refine ⟨fun {a b} ha hb => ?_, fun {a b} ha hb => ?_, fun {a b c} ha hb hc h1 h2 => ?_⟩
  · rw [cmpR_row ha.1 hb.1]; exact cmpL_zero (okR_row ha.2 ha.1) (okR_row hb.2 hb.1)
  · rw [cmpR_row ha.1 hb.1, cmpR_row hb.1 ha.1]; exact cmpL_flip (okR_row ha.2 ha.1) (okR_row hb.2 hb.1)
  · rw [cmpR_row ha.1 hb.1] at h1
    rw [cmpR_row hb.1 hc.1] at h2
    rw [cmpR_row ha.1 hc.1]
    exact (cmpL_trans (okR_row ha.2 ha.1) (okR_row hb.2 hb.1) (okR_row hc.2 hc.1) (by omega) (by omega)).2 (.inl h1)

/-- What is wrong with pairs behind a row. -/
def chkF (cs : List ColB) : Option (List CellB) → List PairB → Nat
  | _, [] => 0
  | q, p :: t => if errRow cs p.1 ≠ 0 then errRow cs p.1 else if p.2 = 0 then 2 else
      match q with
      | some r => if 0 ≤ cmpR cs r p.1 then 9 else chkF cs (some p.1) t
      | none => chkF cs (some p.1) t
def chkZ (cs : List ColB) (ps : List PairB) : Nat := if errS (colsL cs) ≠ 0 then errS (colsL cs) else if 1024 < ps.length then 13 else chkF cs none ps
/-- The first row's error. -/
def firstE (cs : List ColB) : List PairB → Nat
  | [] => 0
  | p :: t => if errRow cs p.1 ≠ 0 then errRow cs p.1 else firstE cs t
/-- A sum that is none. -/
def overB (pt : List PairB) : Bool := pt.any fun p => wE p.2 != 0
abbrev partsC (cs : List ColB) (ps : List PairB) : List PairB := Z.parts (cmpR cs) ps
abbrev canonC (cs : List ColB) (ps : List PairB) : List PairB := Z.canon (cmpR cs) ps
def clcE (cs : List ColB) (ps : List PairB) : Nat :=
  if errS (colsL cs) ≠ 0 then errS (colsL cs) else if firstE cs ps ≠ 0 then firstE cs ps else if overB (partsC cs ps) = true then 12 else if 1024 < (canonC cs ps).length then 13 else 0
def clcO (cs : List ColB) (ps : List PairB) : List PairB := if clcE cs ps = 0 then canonC cs ps else []
def sumE (cs : List ColB) (a b : List PairB) : Nat := if chkZ cs a ≠ 0 then chkZ cs a else if chkZ cs b ≠ 0 then chkZ cs b else clcE cs (a ++ b)
def sumO (cs : List ColB) (a b : List PairB) : List PairB := if sumE cs a b = 0 then canonC cs (a ++ b) else []
def minB (a : List PairB) : Bool := a.any fun p => p.2 == -9223372036854775808
def negE (cs : List ColB) (a : List PairB) : Nat := if chkZ cs a ≠ 0 then chkZ cs a else if minB a = true then 12 else 0
def negO (cs : List ColB) (a : List PairB) : List PairB := if negE cs a = 0 then Z.negs a else []
def wgt (cs : List ColB) (a : List PairB) (r : List CellB) : Int := if chkZ cs a ≠ 0 ∨ errRow cs r ≠ 0 then 0 else Z.sumW a r

section
variable {cs : List ColB} {ps qs a b : List PairB}

theorem chkF_codes : ∀ (q : Option (List CellB)) (ps : List PairB), chkF cs q ps ≤ 13
  | _, [] => by simp [chkF]
  | q, p :: t => by
    have h1 := errRow_codes cs p.1
    have h2 := chkF_codes (some p.1) t
    unfold chkF
    split
    · exact h1
    · split
      · omega
      · split
        · split <;> omega
        · exact h2
theorem chkZ_codes : chkZ cs ps ≤ 13 := by
  have := errS_codes (colsL cs)
  have := chkF_codes (cs := cs) none ps
  unfold chkZ; split
  · omega
  · split <;> omega
theorem firstE_codes : ∀ (ps : List PairB), firstE cs ps ≤ 13
  | [] => by simp [firstE]
  | p :: t => by
    have h1 := errRow_codes cs p.1
    have h2 := firstE_codes t
    unfold firstE; split <;> omega
theorem clcE_codes : clcE cs ps ≤ 13 := by
  have := errS_codes (colsL cs)
  have := firstE_codes (cs := cs) ps
  unfold clcE; repeat' split
  all_goals omega

theorem firstE_zero : ∀ {ps : List PairB}, firstE cs ps = 0 ↔ ∀ p ∈ ps, errRow cs p.1 = 0
  | [] => by simp [firstE]
  | p :: t => by
    unfold firstE
    by_cases h : errRow cs p.1 = 0
    · rw [if_neg (fun h9 => h9 h), firstE_zero]
      simp [h]
    · rw [if_pos h]
      constructor
      · intro h9; exact absurd h9 h
      · intro h9; exact absurd (h9 p (by simp)) h
theorem allV_of (hP : PSO ps) (h : ∀ p ∈ ps, errRow cs p.1 = 0) : Z.AllV (Vr cs) ps := fun p hp => ⟨h p hp, (hP p hp).1⟩

theorem chkF_zero (hP : PSO ps) : ∀ {q : Option (List CellB)}, (∀ r, q = some r → Vr cs r) → (chkF cs q ps = 0 ↔ Z.isSet (Vr cs) (cmpR cs) ps ∧ ∀ r, q = some r → ∀ p ∈ ps, cmpR cs r p.1 < 0) := by
  induction ps with
  | nil => intro q _; simp [chkF, Z.isSet.nil]
  | cons p t ih =>
    intro q hq
    have hPt : PSO t := hP.sub (fun x hx => by simp [hx])
    have hcons : ∀ (hv : Vr cs p.1) (h0 : p.2 ≠ 0), (Z.isSet (Vr cs) (cmpR cs) (p :: t) ↔ Z.isSet (Vr cs) (cmpR cs) t ∧ ∀ x ∈ t, cmpR cs p.1 x.1 < 0) := fun hv h0 => by
      constructor
      · intro h
        exact ⟨h.sub (List.sublist_cons_self p t), (List.pairwise_cons.1 h.srt).1⟩
      · rintro ⟨h1, h2⟩
        exact ⟨List.pairwise_cons.2 ⟨h2, h1.srt⟩, fun x hx => by rcases List.mem_cons.1 hx with rfl | hx; exact hv; exact h1.all x hx, fun x hx => by rcases List.mem_cons.1 hx with rfl | hx; exact h0; exact h1.nz x hx⟩
    unfold chkF
    by_cases h1 : errRow cs p.1 = 0
    · have hv : Vr cs p.1 := ⟨h1, (hP p (by simp)).1⟩
      rw [if_neg (fun h9 => h9 h1)]
      by_cases h2 : p.2 = 0
      · rw [if_pos h2]
        constructor
        · intro h; cases h
        · rintro ⟨h, _⟩; exact absurd h2 (h.nz p (by simp))
      · rw [if_neg h2]
        have iht := ih hPt (q := some p.1) (fun r hr => by injection hr with hr; rw [← hr]; exact hv)
        have hnext : chkF cs (some p.1) t = 0 ↔ Z.isSet (Vr cs) (cmpR cs) (p :: t) := by
          rw [iht, hcons hv h2]
          constructor
          · rintro ⟨h3, h4⟩; exact ⟨h3, h4 p.1 rfl⟩
          · rintro ⟨h3, h4⟩; exact ⟨h3, fun r hr => by injection hr with hr; rw [← hr]; exact h4⟩
        cases q with
        | none =>
          show chkF cs (some p.1) t = 0 ↔ _
          rw [hnext]
          constructor
          · intro h; exact ⟨h, fun r hr => by cases hr⟩
          · rintro ⟨h, _⟩; exact h
        | some r =>
          have hr := hq r rfl
          show (if 0 ≤ cmpR cs r p.1 then 9 else chkF cs (some p.1) t) = 0 ↔ _
          by_cases h3 : 0 ≤ cmpR cs r p.1
          · rw [if_pos h3]
            constructor
            · intro h; cases h
            · rintro ⟨_, h⟩; have := h r rfl p (by simp); omega
          · rw [if_neg h3, hnext]
            constructor
            · intro h
              refine ⟨h, fun r' hr' x hx => ?_⟩
              injection hr' with hr'
              subst hr'
              rcases List.mem_cons.1 hx with rfl | hx
              · omega
              · exact (to_row cs).trans hr hv (h.all x (by simp [hx])) (by omega) ((List.pairwise_cons.1 h.srt).1 x hx)
            · rintro ⟨h, _⟩; exact h
    · rw [if_pos h1]
      constructor
      · intro h; exact absurd h h1
      · rintro ⟨h, _⟩; exact absurd (h.all p (by simp)).1 h1
/-- Pairs of which nothing is wrong are a set, and not too many. -/
theorem chkZ_zero (hP : PSO ps) : chkZ cs ps = 0 ↔ errS (colsL cs) = 0 ∧ ps.length ≤ 1024 ∧ Z.isSet (Vr cs) (cmpR cs) ps := by
  unfold chkZ
  by_cases h1 : errS (colsL cs) = 0
  · rw [if_neg (fun h9 => h9 h1)]
    by_cases h2 : 1024 < ps.length
    · rw [if_pos h2]
      constructor
      · intro h; cases h
      · rintro ⟨_, h, _⟩; omega
    · rw [if_neg h2, chkF_zero hP (fun r hr => by cases hr)]
      constructor
      · rintro ⟨h, _⟩; exact ⟨h1, by omega, h⟩
      · rintro ⟨_, _, h⟩; exact ⟨h, fun r hr => by cases hr⟩
  · rw [if_pos h1]
    constructor
    · intro h; exact absurd h h1
    · rintro ⟨h, _⟩; exact absurd h h1

theorem wE_zero {x : Int} : wE x = 0 ↔ i64 x := by
  by_cases h : i64 x
  · rw [show wE x = 0 from if_pos h]; simp [h]
  · rw [show wE x = 12 from if_neg h]; simp [h]
theorem overB_false : overB ps = false ↔ ∀ p ∈ ps, i64 p.2 := by
  unfold overB
  rw [List.any_eq_false]
  constructor
  · intro h p hp; have := h p hp; exact wE_zero.1 (by simpa using this)
  · intro h p hp; have := wE_zero.2 (h p hp); simp [this]
theorem i64_zero : i64 0 := ⟨by omega, by omega⟩
/-- No error just if all rows may be, each sum is a weight, and there aren't too many. -/
theorem clcE_zero (hP : PSO ps) : clcE cs ps = 0 ↔ errS (colsL cs) = 0 ∧ Z.AllV (Vr cs) ps ∧ (∀ r, i64 (Z.sumW ps r)) ∧ (canonC cs ps).length ≤ 1024 := by
  unfold clcE
  by_cases h1 : errS (colsL cs) = 0
  · rw [if_neg (fun h9 => h9 h1)]
    by_cases h2 : firstE cs ps = 0
    · have hV := allV_of (cs := cs) hP (firstE_zero.1 h2)
      have hall := Z.parts_all (to_row cs) hV (I := i64) i64_zero
      rw [if_neg (fun h9 => h9 h2)]
      by_cases h3 : overB (partsC cs ps) = true
      · rw [if_pos h3]
        constructor
        · intro h; cases h
        · rintro ⟨_, _, h, _⟩
          have := overB_false.2 (hall.2 h)
          rw [h3] at this; cases this
      · rw [if_neg h3]
        have h3' := hall.1 (overB_false.1 (by simpa using h3))
        by_cases h4 : 1024 < (canonC cs ps).length
        · rw [if_pos h4]
          constructor
          · intro h; cases h
          · rintro ⟨_, _, _, h⟩; omega
        · rw [if_neg h4]
          constructor
          · intro _; exact ⟨h1, hV, h3', by omega⟩
          · intro _; rfl
    · rw [if_pos h2]
      constructor
      · intro h; exact absurd h h2
      · rintro ⟨_, h, _⟩; exact absurd (firstE_zero.2 fun p hp => (h p hp).1) h2
  · rw [if_pos h1]
    constructor
    · intro h; exact absurd h h1
    · rintro ⟨h, _⟩; exact absurd h h1

theorem mem_rows {pt : List PairB} (h : ∀ r, Z.has pt r → Z.has ps r) (hP : PSO ps) (hw : ∀ p ∈ pt, i64 p.2) : PSO pt := fun p hp => by
  obtain ⟨q, hq, e⟩ := h p.1 ⟨p, hp, rfl⟩
  refine ⟨?_, hw p hp⟩
  rw [← e]; exact (hP q hq).1
/-- What a set of pairs is made of. -/
theorem canon_pso (hP : PSO ps) (hV : Z.AllV (Vr cs) ps) (hw : ∀ r, i64 (Z.sumW ps r)) : PSO (canonC cs ps) := by
  have h1 := (Z.parts_all (to_row cs) hV (I := i64) i64_zero).2 hw
  refine mem_rows (ps := ps) (fun r ⟨p, hp, e⟩ => (Z.parts_has ps r).1 ⟨p, (List.mem_filter.1 hp).1, e⟩) hP fun p hp => h1 p (List.mem_filter.1 hp).1
theorem clcO_pso (hP : PSO ps) : PSO (clcO cs ps) := by
  unfold clcO; split
  · rename_i h
    obtain ⟨_, h2, h3, _⟩ := (clcE_zero hP).1 h
    exact canon_pso hP h2 h3
  · intro p hp; simp at hp
end

end Go.Proofs.YtokpphhmmcoeaaaGreatDoor


/-
  Layer 8's law: whether pairs are more than are looked at; its example's schema.
-/
namespace Go.Proofs.YtokpphhmmcoeaaaGreatDoor
open Go.RowKit Go.Shelf

def pairsE : Elt := ⟨53, 27, 1, 24, .slice none 0 0⟩
theorem pairsOk : pairsE.Ok := ⟨Tryz.underlying53, by kernel_rfl, by kernel_rfl, rfl, by decide⟩
def RdPs (w : World) (v : Value) (vals : List Value) : Prop := RdG pairsE w v (vals.map fun x => [x])

theorem rdPs_block {w : World} {b : Nat} {vals : List Value} {z : Nat × Nat} (h : w.heap[b]? = some (.cells vals.toArray 27 z)) (hs : vals.length ≤ 100) : RdPs w (.slice (some ⟨b, 0, none⟩) vals.length vals.length) vals := by
  refine ⟨⟨_, _, by rw [List.length_map], by rw [List.length_map]; omega, (by intro h; cases h), fun _ => ⟨_, _, rfl⟩⟩, fun i hi j u hu => ?_, fun x hx => ?_, by rw [List.length_map]; omega⟩
  · rw [List.length_map] at hi
    rw [getD_map (fun x => [x]) vals i hi undef] at hu
    obtain rfl : j = 0 := by
      have := (List.getElem?_eq_some_iff.1 hu).1
      simpa using this
    have hu : vals.getD i undef = u := by simpa using hu
    rw [adr_lit, cell_of_row _ _ _ _ _ z h, List.getElem?_toArray]
    show vals[0 + (i * 1 + 0)]? = some u
    rw [show 0 + (i * 1 + 0) = i from by omega, List.getElem?_eq_getElem hi, ← hu]
    simp [List.getD, hi]
  · obtain ⟨c, _, rfl⟩ := List.mem_map.1 hx
    rfl

/-- A row that isn't great. -/
def smallR (r : List CellB) : Prop := r.length ≤ 8 ∧ ∀ c ∈ r, c.2.size ≤ 256
def gP (p : PairB) : Int := 1 + sizeW p.1 + (p.1.length : Int)
def gS : List PairB → Int
  | [] => 0
  | p :: t => gP p + gS t
theorem gS_append (a b : List PairB) : gS (a ++ b) = gS a + gS b := by
  induction a with
  | nil => simp [gS]
  | cons p t ih => simp only [List.cons_append, gS, ih]; omega
theorem w64_inG {x : Int} (h : -9223372036854775808 ≤ x ∧ x ≤ 9223372036854775807) : wrap64 x = x := by unfold wrap64; omega
theorem sizeW_small : ∀ (r : List CellB) (x : Int), r.length ≤ 100 → (∀ c ∈ r, c.2.size ≤ 256) → 0 ≤ x → x + 256 * (r.length : Int) ≤ 1000000 → x ≤ r.foldl (fun n c => wrap64 (n + (c.2.size : Int))) x ∧ r.foldl (fun n c => wrap64 (n + (c.2.size : Int))) x ≤ x + 256 * (r.length : Int)
  | [], x, _, _, _, _ => by simp
  | c :: t, x, hl, h, h0, h1 => by
    have hc := h c (by simp)
    simp only [List.length_cons] at h1 hl ⊢
    push_cast at h1 ⊢
    have e : wrap64 (x + (c.2.size : Int)) = x + (c.2.size : Int) := w64_inG ⟨by omega, by omega⟩
    rw [List.foldl_cons, e]
    have := sizeW_small t (x + (c.2.size : Int)) (by omega) (fun d hd => h d (by simp [hd])) (by omega) (by omega)
    omega
theorem gP_small {p : PairB} (h : smallR p.1) : 0 ≤ sizeW p.1 ∧ sizeW p.1 ≤ 2048 ∧ 1 ≤ gP p ∧ gP p ≤ 2057 := by
  obtain ⟨h1, h2⟩ := h
  have := sizeW_small p.1 0 (by omega) h2 (by omega) (by omega)
  have e : sizeW p.1 = p.1.foldl (fun n c => wrap64 (n + (c.2.size : Int))) 0 := rfl
  unfold gP
  rw [e]; omega
theorem gS_small : ∀ {l : List PairB}, (∀ p ∈ l, smallR p.1) → (l.length : Int) ≤ gS l ∧ gS l ≤ 2057 * (l.length : Int)
  | [], _ => by simp [gS]
  | p :: t, h => by
    have h1 := gP_small (h p (by simp))
    have h2 := gS_small (l := t) (fun q hq => h q (by simp [hq]))
    simp only [gS, List.length_cons]; push_cast; omega
theorem row_small {cs : List ColB} {r : List CellB} (h : errRow cs r = 0) : smallR r := by
  obtain ⟨h1, h2, h3⟩ := errRow_len h
  have h8 := ((errS_iffR (colsL cs)).1 h1).1.2
  unfold colsL at h8; rw [List.length_map] at h8
  refine ⟨by omega, fun c hc => ?_⟩
  obtain ⟨i, hi, rfl⟩ := List.getElem_of_mem hc
  have hz := errP_zero h3 (cs[i]'(by omega), r[i]) (by
    have : (cs.zip r)[i]'(by rw [List.length_zip]; omega) = (cs[i]'(by omega), r[i]) := List.getElem_zip
    rw [← this]; exact List.getElem_mem _)
  unfold chk checkC at hz
  split at hz
  · cases hz
  · split at hz
    · cases hz
    · split at hz
      · cases hz
      · rename_i h9
        have : (r[i]).2.data.toList.length ≤ 256 := by dsimp only at h9; omega
        simpa using this

/-- What is known of pairs that aren't more than are looked at. -/
def fewP (l : List PairB) : Prop := (∀ p ∈ l, smallR p.1) → l.length ≤ 5000
def fewG (l : List PairB) : Prop := (∀ p ∈ l, smallR p.1) → gS l ≤ 5000
theorem fewG.few {l : List PairB} (h : fewG l) : fewP l := fun hs => by have h1 := h hs; have h2 := (gS_small hs).1; omega

set_option maxHeartbeats 8000000 in
theorem law08_greatG (v : Value) (vals : List Value) (pss : List (List PairB)) (w : World) (h : RdPs w v vals) (hn3 : vals.length ≤ 12) (hl : pss.length = vals.length) (hr : ∀ i, i < vals.length → ∀ wz, Below w.heap.size w wz → RdP wz (vals.getD i undef) (pss.getD i [])) :
    Calls Tryz.prog 18 #[v] w fun e w' => ∃ x : Int, e = .returned (.int .i64 x) ∧ (x = 0 ∨ x = 1) ∧ (x = 0 → fewG pss.flatten) ∧ Below w.heap.size w w' := by
  have hlen := RdG.len h pairsOk
  rw [List.length_map] at hlen
  have HH := Lib.hid h
  have HR := Lib.hid hr
  have HS3 := Lib.hid (show ∀ i, i < vals.length → (pss.getD i []).length ≤ 140737488351232 from fun i hi => (hr i hi w (Below.refl _ _)).small)
  obtain ⟨n, hn⟩ : ∃ n, n = vals.length := ⟨_, rfl⟩
  rw [← hn] at hlen hn3
  have hlen : ∀ u, (Builtin.len_ #[53] 3 #[v]).run Tryz.prog u = .ok (.int .i64 (n : Int)) u := hlen
  have HN := Lib.hid hn
  have HL := Lib.hid hl
  have hsz0 : (∀ i, i ≤ n → ((pss.take i).flatten.length : Int) ≤ (i : Int) * 140737488351232) := fun i => by
    induction i with
    | zero => intro _; simp
    | succ i ih =>
      intro hi
      have h1 := ih (by omega)
      have hip : i < pss.length := by rw [HL.out, ← HN.out]; omega
      have h2 := HS3.out i (by rw [← HN.out]; omega)
      have e : pss.take (i + 1) = pss.take i ++ [pss.getD i []] := by
        rw [List.take_add_one]; simp [List.getD, hip]
      rw [e, List.flatten_append, List.length_append, List.flatten_singleton]
      push_cast; omega
  have HSZ := Lib.hid hsz0
  clear h hn hr hl hsz0
  go_enter Tryz.func18, Tryz.ntmps18
  go_wp2
  go_loopw [3, 10] (fun a i wr => ∃ (k : Nat) (x : Int), k ≤ n ∧ i = .int .i64 k ∧ a = .int .i64 x ∧ Hid ((∀ p ∈ pss.flatten, smallR p.1) → x = gS (pss.take k).flatten) ∧ Hid (Below w.heap.size w wr)) (fun _ i _ => n - (intOf i).toNat)
  case atStart => exact ⟨0, 0, by omega, rfl, rfl, Lib.hid (fun _ => rfl), Lib.hid (Below.refl _ _)⟩
  case round =>
    obtain ⟨k, x, hk, rfl, rfl, HX, HB⟩ := hrel
    by_cases hlt : k < n
    · have hr := RdG.later HH.out pairsOk HB.out (Nat.le_refl _)
      have hl2 : k < (vals.map fun x => [x]).length := by rw [List.length_map, ← HN.out]; exact hlt
      have hidx := RdG.idx hr pairsOk k hl2
      obtain ⟨b, o, ha, hc⟩ := RdG.at hr hl2
      rw [ha] at hidx
      rw [getD_map (fun x => [x]) vals k (by rw [← HN.out]; exact hlt) undef] at hc
      have hc0 := hc 0 _ rfl
      rw [Nat.add_zero] at hc0
      have hre := HR.out k (by rw [← HN.out]; exact hlt)
      have HTK := Lib.hid (show pss.take (k + 1) = pss.take k ++ [pss.getD k []] from by
        rw [List.take_add_one]; simp [List.getD, show k < pss.length by rw [HL.out, ← HN.out]; exact hlt])
      have HMEM := Lib.hid (show pss.getD k [] ∈ pss from by simp [List.getD, show k < pss.length by rw [HL.out, ← HN.out]; exact hlt])
      obtain ⟨rv, hrv⟩ : ∃ rv, rv = vals.getD k undef := ⟨_, rfl⟩
      rw [← hrv] at hc0 hre
      obtain ⟨ps, hps⟩ : ∃ ps, ps = pss.getD k [] := ⟨_, rfl⟩
      rw [← hps] at hre HTK HMEM
      have HRE := Lib.hid hre
      have hl5 := (HRE.out wr HB.out).len
      have hsm5 := (HRE.out wr HB.out).small
      have hzk := HSZ.out k (by omega)
      obtain ⟨m, hm⟩ : ∃ m, m = ps.length := ⟨_, rfl⟩
      rw [← hm] at hl5 hsm5
      have HM := Lib.hid hm
      have hidx : ∀ u, (Instr.indexAt 53 v (.int .i64 (k : Int))).run Tryz.prog u = .ok (.pointer (some ⟨b, o, none⟩)) u := hidx
      clear hr hl2 ha hc hre hrv hps hm
      have HZK := Lib.hid hzk
      clear hzk
      go_wp2
      go_loopw [3, 16] (fun a i wr => ∃ (j : Nat) (y : Int), j ≤ m ∧ i = .int .i64 j ∧ a = .int .i64 y ∧ Hid ((∀ p ∈ pss.flatten, smallR p.1) → y = gS ((pss.take k).flatten ++ ps.take j)) ∧ Hid (Below w.heap.size w wr)) (fun _ i _ => m - (intOf i).toNat)
      case atStart => exact ⟨0, _, by omega, rfl, rfl, Lib.hid (fun h => by rw [HX.out h]; simp), HB⟩
      case round =>
        clear HB hc0 hidx
        obtain ⟨j, y, hj, rfl, rfl, HY, HB⟩ := hrel
        by_cases hjl : j < m
        · have hj2 : j < ps.length := by rw [← HM.out]; exact hjl
          obtain ⟨b9, o9, rw9, hidx, hc0, hc1, hre9, hbl9⟩ := (HRE.out wr HB.out).get hj2
          have HPT := Lib.hid (show ps.take (j + 1) = ps.take j ++ [ps.getD j default] from by
            rw [List.take_add_one]; simp [List.getD, hj2])
          have HPM := Lib.hid (show ps.getD j default ∈ pss.flatten from List.mem_flatten.2 ⟨ps, HMEM.out, by simp [List.getD, hj2]⟩)
          obtain ⟨p, hp⟩ : ∃ p, p = ps.getD j default := ⟨_, rfl⟩
          rw [← hp] at hc1 hre9 HPT HPM
          rcases p with ⟨r, z⟩
          dsimp only at hc1 hre9
          obtain ⟨ao, no, co, rfl⟩ := hre9.lit
          obtain ⟨w7, hw7⟩ : ∃ w7, w7 = wr.alloc (.cells #[.slice ao no co, .int .i64 z] 75) := ⟨_, rfl⟩
          have hbb := (Below.refl wr.heap.size wr).alloc (Nat.le_refl _) (.cells #[.slice ao no co, .int .i64 z] 75)
          have hg7 := heap_alloc_new wr (.cells #[.slice ao no co, .int .i64 z] 75)
          rw [← hw7] at hbb hg7
          have HB7 := Lib.hid (HB.out.trans (hbb.mono HB.out.size)).drew
          have hre7 := (hre9.later hbb (Nat.le_refl _)).drew
          have hl7 := hre7.len
          have SZ := Lib.hid (fun wz (hz : Below w7.drew.heap.size w7.drew wz) => ref_Size06 (.slice ao no co) r wz (hre7.later hz (Nat.le_refl _)))
          have hW7 := Below.refl w7.drew.heap.size w7.drew
          have hg7' : (w7.drew).heap[wr.heap.size]? = _ := hg7
          have s0 := fun x : Ord.GW w7.drew => keep_cell x.grew (cell_of_row _ _ 0 _ _ _ hg7')
          simp at s0
          have hrl : r.length ≤ 140737488351232 := hre9.small
          clear hg7 hg7' hbb hre7 hre9 hp hj2
          subst hw7
          go_wp2_with fail
          refine OrdR.wp_region_ord Ord.way [(0, false), (1, false), (2, false), (5, false), (6, false), (7, false), (3, true), (4, false), (8, false), (9, false), (10, false)] (by kernel_rfl) rfl (by kernel_rfl) (by kernel_rfl) (fun _ _ _ d _ h => by cases d <;> exact h) ?_
          refine OrdR.ord_still rfl rfl (by kernel_rfl) (fun K hK => ?_)
          go_big_quiet_op
          refine hK _ ?_; clear hK K
          refine OrdR.ord_still rfl rfl (by kernel_rfl) (fun K hK => ?_)
          go_big_quiet_op
          refine hK _ ?_; clear hK K
          refine OrdR.ord_still rfl rfl (by kernel_rfl) (fun K hK => ?_)
          go_big_quiet_op
          refine hK _ ?_; clear hK K
          refine OrdR.ord_still rfl rfl (by kernel_rfl) (fun K hK => ?_)
          go_big_quiet_op
          refine hK _ ?_; clear hK K
          refine OrdR.ord_still rfl rfl (by kernel_rfl) (fun K hK => ?_)
          go_big_quiet_op
          refine hK _ ?_; clear hK K
          refine OrdR.ord_still rfl rfl (by kernel_rfl) (fun K hK => ?_)
          go_big_quiet_op
          refine hK _ ?_; clear hK K
          refine OrdR.ord_loud rfl (by kernel_rfl) (fun K hK => ?_)
          go_big_op
          refine (SZ.out _ hW7).mono ?_
          rintro e w8 ⟨rfl, hb⟩
          refine hK _ _ hb ?_
          have HB8 := Lib.hid (HB7.out.trans (hb.mono HB7.out.size))
          clear hb
          clear hK K
          refine OrdR.ord_still rfl rfl (by kernel_rfl) (fun K hK => ?_)
          go_big_quiet_op
          refine hK _ ?_; clear hK K
          refine OrdR.ord_still rfl rfl (by kernel_rfl) (fun K hK => ?_)
          go_big_quiet_op
          refine hK _ ?_; clear hK K
          refine OrdR.ord_still rfl rfl (by kernel_rfl) (fun K hK => ?_)
          go_big_quiet_op
          refine hK _ ?_; clear hK K
          refine OrdR.ord_still rfl rfl (by kernel_rfl) (fun K hK => ?_)
          go_big_quiet_op
          refine hK _ ?_; clear hK K
          refine OrdR.ord_nil ?_
          have HY2 := Lib.hid (show (∀ p ∈ pss.flatten, smallR p.1) → wrap64 (y + wrap64 (wrap64 (1 + sizeW r) + (r.length : Int))) = gS ((pss.take k).flatten ++ ps.take (j + 1)) from fun hs => by
            obtain ⟨g1, g2, g3, g4⟩ := gP_small (hs _ HPM.out)
            have hy := HY.out hs
            have hsub : ∀ q ∈ (pss.take k).flatten ++ ps.take j, smallR q.1 := fun q hq => by
              rcases List.mem_append.1 hq with hq | hq
              · obtain ⟨l, hl, hq⟩ := List.mem_flatten.1 hq
                exact hs q (List.mem_flatten.2 ⟨l, List.mem_of_mem_take hl, hq⟩)
              · exact hs q (List.mem_flatten.2 ⟨ps, HMEM.out, List.mem_of_mem_take hq⟩)
            have hb := gS_small hsub
            rw [List.length_append, List.length_take] at hb
            have hzk := HZK.out
            dsimp only at g1 g2
            have hrs : (r.length : Int) ≤ 8 := by have := (hs _ HPM.out).1; dsimp only at this; omega
            rw [HPT.out, ← List.append_assoc, gS_append, ← hy]
            have e1 : gS [((r, z) : PairB)] = 1 + sizeW r + (r.length : Int) := by simp [gS, gP]
            rw [e1]
            rw [← hy] at hb
            push_cast at hb
            have hj9 : ((min j ps.length : Nat) : Int) ≤ 140737488351232 := by have := HM.out; omega
            have w1 : wrap64 (1 + sizeW r) = 1 + sizeW r := w64_inG ⟨by omega, by omega⟩
            have w2 : wrap64 (1 + sizeW r + (r.length : Int)) = 1 + sizeW r + (r.length : Int) := w64_inG ⟨by omega, by omega⟩
            have w3 : wrap64 (y + (1 + sizeW r + (r.length : Int))) = y + (1 + sizeW r + (r.length : Int)) := w64_inG ⟨by omega, by omega⟩
            rw [w1, w2, w3])
          go_wp2
          go_roundw
          case rel => exact ⟨j + 1, _, by omega, by go_num, rfl, HY2, HB8⟩
          case measure => simp [intOf]; omega
        · obtain rfl : j = m := by omega
          have HX2 := Lib.hid (show (∀ p ∈ pss.flatten, smallR p.1) → y = gS (pss.take (k + 1)).flatten from fun hs => by
            rw [HY.out hs, HTK.out, List.flatten_append, List.flatten_singleton, List.take_of_length_le (l := ps) (by rw [← HM.out]; exact Nat.le_refl _)])
          clear hjl
          go_wp2
          go_roundw
          case rel => exact ⟨k + 1, _, by omega, by go_num, rfl, HX2, HB⟩
          case measure => simp [intOf]; omega
    · obtain rfl : k = n := by omega
      have HF := Lib.hid (show x ≤ 5000 → fewG pss.flatten from fun hx hs => by
        have h1 := HX.out hs
        rw [List.take_of_length_le (by rw [HL.out, ← HN.out]; exact Nat.le_refl _)] at h1
        omega)
      clear hlt
      by_cases hx : 5000 < x
      · have hd : decide (5000 < x) = true := decide_eq_true hx
        go_wp2
        go_ret
        exact ⟨1, rfl, .inr rfl, fun h => absurd h (by decide), HB.out⟩
      · have hd : decide (5000 < x) = false := decide_eq_false hx
        go_wp2
        go_ret
        exact ⟨0, rfl, .inl rfl, fun _ => HF.out (by omega), HB.out⟩

theorem law08_greatN (v : Value) (vals : List Value) (pss : List (List PairB)) (w : World) (h : RdPs w v vals) (hn3 : vals.length ≤ 12) (hl : pss.length = vals.length) (hr : ∀ i, i < vals.length → ∀ wz, Below w.heap.size w wz → RdP wz (vals.getD i undef) (pss.getD i [])) :
    Calls Tryz.prog 18 #[v] w fun e w' => ∃ x : Int, e = .returned (.int .i64 x) ∧ (x = 0 ∨ x = 1) ∧ (x = 0 → fewP pss.flatten) ∧ Below w.heap.size w w' := by
  refine (law08_greatG v vals pss w h hn3 hl hr).mono ?_
  rintro e w' ⟨x, he, hx, hf, hb⟩
  exact ⟨x, he, hx, fun h0 => (hf h0).few, hb⟩

theorem law08_great (v : Value) (vals : List Value) (pss : List (List PairB)) (w : World) (h : RdPs w v vals) (hn3 : vals.length ≤ 3) (hl : pss.length = vals.length) (hr : ∀ i, i < vals.length → ∀ wz, Below w.heap.size w wz → RdP wz (vals.getD i undef) (pss.getD i [])) :
    Calls Tryz.prog 18 #[v] w fun e w' => ∃ x : Int, e = .returned (.int .i64 x) ∧ (x = 0 ∨ x = 1) ∧ (x = 0 → fewP pss.flatten) ∧ Below w.heap.size w w' :=
  law08_greatN v vals pss w h (by omega) hl hr

end Go.Proofs.YtokpphhmmcoeaaaGreatDoor

