/-
  A region whose order is open, walked in ONE order, as in OrdR, where the last operation, that comes up behind all others, may turn whatever it does. No program.
-/
import Derived.Test.YtegaamebcoockaaOrdR
set_option linter.unusedVariables false
set_option linter.unusedSimpArgs false
set_option maxRecDepth 1000000
namespace Go.Proofs.Ytegaamebcoockaa.OrdZ
open Go.RowKit OrdR

def deps (md : Region.Mode) (ops : Array Oper) (j : Nat) : List Nat := match ops[j]? with
  | none => []
  | some o => (o.after.toList.filter (Region.binds md)).map (·.on)
def clos (md : Region.Mode) (ops : Array Oper) : Nat → List Nat → List Nat
  | 0, l => l
  | n + 1, l => clos md ops n (l ++ (l.map (deps md ops)).flatten).eraseDups
/-- All operations but z come ahead of z. -/
def lastB (md : Region.Mode) (ops : Array Oper) (z n : Nat) : Bool := (List.range ops.size).all fun i => i == z || (clos md ops n (deps md ops z)).contains i

section
variable {R : World → World → Prop} {P : Program} {ops : Array Oper} {Q : Exit → Act → World → Prop} {md : Region.Mode} {z : Nat}

def Closed (md : Region.Mode) (ops : Array Oper) (listed : Array Bool) : Prop := ∀ j, listed.getD j false = true → ∀ d ∈ deps md ops j, listed.getD d false = true

theorem Closed.all {listed : Array Bool} (h : Closed md ops listed) : ∀ (n : Nat) (l : List Nat), (∀ x ∈ l, listed.getD x false = true) → ∀ x ∈ clos md ops n l, listed.getD x false = true
  | 0, l, hl => hl
  | n + 1, l, hl => h.all n _ fun x hx => by
    rw [List.mem_eraseDups] at hx
    rcases List.mem_append.1 hx with hx | hx
    · exact hl x hx
    · obtain ⟨m, hm, hx⟩ := List.mem_flatten.1 hx
      obtain ⟨y, hy, rfl⟩ := List.mem_map.1 hm
      exact h y (hl y hy) x hx
theorem not_both {listed : Array Bool} {d : Nat} (h0 : listed.getD d true = false) (h1 : listed.getD d false = true) : False := by
  rw [Array.getD_eq_getD_getElem?] at h0 h1
  cases h : listed[d]? with
  | none => rw [h] at h1; cases h1
  | some b => rw [h] at h0 h1; simp at h0 h1; rw [h0] at h1; cases h1
theorem ready_deps {listed : Array Bool} {j : Nat} (hj : j ∈ Region.ready md ops listed) : listed.getD j true = false ∧ j < ops.size ∧ ∀ d ∈ deps md ops j, listed.getD d false = true := by
  obtain ⟨h0, oj, ho, hall⟩ := mem_ready.1 hj
  refine ⟨h0, (Array.getElem?_eq_some_iff.1 ho).1, fun d hd => ?_⟩
  unfold deps at hd
  rw [ho] at hd
  obtain ⟨e, he, rfl⟩ := List.mem_map.1 hd
  obtain ⟨h1, h2⟩ := List.mem_filter.1 he
  exact hall e (by simpa using h1) h2
theorem getD_set_ne' {listed : Array Bool} {j k : Nat} (h : j ≠ k) : (listed.setIfInBounds j true).getD k false = listed.getD k false := by
  rw [Array.getD_eq_getD_getElem?, Array.getD_eq_getD_getElem?, Array.getElem?_setIfInBounds_ne h]
theorem Closed.set {listed : Array Bool} (h : Closed md ops listed) {j : Nat} (hj : j ∈ Region.ready md ops listed) : Closed md ops (listed.setIfInBounds j true) := by
  obtain ⟨h0, _, hd⟩ := ready_deps hj
  have key : ∀ d, listed.getD d false = true → (listed.setIfInBounds j true).getD d false = true := fun d hd => by
    by_cases e : j = d
    · subst e; exact (not_both h0 hd).elim
    · rw [getD_set_ne' e]; exact hd
  intro k hl d hdk
  by_cases e : j = k
  · subst e; exact key d (hd d hdk)
  · rw [getD_set_ne' e] at hl
    exact key d (h k hl d hdk)
theorem last_of {n : Nat} (hB : lastB md ops z n = true) {listed : Array Bool} (hc : Closed md ops listed) (hz : z ∈ Region.ready md ops listed) {i : Nat} (hi : i ∈ Region.ready md ops listed) : i = z := by
  obtain ⟨h0, hs, _⟩ := ready_deps hi
  obtain ⟨_, _, hd⟩ := ready_deps hz
  have h1 := List.all_eq_true.1 hB i (List.mem_range.2 hs)
  simp only [Bool.or_eq_true, beq_iff_eq, List.contains_iff_mem] at h1
  rcases h1 with h1 | h1
  · exact h1
  · exact (not_both h0 (hc.all n _ hd i h1)).elim

def wpAnyZ (R : World → World → Prop) (z : Nat) (P : Program) (md : Region.Mode) (ops : Array Oper) (Q : Exit → Act → World → Prop) : Nat → Array Bool → Act → World → Prop
  | 0, listed, a, w => Region.ready md ops listed = [] ∧ Q .normal a w
  | fuel + 1, listed, a, w =>
    (Region.ready md ops listed = [] → Q .normal a w) ∧
    ∀ i ∈ Region.ready md ops listed, wpOp P ops Q i (fun a' w' => (i ≠ z → R w w') ∧ wpAnyZ R z P md ops Q fuel (listed.setIfInBounds i true) a' w') a w

theorem wpAny_of_Z : ∀ (fuel : Nat) (listed : Array Bool) (a : Act) (w : World), wpAnyZ R z P md ops Q fuel listed a w → wpAny P md ops Q fuel listed a w
  | 0, _, _, _, h => h
  | fuel + 1, _, _, _, h => ⟨h.1, fun i hi => wpOp_mono (fun a' w' h' => wpAny_of_Z fuel _ a' w' h'.2) (h.2 i hi)⟩

theorem wpAnyZ_first (hR : OrdR.Way R) {n : Nat} (hB : lastB md ops z n = true) {i : Nat} {oi : Oper} {v : Value} (hi : ops[i]? = some oi) (hiz : i ≠ z) (hsel : ∀ (j : Nat) (o : Oper) cs b, ops[j]? = some o → o.op ≠ .select cs b)
    (hQ : ∀ c a w, Q (.panic c) (a.put oi.dst v) w → Q (.panic c) a w) :
    ∀ (fuel : Nat) (listed : Array Bool) (a : Act) (w : World), Closed md ops listed →
      (∀ j oj, ops[j]? = some oj → j ≠ i → listed.getD j true = false → (∀ e ∈ oj.after, Region.binds md e = true → e.on ≠ i) → oi.apart ops oj = true) →
      i ∈ Region.ready md ops listed → YieldsG R P ops oi v a w →
      wpAnyZ R z P md ops Q fuel (listed.setIfInBounds i true) (a.put oi.dst v) w → wpAnyZ R z P md ops Q (fuel + 1) listed a w := by
  intro fuel
  induction fuel with
  | zero =>
    intro listed a w _ _ hr hy H
    refine ⟨fun h => (by rw [h] at hr; cases hr), fun j hj => ?_⟩
    by_cases hji : j = i
    · subst hji; exact YieldsG.wpOp hR hi hy ⟨fun _ => hR.refl _, H⟩
    · have := ready_mono hj hji
      rw [H.1] at this
      cases this
  | succ fuel ih =>
    intro listed a w hcl hfree hr hy H
    refine ⟨fun h => (by rw [h] at hr; cases hr), fun j hj => ?_⟩
    by_cases hji : j = i
    · subst hji; exact YieldsG.wpOp hR hi hy ⟨fun _ => hR.refl _, H⟩
    · have hjz : j ≠ z := fun e => hiz (last_of hB hcl (e ▸ hj) hr)
      have h1 := H.2 j (ready_mono hj hji)
      obtain ⟨hjun, oj, hoj, hall⟩ := mem_ready.1 hj
      have hnot : ∀ e ∈ oj.after, Region.binds md e = true → e.on ≠ i := fun e he hb heq => by
        have h1 := hall e he hb
        have h0 := (mem_ready.1 hr).1
        rw [heq] at h1
        rcases Nat.lt_or_ge i listed.size with h' | h'
        · simp [h'] at h0 h1; rw [h0] at h1; cases h1
        · simp [Array.getElem?_eq_none h'] at h1
      have h2 := wpOpG_put hR hoj (hfree j oj hoj hji hjun hnot) (fun cs b => hsel i oi cs b hi) (fun cs b => hsel j oj cs b hoj) hQ hy (wpOp_mono (fun a' w' h' => ⟨h'.1 hjz, h'.2⟩) h1)
      have hfree' : ∀ k ok, ops[k]? = some ok → k ≠ i → (listed.setIfInBounds j true).getD k true = false →
          (∀ e ∈ ok.after, Region.binds md e = true → e.on ≠ i) → oi.apart ops ok = true := fun k ok hk hki hun hno => by
        refine hfree k ok hk hki ?_ hno
        by_cases hjk : j = k
        · subst hjk; exact hjun
        · rw [getD_set_ne true hjk] at hun; exact hun
      refine wpOp_mono (fun a' w' h3 => ⟨fun _ => h3.1, ih (listed.setIfInBounds j true) a' w' (hcl.set hj) hfree' (ready_mono hr (Ne.symm hji)) h3.2.1 ?_⟩) h2
      rw [Array.setIfInBounds_comm _ _ hji]
      exact h3.2.2

/-- The walk in one order: a number, and whether the operation is a call ('loud': it alone may come up there). -/
def wpOrd (R : World → World → Prop) (z : Nat) (P : Program) (ops : Array Oper) (Q : Exit → Act → World → Prop) : List (Nat × Bool) → Act → World → Prop
  | [], a, w => Q .normal a w
  | (i, loud) :: rest, a, w =>
    match ops[i]? with
    | none => False
    | some o =>
      if Region.wanted o (yielded ops a.tmps) then
        if loud then o.wp P a w (fun a' w' => (i ≠ z → R w w') ∧ wpOrd R z P ops Q rest a' w') Q
        else i ≠ z ∧ ∃ v, (∀ w', R w w' → (execOp a.eval o).run P w' = .ok (.value v) w') ∧ wpOrd R z P ops Q rest (a.put o.dst v) w
      else False

theorem wpAnyZ_ord (hR : OrdR.Way R) {n : Nat} (hL : lastB md ops z n = true) (hs : Region.noSelect ops = true) (hQ : ∀ c a w d v, Q (.panic c) (Act.put a d v) w → Q (.panic c) a w) : ∀ (l : List (Nat × Bool)) (listed : Array Bool) (a : Act) (w : World), Closed md ops listed →
    Ord.ordB md ops l listed = true → wpOrd R z P ops Q l a w → wpAnyZ R z P md ops Q l.length listed a w
  | [], listed, a, w, _, hB, h => ⟨by simpa [Ord.ordB] using hB, h⟩
  | (i, loud) :: l, listed, a, w, hC, hB, h => by
    simp only [Ord.ordB, Bool.and_eq_true] at hB
    obtain ⟨h1, h2⟩ := hB
    simp only [wpOrd] at h
    cases ho : ops[i]? with
    | none => simp only [ho] at h
    | some o =>
      simp only [ho] at h
      cases loud with
      | true =>
        simp only [if_true, beq_iff_eq] at h1
        have hi : i ∈ Region.ready md ops listed := by rw [h1]; exact List.mem_singleton.2 rfl
        refine ⟨fun h0 => (by rw [h1] at h0; cases h0), fun j hj => ?_⟩
        rw [h1] at hj
        obtain rfl : j = i := by simpa using hj
        unfold wpOp
        simp only [ho]
        split
        · rename_i hw
          simp only [hw, if_true] at h
          exact .inl (Oper.wp_mono (fun a' w' h' => ⟨h'.1, wpAnyZ_ord hR hL hs hQ l _ a' w' (hC.set hi) h2 h'.2⟩) h)
        · rename_i hw
          simp only [hw] at h
          exact h.elim
      | false =>
        simp only [Bool.false_eq_true, if_false, Bool.and_eq_true] at h1 h
        have hi : i ∈ Region.ready md ops listed := by simpa using h1.1
        by_cases hw : Region.wanted o (yielded ops a.tmps) = true
        · simp only [hw, if_true] at h
          obtain ⟨hz, v, hv, hk⟩ := h
          exact wpAnyZ_first hR hL ho hz (Region.noSelect_spec hs) (fun c a w => hQ c a w o.dst v) l.length listed a w hC (Region.free_spec ho h1.2) hi (.inl ⟨hw, hv⟩) (wpAnyZ_ord hR hL hs hQ l _ _ w (hC.set hi) h2 hk)
        · simp only [hw] at h
          exact h.elim

/-- A region that draws its order, walked in one; z comes last. -/
theorem wp_region_ord (hR : OrdR.Way R) {id : Nat} {l : List Oper} {a : Act} {w : World} (ord : List (Nat × Bool)) (z n : Nat) (hL : lastB .any l.toArray z n = true) (hm : P.follows .mixedOrders = true) (hlen : ord.length = l.length) (hs : Region.noSelect l.toArray = true)
    (hB : Ord.ordB .any l.toArray ord (Array.replicate l.toArray.size false) = true) (hQ : ∀ c a w d v, Q (.panic c) (Act.put a d v) w → Q (.panic c) a w)
    (h : wpOrd R z P l.toArray Q ord a w.drew) : (Code.region id l.toArray true).wp P Q a w := by
  refine wp_region_any hm (wpAny_of_Z (R := R) (z := z) _ _ _ _ ?_)
  have hC : Closed .any l.toArray (Array.replicate l.toArray.size false) := fun j hl => by
    rw [Array.getD_eq_getD_getElem?] at hl
    by_cases hj : j < l.length <;> simp [hj] at hl
  have := wpAnyZ_ord (md := .any) hR hL hs hQ ord _ a w.drew hC hB h
  rw [hlen] at this
  simpa using this

/-- A still operation, at its turn: one value in every world that has grown. -/
theorem ord_still {i : Nat} {rest : List (Nat × Bool)} {a : Act} {w : World} {o : Oper} {l : List Oper} (hz : i ≠ z) (hl : l[i]? = some o) (hp : Ord.plainOp o.op = true) (hg : Region.wanted o (yielded l.toArray a.tmps) = true)
    (h : ∀ K : Act → Prop, (∀ a, wpOrd R z P l.toArray Q rest a w → K a) → o.quiet P a (fun w' => ∃ x : GW R w, w' = x.val) K) : wpOrd R z P l.toArray Q ((i, false) :: rest) a w := by
  have ho : l.toArray[i]? = some o := by simpa using hl
  simp only [wpOrd, ho, hg, if_true, Bool.false_eq_true, if_false]
  obtain ⟨v, h1, h2⟩ := h _ (fun _ h => h)
  refine ⟨hz, v, fun w' hw' => ?_, h2⟩
  have h3 := h1 w' ⟨⟨w', hw'⟩, rfl⟩
  unfold Oper.quietAt at h3
  cases hr : (execOp a.eval o).run P w' with
  | halt x w1 => rw [hr] at h3; exact h3.elim
  | ok r w1 =>
    obtain ⟨u, rfl⟩ := Ord.plain_value hp hr
    rw [hr] at h3
    obtain ⟨rfl, rfl⟩ := h3
    rfl

/-- A call, at its turn. -/
theorem ord_loud {i : Nat} {rest : List (Nat × Bool)} {a : Act} {w : World} {o : Oper} {l : List Oper} (hl : l[i]? = some o) (hg : Region.wanted o (yielded l.toArray a.tmps) = true)
    (h : ∀ K : Act → World → Prop, (∀ a' w', R w w' → wpOrd R z P l.toArray Q rest a' w' → K a' w') → o.wp P a w K Q) : wpOrd R z P l.toArray Q ((i, true) :: rest) a w := by
  have ho : l.toArray[i]? = some o := by simpa using hl
  simp only [wpOrd, ho, hg, if_true]
  exact h _ (fun _ _ h1 h2 => ⟨fun _ => h1, h2⟩)

/-- The last one. -/
theorem ord_last {a : Act} {w : World} {o : Oper} {l : List Oper} (hl : l[z]? = some o) (hg : Region.wanted o (yielded l.toArray a.tmps) = true)
    (h : ∀ K : Act → World → Prop, (∀ a' w', Q .normal a' w' → K a' w') → o.wp P a w K Q) : wpOrd R z P l.toArray Q [(z, true)] a w := by
  have ho : l.toArray[z]? = some o := by simpa using hl
  simp only [wpOrd, ho, hg, if_true]
  exact h _ (fun _ _ h2 => ⟨fun h => absurd rfl h, h2⟩)

attribute [irreducible] wpOrd
end
end Go.Proofs.Ytegaamebcoockaa.OrdZ
