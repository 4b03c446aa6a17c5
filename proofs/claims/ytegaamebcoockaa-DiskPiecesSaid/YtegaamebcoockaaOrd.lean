/-
  A region whose order is open, walked in ONE order: an operation that yields the same value in every world that has grown may be taken first; a call is taken where it alone may come up, and leaves a world that has grown. No program.
-/
import Derived.WalkKit
import Derived.BigQuiet
set_option linter.unusedVariables false
set_option linter.unusedSimpArgs false
set_option maxRecDepth 1000000
namespace Go.Proofs.Ytegaamebcoockaa.Ord
open Go.RowKit

/-- w' is w with new blocks (and draws): of what was there nothing has turned. -/
def Grew (w w' : World) : Prop := Below w.heap.size w w'
theorem Grew.refl (w : World) : Grew w w := Below.refl _ _
theorem Grew.trans {a b c : World} (h : Grew a b) (k : Grew b c) : Grew a c := Below.trans h (Below.mono k h.size)
/-- The worlds that have grown out of w. -/
structure GW (w : World) where
  val : World
  grew : Grew w val
instance (w : World) : Nonempty (GW w) := ⟨⟨w, Grew.refl w⟩⟩
/-- .. as a class of worlds. -/
def GC (w w' : World) : Prop := ∃ x : GW w, w' = x.val
theorem Grew.drew {a w : World} (h : Grew a w) : Grew a w.drew := Below.drew h

section
variable {P : Program} {ops : Array Oper} {Q : Exit → Act → World → Prop} {md : Region.Mode}

/-- Whatever order is picked from here on, each operation leaving a world that has grown. -/
def wpAnyG (P : Program) (md : Region.Mode) (ops : Array Oper) (Q : Exit → Act → World → Prop) : Nat → Array Bool → Act → World → Prop
  | 0, listed, a, w => Region.ready md ops listed = [] ∧ Q .normal a w
  | fuel + 1, listed, a, w =>
    (Region.ready md ops listed = [] → Q .normal a w) ∧
    ∀ i ∈ Region.ready md ops listed, wpOp P ops Q i (fun a' w' => Grew w w' ∧ wpAnyG P md ops Q fuel (listed.setIfInBounds i true) a' w') a w

theorem wpAny_of_G : ∀ (fuel : Nat) (listed : Array Bool) (a : Act) (w : World), wpAnyG P md ops Q fuel listed a w → wpAny P md ops Q fuel listed a w
  | 0, _, _, _, h => h
  | fuel + 1, _, _, _, h => ⟨h.1, fun i hi => wpOp_mono (fun a' w' h' => wpAny_of_G fuel _ a' w' h'.2) (h.2 i hi)⟩

/-- In state 'a' the operation yields v, in the world w and in all that have grown out of it. -/
def YieldsG (P : Program) (ops : Array Oper) (o : Oper) (v : Value) (a : Act) (w : World) : Prop :=
  (Region.wanted o (yielded ops a.tmps) = true ∧ ∀ w', Grew w w' → (execOp a.eval o).run P w' = .ok (.value v) w') ∨
  (Region.wanted o (yielded ops a.tmps) = false ∧ v = undef)

theorem YieldsG.later {o : Oper} {v : Value} {a : Act} {w w' : World} (h : YieldsG P ops o v a w) (hg : Grew w w') : YieldsG P ops o v a w' :=
  h.imp (fun ⟨h1, h2⟩ => ⟨h1, fun w'' h' => h2 w'' (hg.trans h')⟩) id

theorem YieldsG.wpOp {i : Nat} {o : Oper} {v : Value} {a : Act} {w : World} (hi : ops[i]? = some o) (hy : YieldsG P ops o v a w)
    {K : Act → World → Prop} (h : K (a.put o.dst v) w) : wpOp P ops Q i K a w := by
  unfold Go.wpOp
  simp only [hi]
  rcases hy with ⟨hw, hv⟩ | ⟨hw, rfl⟩
  · simp only [hw, if_true, Oper.wp, hv w (Grew.refl w), Oper.upon]; exact .inl h
  · simp only [hw, Bool.false_eq_true, if_false]; exact h

theorem YieldsG.of_same {o : Oper} {v : Value} {a a' : Act} {w : World} (hy : YieldsG P ops o v a w) (he : execOp a'.eval o = execOp a.eval o)
    (hw : Region.wanted o (yielded ops a'.tmps) = Region.wanted o (yielded ops a.tmps)) : YieldsG P ops o v a' w := by
  unfold YieldsG at *
  rw [he, hw]
  exact hy

theorem wpOpG_put {j : Nat} {oi oj : Oper} {v : Value} (hj : ops[j]? = some oj) (hap : oi.apart ops oj = true)
    (hsi : ∀ cs b, oi.op ≠ .select cs b) (hsj : ∀ cs b, oj.op ≠ .select cs b)
    (hQ : ∀ c a w, Q (.panic c) (a.put oi.dst v) w → Q (.panic c) a w) {K : Act → World → Prop} {a : Act} {w : World}
    (hy : YieldsG P ops oi v a w) (h : wpOp P ops Q j (fun a' w' => Grew w w' ∧ K a' w') (a.put oi.dst v) w) :
    wpOp P ops Q j (fun a' w' => Grew w w' ∧ YieldsG P ops oi v a' w' ∧ K (a'.put oi.dst v) w') a w := by
  obtain ⟨h1, h2, h3⟩ := Oper.apart_spec hap
  have keep : ∀ (a : Act) w', Grew w w' → YieldsG P ops oi v a w → ∀ u, YieldsG P ops oi v (a.put oj.dst u) w' := fun a w' hg hy u =>
    (hy.later hg).of_same (execOp_put oi hsi a oj.dst u h3) (wanted_put oi a oj.dst u h3)
  have keepD : ∀ d, YieldsG P ops oi v { a with defers := d :: a.defers } w := fun d => hy.of_same rfl rfl
  unfold wpOp at *
  simp only [hj] at *
  rw [wanted_put oj a oi.dst v h1] at h
  split
  · rename_i hw
    simp only [hw, if_true] at h
    rcases h with h | ⟨hasks, hlets⟩
    case inr => exact .inr ⟨by unfold Oper.asks at *; rw [execOp_put oj hsj a oi.dst v h1] at hasks; exact hasks, hlets⟩
    refine .inl ?_
    unfold Oper.wp at *
    rw [execOp_put oj hsj a oi.dst v h1] at h
    generalize (execOp a.eval oj).run P w = r at *
    cases r with
    | ok n w' =>
      cases n <;> simp only [Oper.upon] at h ⊢
      case value u => exact ⟨h.1, keep a _ h.1 hy u, by rw [← Act.put_comm a v u h2]; exact h.2⟩
      case skip => exact ⟨h.1, keep a _ h.1 hy _, by rw [← Act.put_comm a v undef h2]; exact h.2⟩
      case defer d =>
        refine ⟨h.1, keep _ _ h.1 (keepD d) _, ?_⟩
        rw [← Act.put_comm _ v undef h2, ← Act.put_defers]
        exact h.2
      case enter f args =>
        refine Calls.mono h fun e w'' he => ?_
        cases e with
        | returned u => exact ⟨he.1, keep a _ he.1 hy u, by rw [← Act.put_comm a v u h2]; exact he.2⟩
        | panicked c => exact hQ _ _ _ he
        | outgrown => exact he
      case row row args => exact Rows.mono h fun u w'' he => ⟨he.1, keep a _ he.1 hy u, by rw [← Act.put_comm a v u h2]; exact he.2⟩
    | halt x w' =>
      cases x <;> simp only [Oper.upon] at h ⊢
      case panic u => exact hQ _ _ _ h
  · rename_i hw
    simp only [hw] at h
    exact ⟨h.1, keep a _ h.1 hy _, by rw [← Act.put_comm a v undef h2]; exact h.2⟩

/-- An operation that may come up now, and yields its value whatever comes ahead of it, may be taken first. -/
theorem wpAnyG_first {i : Nat} {oi : Oper} {v : Value} (hi : ops[i]? = some oi) (hsel : ∀ (j : Nat) (o : Oper) cs b, ops[j]? = some o → o.op ≠ .select cs b)
    (hQ : ∀ c a w, Q (.panic c) (a.put oi.dst v) w → Q (.panic c) a w) :
    ∀ (fuel : Nat) (listed : Array Bool) (a : Act) (w : World),
      (∀ j oj, ops[j]? = some oj → j ≠ i → listed.getD j true = false → (∀ e ∈ oj.after, Region.binds md e = true → e.on ≠ i) → oi.apart ops oj = true) →
      i ∈ Region.ready md ops listed → YieldsG P ops oi v a w →
      wpAnyG P md ops Q fuel (listed.setIfInBounds i true) (a.put oi.dst v) w → wpAnyG P md ops Q (fuel + 1) listed a w := by
  intro fuel
  induction fuel with
  | zero =>
    intro listed a w _ hr hy H
    refine ⟨fun h => (by rw [h] at hr; cases hr), fun j hj => ?_⟩
    by_cases hji : j = i
    · subst hji; exact hy.wpOp hi ⟨Grew.refl _, H⟩
    · have := ready_mono hj hji
      rw [H.1] at this
      cases this
  | succ fuel ih =>
    intro listed a w hfree hr hy H
    refine ⟨fun h => (by rw [h] at hr; cases hr), fun j hj => ?_⟩
    by_cases hji : j = i
    · subst hji; exact hy.wpOp hi ⟨Grew.refl _, H⟩
    · have h1 := H.2 j (ready_mono hj hji)
      obtain ⟨hjun, oj, hoj, hall⟩ := mem_ready.1 hj
      have hnot : ∀ e ∈ oj.after, Region.binds md e = true → e.on ≠ i := fun e he hb heq => by
        have h1 := hall e he hb
        have h0 := (mem_ready.1 hr).1
        rw [heq] at h1
        rcases Nat.lt_or_ge i listed.size with h' | h'
        · simp [h'] at h0 h1; rw [h0] at h1; cases h1
        · simp [Array.getElem?_eq_none h'] at h1
      have h2 := wpOpG_put hoj (hfree j oj hoj hji hjun hnot) (fun cs b => hsel i oi cs b hi) (fun cs b => hsel j oj cs b hoj) hQ hy h1
      have hfree' : ∀ k ok, ops[k]? = some ok → k ≠ i → (listed.setIfInBounds j true).getD k true = false →
          (∀ e ∈ ok.after, Region.binds md e = true → e.on ≠ i) → oi.apart ops ok = true := fun k ok hk hki hun hno => by
        refine hfree k ok hk hki ?_ hno
        by_cases hjk : j = k
        · subst hjk; exact hjun
        · rw [getD_set_ne true hjk] at hun; exact hun
      refine wpOp_mono (fun a' w' h3 => ⟨h3.1, ih (listed.setIfInBounds j true) a' w' hfree' (ready_mono hr (Ne.symm hji)) h3.2.1 ?_⟩) h2
      rw [Array.setIfInBounds_comm _ _ hji]
      exact h3.2.2

/-- The walk in one order: a number, and whether the operation is a call ('loud': it alone may come up there). -/
def wpOrd (P : Program) (ops : Array Oper) (Q : Exit → Act → World → Prop) : List (Nat × Bool) → Act → World → Prop
  | [], a, w => Q .normal a w
  | (i, loud) :: rest, a, w =>
    match ops[i]? with
    | none => False
    | some o =>
      if Region.wanted o (yielded ops a.tmps) then
        if loud then o.wp P a w (fun a' w' => Grew w w' ∧ wpOrd P ops Q rest a' w') Q
        else ∃ v, (∀ w', Grew w w' → (execOp a.eval o).run P w' = .ok (.value v) w') ∧ wpOrd P ops Q rest (a.put o.dst v) w
      else wpOrd P ops Q rest (a.put o.dst undef) w

/-- The order fits: each operation may come up at its turn; a still one is apart from all that could come up else; a call is alone. -/
def ordB (md : Region.Mode) (ops : Array Oper) : List (Nat × Bool) → Array Bool → Bool
  | [], listed => (Region.ready md ops listed).isEmpty
  | (i, loud) :: rest, listed =>
    (if loud then Region.ready md ops listed == [i] else (Region.ready md ops listed).contains i && Region.free md ops listed i) && ordB md ops rest (listed.setIfInBounds i true)

theorem wpAnyG_ord (hs : Region.noSelect ops = true) (hQ : ∀ c a w d v, Q (.panic c) (Act.put a d v) w → Q (.panic c) a w) : ∀ (l : List (Nat × Bool)) (listed : Array Bool) (a : Act) (w : World),
    ordB md ops l listed = true → wpOrd P ops Q l a w → wpAnyG P md ops Q l.length listed a w
  | [], listed, a, w, hB, h => ⟨by simpa [ordB] using hB, h⟩
  | (i, loud) :: l, listed, a, w, hB, h => by
    simp only [ordB, Bool.and_eq_true] at hB
    obtain ⟨h1, h2⟩ := hB
    simp only [wpOrd] at h
    cases ho : ops[i]? with
    | none => simp only [ho] at h
    | some o =>
      simp only [ho] at h
      cases loud with
      | true =>
        simp only [if_true, beq_iff_eq] at h1
        refine ⟨fun h0 => (by rw [h1] at h0; cases h0), fun j hj => ?_⟩
        rw [h1] at hj
        obtain rfl : j = i := by simpa using hj
        unfold wpOp
        simp only [ho]
        split
        · rename_i hw
          simp only [hw, if_true] at h
          exact .inl (Oper.wp_mono (fun a' w' h' => ⟨h'.1, wpAnyG_ord hs hQ l _ a' w' h2 h'.2⟩) h)
        · rename_i hw
          simp only [hw] at h
          exact ⟨Grew.refl _, wpAnyG_ord hs hQ l _ _ w h2 h⟩
      | false =>
        simp only [Bool.false_eq_true, if_false, Bool.and_eq_true] at h1 h
        by_cases hw : Region.wanted o (yielded ops a.tmps) = true
        · simp only [hw, if_true] at h
          obtain ⟨v, hv, hk⟩ := h
          exact wpAnyG_first ho (Region.noSelect_spec hs) (fun c a w => hQ c a w o.dst v) l.length listed a w (Region.free_spec ho h1.2) (by simpa using h1.1) (.inl ⟨hw, hv⟩) (wpAnyG_ord hs hQ l _ _ w h2 hk)
        · simp only [hw] at h
          exact wpAnyG_first ho (Region.noSelect_spec hs) (fun c a w => hQ c a w o.dst undef) l.length listed a w (Region.free_spec ho h1.2) (by simpa using h1.1) (.inr ⟨by simpa using hw, rfl⟩) (wpAnyG_ord hs hQ l _ _ w h2 h)

/-- A region that draws its order, walked in one. -/
theorem wp_region_ord {id : Nat} {l : List Oper} {a : Act} {w : World} (ord : List (Nat × Bool)) (hm : P.follows .mixedOrders = true) (hlen : ord.length = l.length) (hs : Region.noSelect l.toArray = true)
    (hB : ordB .any l.toArray ord (Array.replicate l.toArray.size false) = true) (hQ : ∀ c a w d v, Q (.panic c) (Act.put a d v) w → Q (.panic c) a w)
    (h : wpOrd P l.toArray Q ord a w.drew) : (Code.region id l.toArray true).wp P Q a w := by
  refine wp_region_any hm (wpAny_of_G _ _ _ _ ?_)
  have := wpAnyG_ord (md := .any) hs hQ ord _ a w.drew hB h
  rw [hlen] at this
  simpa using this

/-- The operations that yield a value, or halt: no call of a function among them. -/
def plainOp : Op → Bool
  | .move _ | .assign _ | .pick .. | .load .. | .binOp .. | .unOp .. | .convert .. | .slice .. | .fieldAddr .. | .field .. | .indexAddr .. | .index .. | .lookup .. | .extract .. | .makeInterface .. | .makeFunc .. | .typeAssert .. | .nilCheck _ => true
  | .call { callee := .builtin .len, .. } | .call { callee := .builtin .cap, .. } | .call { callee := .builtin .min, .. } | .call { callee := .builtin .max, .. } => true
  | _ => false

theorem plain_v {s : Sem Value} {w w' : World} {r : Next} (h : (do pure (Next.value (← s)) : Sem Next).run P w = .ok r w') : ∃ u, r = .value u := by
  simp only [Sem.run_bind] at h
  cases hs : s.run P w with
  | ok a w1 => rw [hs] at h; simp only [Result.andThen, Sem.run_pure] at h; exact ⟨a, by injection h with h1 h2; exact h1.symm⟩
  | halt x w1 => rw [hs] at h; simp [Result.andThen] at h

theorem plain_value {o : Oper} (h : plainOp o.op = true) {ρ : Operand → Value} {w w' : World} {r : Next} (hr : (execOp ρ o).run P w = .ok r w') : ∃ u, r = .value u := by
  obtain ⟨dst, op, ty, pos, aft, gd⟩ := o
  cases op <;> simp only [plainOp] at h <;> try (exact absurd h (by decide))
  case call c =>
    obtain ⟨callee, args, tys⟩ := c
    cases callee with
    | value f => simp at h
    | invoke r m => simp at h
    | builtin b =>
      cases b <;> simp at h
      all_goals
        rw [BigFrame.execOp_builtin] at hr
        first | rw [BigFrame.builtin_len] at hr | rw [BigFrame.builtin_cap] at hr | rw [BigFrame.builtin_min] at hr | rw [BigFrame.builtin_max] at hr
        exact plain_v hr
  case nilCheck x =>
    simp only [execOp] at hr
    split at hr
    · exact absurd hr (by simp [runtimePanic, goPanic])
    · exact absurd hr (by simp [runtimePanic, goPanic])
    · exact absurd hr (by simp [runtimePanic, goPanic])
    · split at hr
      · exact absurd hr (by simp [runtimePanic, goPanic])
      · simp only [Sem.run_bind] at hr
        cases h1 : Sem.run P program w with
        | halt x w1 => rw [h1] at hr; simp [Result.andThen] at hr
        | ok a w1 =>
          rw [h1] at hr
          simp only [Result.andThen] at hr
          split at hr
          · rename_i b w2 h2
            split at hr
            · exact absurd hr (by simp [unsupported])
            · simp only [Sem.run_pure] at hr; injection hr with h1 h2; exact ⟨_, h1.symm⟩
          · exact absurd hr (by simp)
      · simp only [Sem.run_pure] at hr; injection hr with h1 h2; exact ⟨_, h1.symm⟩
    · simp only [Sem.run_pure] at hr; injection hr with h1 h2; exact ⟨_, h1.symm⟩
  case move x => simp only [execOp, Sem.run_pure] at hr; injection hr with h1 h2; exact ⟨_, h1.symm⟩
  case assign x => simp only [execOp, Sem.run_pure] at hr; injection hr with h1 h2; exact ⟨_, h1.symm⟩
  case pick c a b =>
    simp only [execOp, Sem.run_bind] at hr
    cases hs : (asBool (ρ c)).run P w with
    | ok a w1 => rw [hs] at hr; simp only [Result.andThen] at hr; split at hr <;> (simp only [Sem.run_pure] at hr; injection hr with h1 h2; exact ⟨_, h1.symm⟩)
    | halt x w1 => rw [hs] at hr; simp [Result.andThen] at hr
  all_goals exact plain_v (by simpa only [execOp] using hr)

/-- A still operation, at its turn: one value in every world that has grown. -/
theorem ord_still {i : Nat} {rest : List (Nat × Bool)} {a : Act} {w : World} {o : Oper} {l : List Oper} (hl : l[i]? = some o) (hp : plainOp o.op = true) (hg : Region.wanted o (yielded l.toArray a.tmps) = true)
    (h : ∀ K : Act → Prop, (∀ a, wpOrd P l.toArray Q rest a w → K a) → o.quiet P a (fun w' => ∃ x : GW w, w' = x.val) K) : wpOrd P l.toArray Q ((i, false) :: rest) a w := by
  have ho : l.toArray[i]? = some o := by simpa using hl
  simp only [wpOrd, ho, hg, if_true, Bool.false_eq_true, if_false]
  obtain ⟨v, h1, h2⟩ := h _ (fun _ h => h)
  refine ⟨v, fun w' hw' => ?_, h2⟩
  have h3 := h1 w' ⟨⟨w', hw'⟩, rfl⟩
  unfold Oper.quietAt at h3
  cases hr : (execOp a.eval o).run P w' with
  | halt x w1 => rw [hr] at h3; exact h3.elim
  | ok r w1 =>
    obtain ⟨u, rfl⟩ := plain_value hp hr
    rw [hr] at h3
    obtain ⟨rfl, rfl⟩ := h3
    rfl

/-- A call, at its turn. -/
theorem ord_loud {i : Nat} {rest : List (Nat × Bool)} {a : Act} {w : World} {o : Oper} {l : List Oper} (hl : l[i]? = some o) (hg : Region.wanted o (yielded l.toArray a.tmps) = true)
    (h : ∀ K : Act → World → Prop, (∀ a' w', Grew w w' → wpOrd P l.toArray Q rest a' w' → K a' w') → o.wp P a w K Q) : wpOrd P l.toArray Q ((i, true) :: rest) a w := by
  have ho : l.toArray[i]? = some o := by simpa using hl
  simp only [wpOrd, ho, hg, if_true]
  exact h _ (fun _ _ h1 h2 => ⟨h1, h2⟩)

/-- An operation whose guard says no: its slot holds nothing. -/
theorem ord_skip {i : Nat} {loud : Bool} {rest : List (Nat × Bool)} {a : Act} {w : World} {dst : Option Tmp} {op : Op} {ty : TypeId} {pos : String} {aft : Array Edge} {gd : Option (Nat × Bool)} {l : List Oper}
    (hl : l[i]? = some ⟨dst, op, ty, pos, aft, gd⟩) (hg : Region.wanted ⟨dst, op, ty, pos, aft, gd⟩ (yielded l.toArray a.tmps) = false)
    (h : ∀ K : Act → Prop, (∀ a, wpOrd P l.toArray Q rest a w → K a) → Oper.quiet P ⟨dst, .move (.const undef), ty, pos, aft, none⟩ a (fun w' => ∃ x : GW w, w' = x.val) K) : wpOrd P l.toArray Q ((i, loud) :: rest) a w := by
  have ho : l.toArray[i]? = some ⟨dst, op, ty, pos, aft, gd⟩ := by simpa using hl
  simp only [wpOrd, ho, hg, Bool.false_eq_true, if_false]
  obtain ⟨v, h1, h2⟩ := h _ (fun _ h => h)
  have h3 := h1 w ⟨⟨w, Grew.refl w⟩, rfl⟩
  unfold Oper.quietAt at h3
  rw [BigFrame.run_move (.const undef) rfl] at h3
  obtain ⟨_, rfl⟩ := h3
  exact h2

/-- The walk's end. -/
theorem ord_nil {a : Act} {w : World} (h : Q .normal a w) : wpOrd P ops Q [] a w := h

attribute [irreducible] wpOrd
end
end Go.Proofs.Ytegaamebcoockaa.Ord
