/-
  Pairs in a slice of the call's own whose rows are the call's own too, each apart from all others: a row may grow, a weight be stored.
-/
import Derived.Test.YteiphdcgffapbaaGreatDoorGBaseB
set_option linter.unusedVariables false
set_option linter.unusedSimpArgs false
set_option maxRecDepth 1000000
namespace Go.Proofs.YteiphdcgffapbaaGreatDoor
open Go.RowKit

structure OwnM (w : World) (base gP : Nat) (ts : List TriB) : Prop where
  blk : w.heap[gP]? = some (.cells (ts.map triV).flatten.toArray 64 (0, 0))
  lo : base ≤ gP
  few : ts.length ≤ 1024
  rows : ∀ (i : Nat) (t : TriB), ts[i]? = some t → OwnE w (gP + 1) t.1 t.2.1
  wide : ∀ t ∈ ts, t.2.1.length ≤ 1024
  apart : ∀ (i j : Nat) (t u : TriB) (q : Nat), ts[i]? = some t → ts[j]? = some u → i ≠ j → t.1.ownBlock = some q → u.1.ownBlock ≠ some q

theorem flat_set : ∀ (ts : List TriB) (i : Nat) (t : TriB), i < ts.length → ((ts.map triV).flatten.set (2 * i) t.1).set (2 * i + 1) (.int .i64 t.2.2) = ((ts.set i t).map triV).flatten
  | [], i, t, h => by simp at h
  | u :: r, 0, t, h => by simp [triV]
  | u :: r, i + 1, t, h => by
    have ih := flat_set r i t (by simpa using h)
    rw [List.set_cons_succ, List.map_cons, List.map_cons, List.flatten_cons, List.flatten_cons, ← ih]
    have e : triV u ++ (r.map triV).flatten = u.1 :: .int .i64 u.2.2 :: (r.map triV).flatten := rfl
    have e2 : ∀ l : List Value, triV u ++ l = u.1 :: .int .i64 u.2.2 :: l := fun _ => rfl
    rw [e, e2, show 2 * (i + 1) = 2 * i + 1 + 1 from by omega, List.set_cons_succ, List.set_cons_succ, List.set_cons_succ, List.set_cons_succ]
theorem flat_get : ∀ (ts : List TriB) (i : Nat) (t : TriB), ts[i]? = some t → (ts.map triV).flatten[2 * i]? = some t.1 ∧ (ts.map triV).flatten[2 * i + 1]? = some (.int .i64 t.2.2)
  | [], i, t, h => by simp at h
  | u :: r, 0, t, h => by
    obtain rfl : u = t := by simpa using h
    exact ⟨rfl, rfl⟩
  | u :: r, i + 1, t, h => by
    obtain ⟨h1, h2⟩ := flat_get r i t (by simpa using h)
    rw [List.map_cons, List.flatten_cons]
    show ([u.1, Value.int .i64 u.2.2] ++ (r.map triV).flatten)[2 * (i + 1)]? = _ ∧ ([u.1, Value.int .i64 u.2.2] ++ (r.map triV).flatten)[2 * (i + 1) + 1]? = _
    rw [show 2 * (i + 1) = 2 * i + 2 from by omega]
    exact ⟨by simpa using h1, by simpa using h2⟩
theorem _root_.List.set_getElem?_self9 {α : Type} {l : List α} {i : Nat} {x : α} (h : l[i]? = some x) : l.set i x = l := by
  apply List.ext_getElem?
  intro j
  rw [List.getElem?_set]
  split
  · rename_i e
    subst e
    rw [h, if_pos (List.getElem?_eq_some_iff.1 h).1]
  · rfl
/-- A row alone is put anew. -/
theorem flat_row (ts : List TriB) (i : Nat) (t u : TriB) (hi : ts[i]? = some t) (hw : u.2.2 = t.2.2) : (ts.map triV).flatten.set (2 * i) u.1 = ((ts.set i u).map triV).flatten := by
  have hl := (List.getElem?_eq_some_iff.1 hi).1
  rw [← flat_set ts i u hl]
  obtain ⟨_, h2⟩ := flat_get ts i t hi
  rw [hw]
  symm
  apply List.set_getElem?_self9
  rw [List.getElem?_set_ne (by omega)]
  exact h2

section
variable {w w' : World} {base gP : Nat} {ts : List TriB}
theorem OwnM.cell (h : OwnM w base gP ts) {i : Nat} {t : TriB} (hi : ts[i]? = some t) : w.cell? ⟨gP, 2 * i, none⟩ = some t.1 ∧ w.cell? ⟨gP, 2 * i + 1, none⟩ = some (.int .i64 t.2.2) ∧ w.frozen? ⟨gP, 2 * i, none⟩ = false ∧ w.frozen? ⟨gP, 2 * i + 1, none⟩ = false := by
  obtain ⟨h1, h2⟩ := flat_get ts i t hi
  refine ⟨?_, ?_, frozen_of_row _ _ _ _ _ h.blk, frozen_of_row _ _ _ _ _ h.blk⟩
  · rw [cell_of_row _ _ _ _ _ _ h.blk, List.getElem?_toArray]; exact h1
  · rw [cell_of_row _ _ _ _ _ _ h.blk, List.getElem?_toArray]; exact h2
theorem OwnM.lt (h : OwnM w base gP ts) : gP < w.heap.size := (Array.getElem?_eq_some_iff.1 h.blk).1
/-- Another block turns, or new ones come. -/
theorem OwnM.aside (h : OwnM w base gP ts) {r : Option Nat} (hg : w.grownBy w' r) (hr : ∀ q, r = some q → q ≠ gP ∧ ∀ t ∈ ts, t.1.ownBlock ≠ some q) : OwnM w' base gP ts := by
  refine ⟨(hg.block gP h.lt (fun e => (hr gP e.symm).1 rfl)).trans h.blk, h.lo, h.few, fun i t hi => ?_, h.wide, h.apart⟩
  refine (h.rows i t hi).grown hg (fun k hk e => ?_)
  exact (hr k e.symm).2 t (List.mem_of_getElem? hi) hk
theorem OwnM.later (h : OwnM w base gP ts) (hb : Below w.heap.size w w') : OwnM w' base gP ts :=
  h.aside (r := none) ⟨hb.os, hb.tape, hb.output, hb.size, fun j hj _ => hb.block j hj⟩ (fun q e => by cases e)
/-- 'out[i].Row = append(out[i].Row, c)': the row grows, and its value is stored. -/
theorem OwnM.grow (h : OwnM w base gP ts) {i : Nat} {t : TriB} (hi : ts[i]? = some t) {rv : Value} {c : CellB} (hO : OwnE w' (gP + 1) rv (t.2.1 ++ [c])) (hg : w.grownBy w' t.1.ownBlock)
    (hp : rv.ownBlock = t.1.ownBlock ∨ ∀ q, rv.ownBlock = some q → w.heap.size ≤ q) (hw : t.2.1.length + 1 ≤ 1024) :
    OwnM (w'.setCell ⟨gP, 2 * i, none⟩ rv) base gP (ts.set i (rv, (t.2.1 ++ [c], t.2.2))) := by
  have hil := (List.getElem?_eq_some_iff.1 hi).1
  have hown := h.rows i t hi
  have hne : ∀ q, t.1.ownBlock = some q → gP + 1 ≤ q ∧ q < w.heap.size := fun q hq => OwnE.lt hown hq
  have hblk : w'.heap[gP]? = some (.cells (ts.map triV).flatten.toArray 64 (0, 0)) := (hg.block gP h.lt (fun e => by have := hne gP e.symm; omega)).trans h.blk
  have hgs : w'.grownBy (w'.setCell ⟨gP, 2 * i, none⟩ rv) (some gP) := grown_setCell (World.grownBy.refl _ _) _
  refine ⟨?_, h.lo, by rw [List.length_set]; exact h.few, fun j u hj => ?_, fun u hu => ?_, fun j k a b q hj hk hjk hq => ?_⟩
  · rw [block_setCell hblk rv]
    rw [List.setIfInBounds_toArray, flat_row ts i t (rv, (t.2.1 ++ [c], t.2.2)) hi rfl]
  · rw [List.getElem?_set] at hj
    split at hj
    · rename_i e
      subst e
      injection hj with hj
      subst hj
      exact hO.grown hgs (fun q hq e => by injection e with e; have := (OwnE.lt hO hq).1; omega)
    · rename_i e
      have h1 := h.rows j u hj
      refine (h1.grown hg (fun q hq e2 => ?_)).grown hgs (fun q hq e2 => ?_)
      · exact h.apart j i u t q hj hi (fun e3 => e e3.symm) hq (e2.symm)
      · injection e2 with e2; have := (OwnE.lt h1 hq).1; omega
  · rcases List.mem_or_eq_of_mem_set hu with hu | rfl
    · exact h.wide u hu
    · show (t.2.1 ++ [c]).length ≤ 1024
      rw [List.length_append, List.length_singleton]; exact hw
  · have key : ∀ (k : Nat) (b : TriB) (q : Nat), k ≠ i → ts[k]? = some b → rv.ownBlock = some q → b.1.ownBlock ≠ some q := fun k b q hki hb hq hb2 => by
      rcases hp with e | e
      · exact h.apart k i b t q hb hi hki hb2 (by rw [← e]; exact hq)
      · have := e q hq
        have := (OwnE.lt (h.rows k b hb) hb2).2
        omega
    rw [List.getElem?_set] at hj hk
    split at hj
    · rename_i ej
      injection hj with hj
      subst hj
      rw [if_neg (by omega)] at hk
      exact key k b q (by omega) hk hq
    · rename_i ej
      split at hk
      · rename_i ek
        injection hk with hk
        subst hk
        intro hq2
        exact key j a q (by omega) hj hq2 hq
      · exact h.apart j k a b q hj hk hjk hq
/-- 'out[i].Weight = x'. -/
theorem OwnM.put (h : OwnM w base gP ts) {i : Nat} {t : TriB} (hi : ts[i]? = some t) (x : Int) : OwnM (w.setCell ⟨gP, 2 * i + 1, none⟩ (.int .i64 x)) base gP (ts.set i (t.1, (t.2.1, x))) := by
  have hil := (List.getElem?_eq_some_iff.1 hi).1
  have hgs : w.grownBy (w.setCell ⟨gP, 2 * i + 1, none⟩ (.int .i64 x)) (some gP) := grown_setCell (World.grownBy.refl _ _) _
  have hold : ∀ (j : Nat) (u : TriB), (ts.set i (t.1, (t.2.1, x)))[j]? = some u → ∃ u', ts[j]? = some u' ∧ u'.1 = u.1 ∧ u'.2.1 = u.2.1 := fun j u hj => by
    rw [List.getElem?_set] at hj
    split at hj
    · rename_i e
      subst e
      injection hj with hj
      subst hj
      exact ⟨t, hi, rfl, rfl⟩
    · exact ⟨u, hj, rfl, rfl⟩
  refine ⟨?_, h.lo, by rw [List.length_set]; exact h.few, fun j u hj => ?_, fun u hu => ?_, fun j k a b q hj hk hjk hq => ?_⟩
  · rw [block_setCell h.blk _, List.setIfInBounds_toArray, ← flat_set ts i (t.1, (t.2.1, x)) hil]
    have := (flat_get ts i t hi).1
    rw [List.set_getElem?_self9 (l := (ts.map triV).flatten) (i := 2 * i) (x := t.1) this]
  · obtain ⟨u', h1, h2, h3⟩ := hold j u hj
    have h4 := h.rows j u' h1
    rw [h2, h3] at h4
    exact h4.grown hgs (fun q hq e => by injection e with e; have := (OwnE.lt h4 hq).1; omega)
  · obtain ⟨j, hj⟩ := List.getElem?_of_mem hu
    obtain ⟨u', h1, _, h3⟩ := hold j u hj
    rw [← h3]; exact h.wide u' (List.mem_of_getElem? h1)
  · obtain ⟨a', a1, a2, _⟩ := hold j a hj
    obtain ⟨b', b1, b2, _⟩ := hold k b hk
    rw [← b2]
    exact h.apart j k a' b' q a1 b1 hjk (by rw [a2]; exact hq)
theorem own_blockE {v : Value} {cs : List CellB} {b9 : Nat} (h : OwnE w b9 v cs) : ∀ i, i < cs.length → b9 ≤ (adr v (i * 2)).block := by
  intro i hi
  rcases h.1.2 with ⟨rfl, hn⟩ | ⟨q, cap, cur, rfl, hb, _⟩
  · rw [List.length_map] at hn; omega
  · rw [adr_lit]; exact hb
theorem OwnM.own (h : OwnM w base gP ts) : OwnG pairE w base (.slice (some ⟨gP, 0, none⟩) ts.length ts.length) (ts.map triV) := by
  have hw : ∀ x ∈ ts.map triV, x.length = pairE.n := fun x hx => by
    obtain ⟨t, _, rfl⟩ := List.mem_map.1 hx
    rfl
  have hl : (ts.map triV).flatten.length = (ts.map triV).length * pairE.n := flatG_len _ hw
  have hfew := h.few
  have := h.blk
  rw [show (ts.map triV).length = ts.length from List.length_map ..] at hl
  refine ⟨⟨by rw [hl, List.length_map], .inr ⟨gP, ts.length, (ts.map triV).flatten.toArray, by rw [List.length_map], h.lo, h.blk, by rw [List.length_map]; exact Nat.le_refl _, by unfold maxLen; omega, ?_, ?_⟩⟩, hw, fun x hx u hu => ?_⟩
  · show (ts.map triV).flatten.toArray.size = ts.length * pairE.n
    rw [List.size_toArray]; exact hl
  · show (ts.map triV).flatten.toArray.toList.take ((ts.map triV).length * pairE.n) = (ts.map triV).flatten
    rw [List.length_map, ← hl, List.toList_toArray, List.take_length]
  · obtain ⟨t, ht, rfl⟩ := List.mem_map.1 hx
    obtain ⟨i, hi⟩ := List.getElem?_of_mem ht
    exact triV_one ((h.rows i t hi).rd (by have := h.wide t ht; omega)) u hu
/-- What is there in the end. -/
theorem OwnM.new (h : OwnM w base gP ts) : NewP w base (.slice (some ⟨gP, 0, none⟩) ts.length ts.length) (ts.map (·.2)) := by
  refine ⟨ts, rfl, h.own.rd (by rw [List.length_map]; have := h.few; omega), fun i hi => by rw [adr_lit]; exact h.lo, fun t ht => ?_⟩
  obtain ⟨i, hi⟩ := List.getElem?_of_mem ht
  have h1 := h.rows i t hi
  exact ⟨h1.rd (by have := h.wide t ht; omega), fun j hj => Nat.le_trans (by have := h.lo; omega) (own_blockE h1 j hj)⟩
theorem OwnM.len (h : OwnM w base gP ts) : ∀ u, (Builtin.len_ #[23] 3 #[.slice (some ⟨gP, 0, none⟩) ts.length ts.length]).run Tryz.prog u = .ok (.int .i64 (ts.length : Int)) u := by
  have := h.new.rd.len
  rw [List.length_map] at this
  exact this
theorem OwnM.idx (h : OwnM w base gP ts) {i : Nat} (hi : i < ts.length) : ∀ u, (Instr.indexAt 23 (.slice (some ⟨gP, 0, none⟩) ts.length ts.length) (.int .i64 (i : Int))).run Tryz.prog u = .ok (.pointer (some ⟨gP, 2 * i, none⟩)) u := by
  have := RdG.idx (h.own.rd (by rw [List.length_map]; have := h.few; omega)) pairOk i (by rw [List.length_map]; exact hi)
  rw [adr_lit] at this
  rw [show (0 + i * pairE.n : Nat) = 2 * i from by show 0 + i * 2 = 2 * i; omega] at this
  exact this
/-- What 'make' has made. -/
theorem OwnM.made (w : World) (base n : Nat) (hb : base ≤ w.heap.size) (hn : n ≤ 1024) : OwnM (w.alloc (.cells (List.replicate n (triV (.slice none 0 0, ([], 0)))).flatten.toArray 64)) base w.heap.size (List.replicate n (.slice none 0 0, ([], 0))) := by
  rw [← List.map_replicate]
  refine ⟨heap_alloc_new _ _, hb, by rw [List.length_replicate]; exact hn, fun i t hi => ?_, fun t ht => ?_, fun i j t u q hi hj hij hq => ?_⟩
  · have := List.eq_of_mem_replicate (List.mem_of_getElem? hi)
    subst this
    exact OwnE.nil _ _
  · have := List.eq_of_mem_replicate ht
    subst this
    simp
  · have := List.eq_of_mem_replicate (List.mem_of_getElem? hi)
    subst this
    cases hq
end

end Go.Proofs.YteiphdcgffapbaaGreatDoor


/-
  'make([]api.Pair, n)'.
-/
namespace Go.Proofs.YteiphdcgffapbaaGreatDoor
open Go.RowKit

theorem info_pair : (Tryz.prog.info? 64).map (fun i => (i.zero, i.size, i.bytes)) = some (some (.agg #[.slice none 0 0, .int .i64 0]), 2, 32) := by kernel_rfl
theorem flat_made : ∀ n : Nat, ((List.replicate n ((.slice none 0 0, ([], 0)) : TriB)).map triV).flatten = (List.range (n * 2)).map (fun i => (#[Value.slice none 0 0, .int .i64 0] : Array Value)[i % 2]!)
  | 0 => rfl
  | n + 1 => by
    rw [List.replicate_succ, List.map_cons, List.flatten_cons, flat_made n, show (n + 1) * 2 = n * 2 + 1 + 1 from by omega, List.range_succ_eq_map, List.map_cons, List.range_succ_eq_map, List.map_cons, List.map_map, List.map_cons, List.map_map]
    show Value.slice none 0 0 :: Value.int .i64 0 :: _ = _
    congr 1
    congr 1
    refine List.map_congr_left fun i _ => ?_
    simp only [Function.comp]
    rw [show (Nat.succ (Nat.succ i)) % 2 = i % 2 from by omega]
end Go.Proofs.YteiphdcgffapbaaGreatDoor

