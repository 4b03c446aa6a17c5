/-
  Layer 15: bytes of a call's own behind whose capacity more may lie; append and copy over them; a disk in memory, and the document's.
-/
import Derived.Test.YtegaamebcoockaaLater
import Derived.Test.YtegaamebcoockaaBlocks
import Derived.ArgAppend
set_option linter.unusedVariables false
set_option linter.unusedSimpArgs false
set_option maxRecDepth 1000000
namespace Go.Proofs.Ytegaamebcoockaa
open Go.RowKit

/-- Where a slice that comes of another one lies: in the same block, or in a new one. -/
def Plc (w : World) (v v' : Value) : Prop := ∀ k, v'.ownBlock = some k → v.ownBlock = some k ∨ w.heap.size ≤ k

/-- Bytes of the call's own, as Own has them; behind the capacity there may be more of the block. -/
def Tor (w : World) (base : Nat) (v : Value) (l : List UInt8) : Prop :=
  (v = .slice none 0 0 ∧ l = []) ∨ ∃ (g cap : Nat) (cur : Array Value), v = .slice (some ⟨g, 0, none⟩) l.length cap ∧ base ≤ g ∧ w.heap[g]? = some (.cells cur 5 (0, 0)) ∧ l.length ≤ cap ∧ cap ≤ maxLen ∧ cap ≤ cur.size ∧ cur.toList.take l.length = cellsB l

section
variable {w w' : World} {base : Nat} {v : Value} {l : List UInt8}
theorem Own.tor (h : Own w base v l) : Tor w base v l := by
  rcases h.2 with ⟨rfl, hn⟩ | ⟨g, cap, cur, rfl, hbg, hg, hn, hm, hs, ht⟩
  · exact .inl ⟨rfl, List.eq_nil_of_length_eq_zero hn⟩
  · exact .inr ⟨g, cap, cur, rfl, hbg, hg, hn, hm, by simp at hs; omega, by simpa using ht⟩
theorem Tor.cells (h : Tor w base v l) {i : Nat} {u : Value} (hu : (cellsB l)[i]? = some u) : w.cell? (adr v i) = some u := by
  rcases h with ⟨rfl, rfl⟩ | ⟨g, cap, cur, rfl, hbg, hg, hn, hm, hs, ht⟩
  · simp [cellsB] at hu
  · have e : adr (.slice (some ⟨g, 0, none⟩) l.length cap) i = ⟨g, i, none⟩ := by simp only [adr, Addr.add]; split <;> simp_all
    rw [e, cell_of_row _ _ _ _ _ _ hg]
    rw [← ht, List.getElem?_take] at hu
    split at hu
    · simpa using hu
    · cases hu
theorem Tor.lit (h : Tor w base v l) : ∃ ao cap, v = .slice ao l.length cap ∧ l.length ≤ cap ∧ (ao = none → cap = 0) ∧ (∀ a, ao = some a → ∃ g, a = ⟨g, 0, none⟩) := by
  rcases h with ⟨rfl, rfl⟩ | ⟨g, cap, cur, rfl, hbg, hg, hn, hm, hs, ht⟩
  · exact ⟨_, _, rfl, Nat.le_refl _, fun _ => rfl, fun a h => by cases h⟩
  · exact ⟨_, _, rfl, hn, (by intro h; cases h), fun a h => by injection h with h; exact ⟨g, h.symm⟩⟩
theorem Tor.rd (h : Tor w base v l) (hs : l.length ≤ 140737488351232) : Rd w v l := by
  obtain ⟨ao, cap, hv, hc, hn, ha⟩ := h.lit
  refine ⟨⟨ao, cap, hv, hc, hn, fun hp => ?_⟩, fun i hi => h.cells (cellsB_at hi), hs⟩
  cases ao with
  | none => have := hn rfl; omega
  | some a => obtain ⟨g, rfl⟩ := ha a rfl; exact ⟨g, 0, rfl⟩
theorem Tor.lt (h : Tor w base v l) {k : Nat} (hk : v.ownBlock = some k) : base ≤ k ∧ k < w.heap.size := by
  rcases h with ⟨rfl, rfl⟩ | ⟨g, cap, cur, rfl, hbg, hg, hn, hm, hs, ht⟩
  · cases hk
  · cases hk; exact ⟨hbg, (Array.getElem?_eq_some_iff.1 hg).1⟩
theorem Tor.type (h : Tor w base v l) {k : Nat} (hk : v.ownBlock = some k) : ∃ cur, w.heap[k]? = some (.cells cur 5 (0, 0)) := by
  rcases h with ⟨rfl, rfl⟩ | ⟨g, cap, cur, rfl, hbg, hg, hn, hm, hs, ht⟩
  · cases hk
  · cases hk; exact ⟨_, hg⟩
theorem Tor.only {S : Nat → Prop} (h : Tor w base v l) (hO : Only S w w') (hq : ∀ q, v.ownBlock = some q → ¬ S q) : Tor w' base v l := by
  rcases h with h | ⟨g, cap, cur, rfl, hbg, hg, r⟩
  · exact .inl h
  · exact .inr ⟨g, cap, cur, rfl, hbg, hO.keep hg (hq g rfl), r⟩
theorem Tor.base_le {b' : Nat} (h : Tor w base v l) (hb : b' ≤ base) : Tor w b' v l := by
  rcases h with h | ⟨g, cap, cur, rfl, hbg, r⟩
  · exact .inl h
  · exact .inr ⟨g, cap, cur, rfl, Nat.le_trans hb hbg, r⟩
end

/-- 'append(s, x...)': s the call's own, x any that reads. -/
theorem wplD_append {ops : Array Oper} {Q : Exit → Act → World → Prop} {rest : List Oper} {a : Act} {w : World} {dst : Option Tmp} {ty : TypeId} {pos : String} {aft : Array Edge} {s x : Operand}
    (base : Nat) (sv : Value) (m : List UInt8) (hs : a.eval s = sv) (ho : Tor w base sv m) (xv : Value) (l : List UInt8) (hx : a.eval x = xv) (hR : Rd w xv l) (hn : m.length + l.length ≤ 140737488355328) (hbase : base ≤ w.heap.size)
    (h : ∀ v' w', Tor w' base v' (m ++ l) → w.grownBy w' sv.ownBlock → Plc w sv v' → wpList Try.prog ops Q rest (a.put dst v') w') :
    wpList Try.prog ops Q (⟨dst, .call ⟨.builtin .append, #[s, x], #[22, 22]⟩, ty, pos, aft, none⟩ :: rest) a w := by
  obtain ⟨i0, hi, hz0, hz1, hz2⟩ := info_parts info_u8
  obtain ⟨⟨ao, cap, rfl, hcap, hnil, hsome⟩, hcel, _⟩ := hR
  refine wpList_plain rfl fun K hK => ?_
  have key : ∃ v' w', (Builtin.append_ #[22, 22] ty #[sv, .slice ao l.length cap]).run Try.prog w = .ok v' w' ∧ Tor w' base v' (m ++ l) ∧ w.grownBy w' sv.ownBlock ∧ Plc w sv v' := by
    cases ao with
    | none =>
      obtain rfl : cap = 0 := hnil rfl
      obtain rfl : l = [] := List.eq_nil_of_length_eq_zero (by omega)
      refine ⟨sv, w, ?_, by simpa using ho, World.grownBy.refl _ _, fun k hk => .inl hk⟩
      rcases ho with ⟨rfl, rfl⟩ | ⟨g, cap, cur, rfl, hbg, hg, hn, hm, hs, ht⟩
      · simp [Builtin.append_, run_underlying (P := Try.prog) Try.underlying22, sizeOf, typeInfo, hi, Builtin.lenOf, Builtin.firstCells]
      · simp [Builtin.append_, run_underlying (P := Try.prog) Try.underlying22, sizeOf, typeInfo, hi, Builtin.lenOf, Builtin.firstCells, hn, storeCells]
    | some ad =>
      have hnews : ∀ j u, (cellsB l)[j]? = some u → w.cell? (ad.add j) = some u := fun j u hj => by
        obtain ⟨hj1, rfl⟩ := cellsB_get hj
        exact hcel j hj1
      rcases ho with ⟨rfl, rfl⟩ | ⟨g, c, cur, rfl, hbg, hg, hmc, hm, hcs, ht⟩
      · obtain ⟨v', w', hr, h1, h2, _⟩ := run_append_own (P := Try.prog) w w.heap.size 22 ty 5 i0 (.int .u8 0) 1 1 Try.underlying22 hi hz0 hz1 hz2 rfl (by decide) (.slice none 0 0) 0 [] (World.ownsRow_nil w _ _ 1) ad l.length cap (cellsB l) (by simp [cellsB_length]) hnews (cellsB_one l) (by unfold maxLen; simp at hn; omega) (by simp at hn; omega) (Nat.le_refl _)
        have hO : Own w' w.heap.size v' ([] ++ l) := by unfold Own; simpa using h1
        exact ⟨v', w', hr, (hO.base hbase).tor, h2, fun k hk => .inr (World.ownsRow.lt h1 k hk).1⟩
      · by_cases hroom : m.length + l.length ≤ c
        · have hr := run_append_room (P := Try.prog) w 22 ty 5 i0 Try.underlying22 hi g m.length c cur hg ad l.length cap (cellsB l) (by rw [hz1]; simp [cellsB_length]) hnews (cellsB_one l) hroom (by rw [hz1, cellsB_length]; omega)
          rw [hz1] at hr
          refine ⟨_, _, hr, .inr ⟨g, c, _, by rw [List.length_append], hbg, setRow_heap w g cur _ _ _ hg, by rw [List.length_append]; exact hroom, hm, ?_, ?_⟩, ⟨rfl, rfl, rfl, by simp, fun k _ hk => setRow_other w g k _ (fun e => hk (by simp [Value.ownBlock, e]))⟩, fun k hk => .inl hk⟩
          · simp only [List.size_toArray, List.length_append, List.length_take, List.length_drop, Array.length_toList, cellsB_length]
            omega
          · rw [Nat.mul_one, ht, ← cellsB_append, List.length_append]
            have : m.length + l.length = (cellsB (m ++ l)).length := by rw [cellsB_length, List.length_append]
            rw [this]
            exact List.take_left
        · obtain ⟨v', w', hr, h1, h2⟩ := run_append_arg_grows (P := Try.prog) w 22 ty 5 i0 (.int .u8 0) 1 1 Try.underlying22 hi hz0 hz1 hz2 rfl (by decide) ⟨g, 0, none⟩ m.length c (cellsB m) (by simp [cellsB_length]) (fun j u hj => by
            have := Tor.cells (.inr ⟨g, c, cur, rfl, hbg, hg, hmc, hm, hcs, ht⟩ : Tor w base (.slice (some ⟨g, 0, none⟩) m.length c) m) hj
            exact this) ad l.length cap (cellsB l) (by simp [cellsB_length]) hnews (by omega) (by unfold maxLen; omega) (by omega)
          have hO : Own w' w.heap.size v' (m ++ l) := by unfold Own; rw [List.length_append, cellsB_append]; exact h1
          refine ⟨v', w', hr, (hO.base hbase).tor, ⟨h2.os, h2.tape, h2.output, h2.size, fun k hk _ => h2.block k hk (by simp)⟩, fun k hk => .inr (World.ownsRow.lt h1 k hk).1⟩
  obtain ⟨v', w', hrun, h1, h2, h3⟩ := key
  unfold Oper.wp
  simp [execOp, resolve, invoke, builtin, hs, hx, hrun, Result.andThen]
  exact hK _ _ (h v' w' h1 h2 h3)

/-- 'append(s, x...)', s the call's own, as one operation. -/
theorem opB_append {a : Act} {w : World} {K : Act → World → Prop} {Q : Exit → Act → World → Prop} {dst : Option Tmp} {ty : TypeId} {pos : String} {aft : Array Edge} {s x : Operand} {gu : Option (Nat × Bool)}
    (base : Nat) (sv : Value) (m : List UInt8) (hs : a.eval s = sv) (ho : Own w base sv m) (xv : Value) (l : List UInt8) (hx : a.eval x = xv) (hR : Rd w xv l) (hn : m.length + l.length ≤ 140737488355328) (hbase : base ≤ w.heap.size)
    (h : ∀ v' w', Own w' base v' (m ++ l) → Only (fun j => base ≤ j) w w' → K (a.put dst v') w') :
    Oper.wp Try.prog ⟨dst, .call ⟨.builtin .append, #[s, x], #[22, 22]⟩, ty, pos, aft, gu⟩ a w K Q := by
  obtain ⟨i0, hi, hz0, hz1, hz2⟩ := info_parts info_u8
  obtain ⟨⟨ao, cap, rfl, hcap, hnil, hsome⟩, hcel, _⟩ := hR
  cases ao with
  | none =>
    obtain rfl : cap = 0 := hnil rfl
    obtain rfl : l = [] := List.eq_nil_of_length_eq_zero (by omega)
    have hrun := run_append_owned_none (P := Try.prog) w base 22 ty 5 i0 1 Try.underlying22 hi sv m.length (cellsB m) ho
    unfold Oper.wp
    simp [execOp, resolve, invoke, builtin, hs, hx, hrun, Result.andThen]
    exact h sv w (by simpa using ho) (Only.refl _ _)
  | some ad =>
    refine wp_append_own w s x 22 rfl base 5 i0 (.int .u8 0) 1 1 Try.underlying22 hi hz0 hz1 hz2 rfl (by decide) sv m.length (cellsB m) hs ho ad l.length cap (cellsB l) hx (by simp [cellsB_length]) (fun j u hj => ?_) (cellsB_one l) (by unfold maxLen; omega) (by omega) hbase (fun v' w' h1 h2 _ => ?_)
    · obtain ⟨hj1, rfl⟩ := cellsB_get hj
      exact hcel j hj1
    · refine h v' w' ?_ ⟨h2.os, h2.tape, h2.output, h2.size, fun k h3 h4 => h2.block k h3 fun e => h4 ((World.ownsRow.lt ho k e.symm).1)⟩
      rw [← cellsB_append] at h1; unfold Own; rw [List.length_append]; exact h1

/-- 'copy(d, s)': all of s into a block of the call's own. -/
theorem wplD_copy {ops : Array Oper} {Q : Exit → Act → World → Prop} {rest : List Oper} {a : Act} {w : World} {dst : Option Tmp} {ty : TypeId} {pos : String} {aft : Array Edge} {d s : Operand}
    (dp : Option Addr) (dLen dCap : Nat) (hd : a.eval d = .slice dp dLen dCap) (sv : Value) (l : List UInt8) (hs : a.eval s = sv) (hR : Rd w sv l) (hn : l.length ≤ dLen)
    (g off : Nat) (cur : Array Value) (hg : w.heap[g]? = some (.cells cur 5 (0, 0))) (hdp : 0 < l.length → dp = some ⟨g, off, none⟩) (hfit : off + l.length ≤ cur.size)
    (h : ∀ w', Hid (w'.heap[g]? = some (.cells (splice cur.toList off (cellsB l)).toArray 5 (0, 0))) → w.grownBy w' (some g) → wpList Try.prog ops Q rest (a.put dst (.int .i64 (l.length : Int))) w') :
    wpList Try.prog ops Q (⟨dst, .call ⟨.builtin .copy, #[d, s], #[22, 22]⟩, ty, pos, aft, none⟩ :: rest) a w := by
  obtain ⟨⟨ao, cap, rfl, hcap, hnil, hsome⟩, hcel, _⟩ := hR
  by_cases h0 : l.length = 0
  · have hl : l = [] := List.eq_nil_of_length_eq_zero h0
    subst hl
    refine wpList_copy_nothing rfl d s 22 22 rfl 5 Try.underlying22 size_u8 dp ao dLen dCap 0 cap hd hs (by simp) ?_
    exact h w (Lib.hid (by rw [hg]; simp [splice, cellsB])) (World.grownBy.refl _ _)
  · obtain rfl := hdp (by omega)
    obtain ⟨b, o, rfl⟩ := hsome (by omega)
    have hl : (cellsB l).length = Nat.min l.length dLen := by rw [cellsB_length]; exact (Nat.min_eq_left hn).symm
    refine wpList_copy_own rfl d s 22 22 rfl 5 Try.underlying22 size_u8 g off dLen dCap ⟨b, o, none⟩ l.length cap hd hs cur _ hg (cellsB l) hl (fun j u hj => ?_) (by rw [cellsB_length]; exact hfit) (cellsB_one l) ?_
    · obtain ⟨hj1, rfl⟩ := cellsB_get hj
      exact hcel j hj1
    · have := h (w.setRow g (cur.toList.take off ++ (cellsB l ++ cur.toList.drop (off + (cellsB l).length))).toArray) (Lib.hid (setRow_heap w g cur _ _ _ hg)) ⟨rfl, rfl, rfl, by simp [World.setRow], fun k _ hk => setRow_other w g k _ (fun e => hk (by rw [e]))⟩
      simpa [goInt, cellsB_length] using this

/-- A disk: where it lies, its bytes, how many are safe, how many crashes there were. -/
structure Dsk (w : World) (N g : Nat) (v : Value) (l : List UInt8) (s c : Nat) : Prop where
  from_ : N ≤ g
  tor : Tor w N v l
  safe : s ≤ l.length
  small : l.length ≤ 100000000
  few : c ≤ 1000000
  box : w.heap[g]? = some (.cells #[v, .int .i64 (s : Int), .int .i64 (c : Int)] 45 (0, 0))
/-- Of a disk's blocks. -/
def DskQ (g : Nat) (v : Value) (q : Nat) : Prop := q = g ∨ v.ownBlock = some q

section
variable {w w' : World} {N g s c : Nat} {v : Value} {l : List UInt8} {S : Nat → Prop}
theorem Dsk.lt (h : Dsk w N g v l s c) : g < w.heap.size := (Array.getElem?_eq_some_iff.1 h.box).1
theorem Dsk.cells (h : Dsk w N g v l s c) : w.cell? ⟨g, 0, none⟩ = some v ∧ w.cell? ⟨g, 1, none⟩ = some (.int .i64 (s : Int)) ∧ w.cell? ⟨g, 2, none⟩ = some (.int .i64 (c : Int)) := by
  refine ⟨?_, ?_, ?_⟩ <;> rw [cell_of_row _ _ _ _ _ _ h.box] <;> rfl
theorem Dsk.free (h : Dsk w N g v l s c) (i : Nat) : w.frozen? ⟨g, i, none⟩ = false := frozen_of_row _ _ _ _ _ h.box
theorem Dsk.rd (h : Dsk w N g v l s c) : Rd w v l := h.tor.rd (by have := h.small; omega)
theorem Dsk.away (h : Dsk w N g v l s c) : v.ownBlock ≠ some g := fun e => by
  obtain ⟨cur, hc⟩ := h.tor.type e
  rw [h.box] at hc
  injection hc with hc
  injection hc with _ hc _
  exact absurd hc (by decide)
theorem Dsk.q (h : Dsk w N g v l s c) {q : Nat} (hq : DskQ g v q) : N ≤ q ∧ q < w.heap.size := by
  rcases hq with rfl | hq
  · exact ⟨h.from_, h.lt⟩
  · exact h.tor.lt hq
theorem Dsk.only (h : Dsk w N g v l s c) (hO : Only S w w') (hS : ∀ q, DskQ g v q → ¬ S q) : Dsk w' N g v l s c :=
  ⟨h.from_, h.tor.only hO fun q hq => hS q (.inr hq), h.safe, h.small, h.few, hO.keep h.box (hS g (.inl rfl))⟩
theorem Dsk.later (h : Dsk w N g v l s c) (hb : Below w.heap.size w w') : Dsk w' N g v l s c :=
  h.only (S := fun _ => False) ((Only.refl _ w).below hb (Nat.le_refl _)) fun _ _ h => h
theorem Dsk.below (h : Dsk w N g v l s c) (hO : Only (DskQ g v) w w') : Below N w w' := hO.toBelow (fun q hq => (h.q hq).1) (by have := h.from_; have := h.lt; omega)
theorem Dsk.base_le15 {N' : Nat} (h : Dsk w N g v l s c) (hN : N' ≤ N) : Dsk w N' g v l s c := ⟨Nat.le_trans hN h.from_, h.tor.base_le hN, h.safe, h.small, h.few, h.box⟩
theorem Only.later15 (hb : Below w.heap.size w w') : Only S w w' := (Only.refl S w).below hb (Nat.le_refl _)
theorem Only.by15 {r : Option Nat} (k : w.grownBy w' r) (hr : ∀ q, r = some q → S q) : Only S w w' := ⟨k.os, k.tape, k.output, k.size, fun j h1 h2 => k.block j h1 (fun e => h2 (hr j e.symm))⟩
theorem Plc.refl (w : World) (v : Value) : Plc w v v := fun _ h => .inl h
end

/-- Bytes that read, of which no cell lies in a block of Q. -/
def OffB (w : World) (v : Value) (l : List UInt8) (Q : Nat → Prop) : Prop := Rd w v l ∧ ∀ i, i < l.length → ¬ Q (adr v i).block
section
variable {w w' : World} {v : Value} {l : List UInt8} {Q Q' S : Nat → Prop} {base : Nat}
theorem OffB.keep (h : OffB w v l Q) (hk : ∀ j, j < w.heap.size → ¬ Q j → w'.heap[j]? = w.heap[j]?) : OffB w' v l Q :=
  ⟨⟨h.1.shape, fun i hi => (World.cell?_of_block (hk _ (h.1.block hi) (h.2 i hi))).trans (h.1.cells i hi), h.1.small⟩, h.2⟩
theorem OffB.only (h : OffB w v l Q) (hO : Only S w w') (hS : ∀ j, S j → Q j) : OffB w' v l Q := h.keep fun j h1 h2 => hO.block j h1 fun hs => h2 (hS j hs)
theorem OffB.more (h : OffB w v l Q) (hk : ∀ j, j < w.heap.size → Q' j → Q j) : OffB w v l Q' := ⟨h.1, fun i hi hq => h.2 i hi (hk _ (h.1.block hi) hq)⟩
theorem OffB.later (h : OffB w v l Q) (hb : Below w.heap.size w w') : OffB w' v l Q := h.keep fun j hj _ => hb.block j hj
theorem Rd.off (h : Rd w v l) (hQ : ∀ j, j < w.heap.size → ¬ Q j) : OffB w v l Q := ⟨h, fun i hi => hQ _ (h.block hi)⟩
theorem Own.off (h : Own w base v l) (hs : l.length ≤ 140737488351232) (hQ : ∀ j, base ≤ j → ¬ Q j) : OffB w v l Q := by
  refine ⟨h.rd hs, fun i hi => ?_⟩
  rcases h.2 with ⟨rfl, hn⟩ | ⟨g, cap, cur, rfl, hbg, hg, r⟩
  · omega
  · have e : (adr (.slice (some ⟨g, 0, none⟩) l.length cap) i).block = g := by simp only [adr, Addr.add]; split <;> simp_all
    rw [e]; exact hQ g hbg
theorem OffB.nil (w : World) (Q : Nat → Prop) : OffB w (.slice none 0 0) [] Q := ⟨Rd.nil w, fun i hi => by simp at hi⟩
end

/-- The document's disk. -/
structure Mdk (w : World) (N g : Nat) (s r : List UInt8) (n : Nat) (Q : Nat → Prop) : Prop where
  from_ : N ≤ g
  away : ¬ Q g
  small : s.length + r.length ≤ 100000000
  few : n ≤ 1000000
  box : ∃ sv rv, w.heap[g]? = some (.cells #[sv, rv, .int .i64 (n : Int)] 30 (0, 0)) ∧ OffB w sv s (fun q => q = g ∨ Q q) ∧ OffB w rv r (fun q => q = g ∨ Q q)
section
variable {w w' : World} {N g n : Nat} {s r : List UInt8} {Q Q' S : Nat → Prop}
theorem Mdk.lt (h : Mdk w N g s r n Q) : g < w.heap.size := by
  obtain ⟨sv, rv, hb, _⟩ := h.box
  exact (Array.getElem?_eq_some_iff.1 hb).1
theorem Mdk.only (h : Mdk w N g s r n Q) (hO : Only S w w') (hS : ∀ j, S j → Q j) : Mdk w' N g s r n Q := by
  obtain ⟨sv, rv, hb, h1, h2⟩ := h.box
  exact ⟨h.from_, h.away, h.small, h.few, sv, rv, hO.keep hb fun hs => h.away (hS g hs), h1.only hO fun j hj => .inr (hS j hj), h2.only hO fun j hj => .inr (hS j hj)⟩
theorem Mdk.more (h : Mdk w N g s r n Q) (hk : ∀ j, j < w.heap.size → Q' j → Q j) : Mdk w N g s r n Q' := by
  obtain ⟨sv, rv, hb, h1, h2⟩ := h.box
  have key : ∀ j, j < w.heap.size → (j = g ∨ Q' j) → j = g ∨ Q j := fun j hj hq => hq.imp id (hk j hj)
  exact ⟨h.from_, fun hq => h.away (hk g h.lt hq), h.small, h.few, sv, rv, hb, h1.more key, h2.more key⟩
theorem Mdk.later (h : Mdk w N g s r n Q) (hb : Below w.heap.size w w') : Mdk w' N g s r n Q := h.only (S := fun _ => False) (Only.later15 hb) fun _ h => h.elim
end

end Go.Proofs.Ytegaamebcoockaa
