/-
  Layer 17: a view as it lies in memory, the program's and the document's; what a message does to it.
-/
import Derived.Test.YtokpphhmmcoeaaaGreatDoorCurB
import Derived.Test.YtokpphhmmcoeaaaGreatDoorOffG
import Derived.Test.YtokpphhmmcoeaaaGreatDoorCloneR
import Derived.Test.YtokpphhmmcoeaaaGreatDoorGEnt
import Derived.Test.YtokpphhmmcoeaaaGreatDoorGCrc
import Derived.Test.YtokpphhmmcoeaaaGreatDoorGWire
set_option linter.unusedVariables false
set_option linter.unusedSimpArgs false
set_option maxRecDepth 1000000
namespace Go.Proofs.YtokpphhmmcoeaaaGreatDoor
open Go.RowKit Go.Shelf

theorem RdP.lit17 {w : World} {v : Value} {ps : List PairB} (h : RdP w v ps) : ∃ ao n cap, v = .slice ao n cap := by
  obtain ⟨ts, e, h, _⟩ := h
  obtain ⟨ao, cap, e, _⟩ := RdG.shape h
  exact ⟨_, _, _, e⟩
theorem RdC.lit17 {w : World} {v : Value} {cs : List ColB} (h : RdC w v cs) : ∃ ao n cap, v = .slice ao n cap := by
  obtain ⟨ao, cap, e, _⟩ := RdG.shape h
  exact ⟨_, _, _, e⟩

theorem drewB17 {B : Nat} {a w : World} (h : Below B a w) (q : Nat) : Below B a (w.drewN q) := ⟨h.os, h.tape, h.output, h.size, h.block⟩

/-- A message: its kind, its pairs, its cursor. -/
abbrev MsgB := Int × List PairB × CurB
def MsO (m : MsgB) : Prop := PSO m.2.1

/-- Why a message isn't taken. -/
def tkE (cs : List ColB) (qs : List PairB) (c : CurB) (m : MsgB) : Nat :=
  if m.1 ≠ 0 ∧ m.1 ≠ 1 then 10 else if m.2.2.2.2 ≠ c.2.2 then 16 else if m.2.2.1 < c.1 ∨ m.2.2.2.1 < c.2.1 then 14 else if m.1 = 0 then sumE cs qs m.2.1 else chkZ cs m.2.1
/-- The set behind it. -/
def tkS (cs : List ColB) (qs : List PairB) (m : MsgB) : List PairB := if m.1 = 0 then sumO cs qs m.2.1 else m.2.1
def tkQ (cs : List ColB) (qs : List PairB) (c : CurB) (m : MsgB) : List PairB := if tkE cs qs c m = 0 then tkS cs qs m else qs
def tkC (cs : List ColB) (qs : List PairB) (c : CurB) (m : MsgB) : CurB := if tkE cs qs c m = 0 then m.2.2 else c
def tkN (cs : List ColB) (qs : List PairB) (c : CurB) (n : Int) (m : MsgB) : Int := if tkE cs qs c m = 0 then n + 1 else n

section
variable {cs : List ColB} {qs : List PairB} {c : CurB} {n : Int} {m : MsgB}
theorem tk_no (h : tkE cs qs c m ≠ 0) : tkQ cs qs c m = qs ∧ tkC cs qs c m = c ∧ tkN cs qs c n m = n :=
  ⟨if_neg h, if_neg h, if_neg h⟩
theorem tk_yes (h : tkE cs qs c m = 0) : tkQ cs qs c m = tkS cs qs m ∧ tkC cs qs c m = m.2.2 ∧ tkN cs qs c n m = n + 1 :=
  ⟨if_pos h, if_pos h, if_pos h⟩
theorem tk_kind (h : m.1 ≠ 0 ∧ m.1 ≠ 1) : tkE cs qs c m = 10 := if_pos h
theorem tk_print (h : m.1 = 0 ∨ m.1 = 1) (h1 : m.2.2.2.2 ≠ c.2.2) : tkE cs qs c m = 16 := by
  unfold tkE; rw [if_neg (by omega), if_pos h1]
theorem tk_seq (h : m.1 = 0 ∨ m.1 = 1) (h1 : m.2.2.2.2 = c.2.2) (h2 : m.2.2.1 < c.1 ∨ m.2.2.2.1 < c.2.1) : tkE cs qs c m = 14 := by
  unfold tkE; rw [if_neg (by omega), if_neg (fun k => k h1), if_pos h2]
theorem tk_change (h : m.1 = 0) (h1 : m.2.2.2.2 = c.2.2) (h2 : ¬ (m.2.2.1 < c.1 ∨ m.2.2.2.1 < c.2.1)) : tkE cs qs c m = sumE cs qs m.2.1 ∧ tkS cs qs m = sumO cs qs m.2.1 := by
  refine ⟨?_, if_pos h⟩
  unfold tkE; rw [if_neg (by omega), if_neg (fun k => k h1), if_neg h2, if_pos h]
theorem tk_reset (h : m.1 = 1) (h1 : m.2.2.2.2 = c.2.2) (h2 : ¬ (m.2.2.1 < c.1 ∨ m.2.2.2.1 < c.2.1)) : tkE cs qs c m = chkZ cs m.2.1 ∧ tkS cs qs m = m.2.1 := by
  refine ⟨?_, if_neg (by omega)⟩
  unfold tkE; rw [if_neg (by omega), if_neg (fun k => k h1), if_neg h2, if_neg (by omega)]
/-- Why a view can't go on to a cursor; why pairs can't become its set. -/
def leE (c d : CurB) : Nat := if d.2.2 ≠ c.2.2 then 16 else if d.1 < c.1 ∨ d.2.1 < c.2.1 then 14 else 0
def becE (cs : List ColB) (qs : List PairB) (m : MsgB) : Nat := if m.1 = 0 then sumE cs qs m.2.1 else chkZ cs m.2.1
theorem tk_lead (h : m.1 = 0 ∨ m.1 = 1) : (leE c m.2.2 ≠ 0 → tkE cs qs c m = leE c m.2.2) ∧ (leE c m.2.2 = 0 → tkE cs qs c m = becE cs qs m) := by
  unfold leE
  by_cases h1 : m.2.2.2.2 = c.2.2
  · rw [if_neg (fun k => k h1)]
    by_cases h2 : m.2.2.1 < c.1 ∨ m.2.2.2.1 < c.2.1
    · rw [if_pos h2]
      exact ⟨fun _ => tk_seq h h1 h2, fun h9 => absurd h9 (by decide)⟩
    · rw [if_neg h2]
      refine ⟨fun h9 => absurd rfl h9, fun _ => ?_⟩
      unfold tkE becE; rw [if_neg (by omega), if_neg (fun k => k h1), if_neg h2]
  · rw [if_pos h1]
    exact ⟨fun _ => tk_print h h1, fun h9 => absurd h9 (by decide)⟩
theorem tk_set (h : Zs cs qs) (hm : MsO m) : Zs cs (tkQ cs qs c m) := by
  by_cases h0 : tkE cs qs c m = 0
  · rw [(tk_yes (n := 0) h0).1]
    unfold tkE at h0
    unfold tkS
    split at h0
    · omega
    split at h0
    · omega
    split at h0
    · omega
    split at h0
    · rename_i h1
      rw [if_pos h1]
      by_cases hb : chkZ cs m.2.1 = 0
      · exact (sum_ok h ⟨hm, hb⟩ h0).1
      · unfold sumE at h0
        rw [if_neg (fun k => k h.2), if_pos hb] at h0
        exact absurd h0 hb
    · rename_i h1
      rw [if_neg h1]
      exact ⟨hm, h0⟩
  · rw [(tk_no (n := 0) h0).1]; exact h
theorem tk_count (hn : 0 ≤ n) : 0 ≤ tkN cs qs c n m ∧ tkN cs qs c n m ≤ n + 1 := by unfold tkN; split <;> omega
end

/-- The rows are short. -/
theorem zs_rows {cs : List ColB} {qs : List PairB} (h : Zs cs qs) : ∀ k, k < qs.length → (qs.getD k default).1.length ≤ 8 := fun k hk => by
  have hm : qs.getD k default ∈ qs := by simp [List.getD, hk]
  obtain ⟨g1, g2, _⟩ := errRow_len (h.all _ hm).1
  have := ((errS_iffR (colsL cs)).1 g1).1.2
  unfold colsL at this; rw [List.length_map] at this; omega

/-- A view's block. -/
def Vbox (T : TypeId) (w : World) (g : Nat) (sv vv : Value) (c : CurB) (n : Int) : Prop := w.heap[g]? = some (.cells #[sv, vv, .int .i64 c.1, .int .i64 c.2.1, .int .u32 c.2.2, .int .i64 n] T (0, 0))
section
variable {T : TypeId} {w w' : World} {g : Nat} {sv vv : Value} {c : CurB} {n : Int}
theorem Vbox.cells (h : Vbox T w g sv vv c n) : w.cell? ⟨g, 0, none⟩ = some sv ∧ w.cell? ⟨g, 1, none⟩ = some vv ∧ w.cell? ⟨g, 2, none⟩ = some (.int .i64 c.1) ∧ w.cell? ⟨g, 3, none⟩ = some (.int .i64 c.2.1) ∧ w.cell? ⟨g, 4, none⟩ = some (.int .u32 c.2.2) ∧ w.cell? ⟨g, 5, none⟩ = some (.int .i64 n) :=
  ⟨cell_of_row _ _ 0 _ _ _ h, cell_of_row _ _ 1 _ _ _ h, cell_of_row _ _ 2 _ _ _ h, cell_of_row _ _ 3 _ _ _ h, cell_of_row _ _ 4 _ _ _ h, cell_of_row _ _ 5 _ _ _ h⟩
theorem Vbox.free (h : Vbox T w g sv vv c n) (i : Nat) : w.frozen? ⟨g, i, none⟩ = false := frozen_of_row _ _ _ _ _ h
theorem Vbox.lt (h : Vbox T w g sv vv c n) : g < w.heap.size := (Array.getElem?_eq_some_iff.1 h).1
theorem Vbox.later (h : Vbox T w g sv vv c n) (hb : Below w.heap.size w w') : Vbox T w' g sv vv c n := (hb.block g h.lt).trans h
theorem Vbox.setV (h : Vbox T w g sv vv c n) (u : Value) : Vbox T (w.setCell ⟨g, 1, none⟩ u) g sv u c n := by
  have := block_setCell (k := 1) h u
  unfold Vbox; simpa using this
theorem Vbox.setN (h : Vbox T w g sv vv c n) (k : Int) : Vbox T (w.setCell ⟨g, 5, none⟩ (.int .i64 k)) g sv vv c k := by
  have := block_setCell (k := 5) h (.int .i64 k)
  unfold Vbox; simpa using this
theorem Vbox.setC (h : Vbox T w g sv vv c n) (d : CurB) : Vbox T (((w.setCell ⟨g, 2, none⟩ (.int .i64 d.1)).setCell ⟨g, 3, none⟩ (.int .i64 d.2.1)).setCell ⟨g, 4, none⟩ (.int .u32 d.2.2)) g sv vv d n := by
  have := block_setCell (k := 4) (block_setCell (k := 3) (block_setCell (k := 2) h (.int .i64 d.1)) (.int .i64 d.2.1)) (.int .u32 d.2.2)
  unfold Vbox; simpa using this
end

/-- A view of a schema, with a set; blocks of Q may turn. -/
structure Vw (T : TypeId) (w : World) (N g : Nat) (cs : List ColB) (qs : List PairB) (c : CurB) (n : Int) (Q : Nat → Prop) : Prop where
  set : Zs cs qs
  from_ : N ≤ g
  free : ¬ Q g
  box : ∃ sv vv, Vbox T w g sv vv c n ∧ OffG colE w sv (cs.map colV) (fun j => Q j ∨ j = g) ∧ OffS w vv qs (fun j => Q j ∨ j = g)
section
variable {T : TypeId} {w w' : World} {N g : Nat} {cs : List ColB} {qs : List PairB} {c : CurB} {n : Int} {Q Q' S : Nat → Prop}
theorem Vw.lt (h : Vw T w N g cs qs c n Q) : g < w.heap.size := by
  obtain ⟨_, _, hb, _⟩ := h.box
  exact hb.lt
theorem Vw.only (h : Vw T w N g cs qs c n Q) (hO : Only S w w') (hS : ∀ j, j < w.heap.size → S j → Q j) : Vw T w' N g cs qs c n Q := by
  obtain ⟨sv, vv, h1, h2, h3⟩ := h.box
  have hk : ∀ j, j < w.heap.size → ¬ (Q j ∨ j = g) → w'.heap[j]? = w.heap[j]? := fun j hj hn => hO.block j hj fun hs => hn (.inl (hS j hj hs))
  exact ⟨h.set, h.from_, h.free, sv, vv, hO.keep h1 fun hs => h.free (hS g h1.lt hs), h2.keep colOk hk, h3.keep hk⟩
theorem Vw.later (h : Vw T w N g cs qs c n Q) (hb : Below w.heap.size w w') : Vw T w' N g cs qs c n Q :=
  h.only (S := fun _ => False) (hidOnly hb (Nat.le_refl _)) fun _ _ h => h.elim
theorem Vw.drew (h : Vw T w N g cs qs c n Q) : Vw T w.drew N g cs qs c n Q := h.later (Below.refl _ _).drew
theorem Vw.more (h : Vw T w N g cs qs c n Q) (hQ : ∀ j, j < w.heap.size → Q' j → Q j) : Vw T w N g cs qs c n Q' := by
  obtain ⟨sv, vv, h1, h2, h3⟩ := h.box
  have hk : ∀ j, j < w.heap.size → ¬ (Q j ∨ j = g) → ¬ (Q' j ∨ j = g) := fun j hj hn hq => hn (hq.elim (fun h => .inl (hQ j hj h)) .inr)
  exact ⟨h.set, h.from_, fun hq => h.free (hQ g h1.lt hq), sv, vv, h1, h2.more colOk hk, h3.more hk⟩
theorem Vw.below (h : Vw T w N g cs qs c n Q) (hO : Only (fun j => j = g) w w') : Below N w w' :=
  hO.toBelow (fun j hj => by rw [hj]; exact h.from_) (Nat.le_trans h.from_ (Nat.le_of_lt h.lt))
theorem Vw.rows (h : Vw T w N g cs qs c n Q) : ∀ k, k < qs.length → (qs.getD k default).1.length ≤ 8 := zs_rows h.set
/-- The world in which a set, a cursor, a count were stored. -/
theorem Vw.stored {u u' : World} {sv vv xv : Value} {ps : List PairB} {d : CurB} {k : Int} (h : Vw T w N g cs qs c n Q)
    (hw : Vbox T w g sv vv c n) (hs : OffG colE w sv (cs.map colV) (fun j => Q j ∨ j = g)) (hb : Below w.heap.size w u) (hx : OffS u xv ps (fun j => Q j ∨ j = g)) (hz : Zs cs ps)
    (hu : u' = ((((u.setCell ⟨g, 1, none⟩ xv).setCell ⟨g, 2, none⟩ (.int .i64 d.1)).setCell ⟨g, 3, none⟩ (.int .i64 d.2.1)).setCell ⟨g, 4, none⟩ (.int .u32 d.2.2)).setCell ⟨g, 5, none⟩ (.int .i64 k)) :
    Vw T u' N g cs ps d k Q ∧ Only (fun j => j = g) w u' := by
  have hO : Only (fun j => j = g) u u' := by
    rw [hu]
    exact (((((Only.refl (fun j => j = g) u).setCell (p := ⟨g, 1, none⟩) rfl _).setCell (p := ⟨g, 2, none⟩) rfl _).setCell (p := ⟨g, 3, none⟩) rfl _).setCell (p := ⟨g, 4, none⟩) rfl _).setCell (p := ⟨g, 5, none⟩) rfl _
  have hk : ∀ j, j < u.heap.size → ¬ (Q j ∨ j = g) → u'.heap[j]? = u.heap[j]? := fun j hj hn => hO.block j hj fun e => hn (.inr e)
  refine ⟨⟨hz, h.from_, h.free, sv, xv, ?_, (hs.keep colOk fun j hj _ => hb.block j hj).keep colOk hk, hx.keep hk⟩, (hidOnly hb (Nat.le_refl _)).trans hO⟩
  rw [hu]
  exact (((hw.later hb).setV xv).setC d).setN k
end

/-- What Take answers, and leaves. -/
def TkO (T : TypeId) (w : World) (N g : Nat) (cs : List ColB) (qs : List PairB) (c : CurB) (n : Int) (Q : Nat → Prop) (m : MsgB) (e : Ending) (w' : World) : Prop :=
  e = .returned (.int .i64 (tkE cs qs c m : Nat)) ∧ Vw T w' N g cs (tkQ cs qs c m) (tkC cs qs c m) (tkN cs qs c n m) Q ∧ Only (fun j => j = g) w w'
theorem TkO.no {T : TypeId} {w w' : World} {N g : Nat} {cs : List ColB} {qs : List PairB} {c : CurB} {n : Int} {Q : Nat → Prop} {m : MsgB} {k : Nat} {y : Int} (h : Vw T w N g cs qs c n Q) (hb : Below w.heap.size w w') (hk : tkE cs qs c m = k) (h0 : k ≠ 0) (hy : y = (k : Int)) :
    TkO T w N g cs qs c n Q m (.returned (.int .i64 y)) w' := by
  obtain ⟨e1, e2, e3⟩ := tk_no (n := n) (by rw [hk]; exact h0)
  refine ⟨by rw [hk, hy], ?_, hidOnly hb (Nat.le_refl _)⟩
  rw [e1, e2, e3]
  exact h.later hb
/-- A message, as it comes in. -/
def RdMg (w : World) (v : Value) (m : MsgB) : Prop := ∃ pv, v = .agg #[.int .i64 m.1, pv, .int .i64 m.2.2.1, .int .i64 m.2.2.2.1, .int .u32 m.2.2.2.2] ∧ RdP w pv m.2.1

/-- What is new may turn. -/
theorem Vw.fresh {T : TypeId} {w : World} {N g : Nat} {cs : List ColB} {qs : List PairB} {c : CurB} {n : Int} {Q : Nat → Prop} (h : Vw T w N g cs qs c n Q) : Vw T w N g cs qs c n (fun j => Q j ∨ w.heap.size ≤ j) := by
  obtain ⟨sv, vv, h1, h2, h3⟩ := h.box
  have hk : ∀ j, j < w.heap.size → ¬ (Q j ∨ j = g) → ¬ ((Q j ∨ w.heap.size ≤ j) ∨ j = g) := fun j hj hn hq => by
    rcases hq with (hq | hq) | hq
    · exact hn (.inl hq)
    · omega
    · exact hn (.inr hq)
  exact ⟨h.set, h.from_, fun hq => hq.elim h.free (fun h9 => by have := h1.lt; omega), sv, vv, h1, h2.more colOk hk, h3.more hk⟩

/-- A schema's print. -/
def prt (cs : List ColB) : Int := ((Crc.sum (wrS (colsL cs)) : Nat) : Int)
/-- What New answers. -/
def NvO (T : TypeId) (w : World) (cs : List ColB) (Q : Nat → Prop) (e : Ending) (w' : World) : Prop :=
  ∃ v, e = .returned (.tuple #[v, .int .i64 (errS (colsL cs) : Nat)]) ∧ Below w.heap.size w w' ∧
    ((errS (colsL cs) ≠ 0 ∧ v = .pointer none) ∨ (errS (colsL cs) = 0 ∧ ∃ g, v = .pointer (some ⟨g, 0, none⟩) ∧ w.heap.size ≤ g ∧ Vw T w' w.heap.size g cs [] (0, 0, prt cs) 0 Q))
theorem view_made {T : TypeId} {w w2 : World} {cs : List ColB} {cv : Value} {p : Int} {Q : Nat → Prop} (h0 : errS (colsL cs) = 0) (hb : Below w.heap.size w w2) (hc : OffG colE w2 cv (cs.map colV) Q) (hQ : ∀ j, Q j → j < w.heap.size) :
    Vw T (w2.alloc (.cells #[cv, .slice none 0 0, .int .i64 0, .int .i64 0, .int .u32 p, .int .i64 0] T)) w.heap.size w2.heap.size cs [] (0, 0, p) 0 Q := by
  obtain ⟨_, N1, N2⟩ := new1 w2 (.cells #[cv, .slice none 0 0, .int .i64 0, .int .i64 0, .int .u32 p, .int .i64 0] T)
  have hz := hb.size
  refine ⟨nil_set h0, hz, fun hq => by have := hQ _ hq; omega, cv, .slice none 0 0, N1, ?_, OffS.nil _ _⟩
  exact (hc.more (Q' := fun j => Q j ∨ j = w2.heap.size) colOk fun j hj hn hq => hq.elim hn fun e => by omega).keep colOk fun j hj _ => N2.block j hj

end Go.Proofs.YtokpphhmmcoeaaaGreatDoor
