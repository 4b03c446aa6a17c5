/-
  A row's text, in lists (no program in it).
-/
import Derived.Test.YtkljkpffpdpphaaGreatDoorGCmpR
import Derived.Test.YtkljkpffpdpphaaGreatDoorGReadMath
import Derived.Test.YtkljkpffpdpphaaGreatDoorGCut
import Derived.Test.YtkljkpffpdpphaaGreatDoorCellTexts
import Derived.Test.YtkljkpffpdpphaaGreatDoorCellLaws
set_option linter.unusedVariables false
set_option linter.unusedSimpArgs false
set_option maxRecDepth 1000000
namespace Go.Proofs.YtkljkpffpdpphaaGreatDoor
open Go.RowKit Go.Shelf

def txP (x : CP) : List UInt8 := textK x.1.2 x.2.1 x.2.2.data.toList
def textR (cs : List ColB) (rs : List CellB) : List UInt8 := Lib.join ((cs.zip rs).map txP) [44]

theorem dig_no {r : Nat} (h : r < 16) : dig r ≠ 44 := by
  obtain rfl | rfl | rfl | rfl | rfl | rfl | rfl | rfl | rfl | rfl | rfl | rfl | rfl | rfl | rfl | rfl : r = 0 ∨ r = 1 ∨ r = 2 ∨ r = 3 ∨ r = 4 ∨ r = 5 ∨ r = 6 ∨ r = 7 ∨ r = 8 ∨ r = 9 ∨ r = 10 ∨ r = 11 ∨ r = 12 ∨ r = 13 ∨ r = 14 ∨ r = 15 := by omega
  all_goals decide
theorem allD_no {l : List UInt8} (h : allD l) : (44 : UInt8) ∉ l := fun hm => by
  obtain ⟨r, hr, he⟩ := h _ hm
  exact dig_no hr he.symm
theorem hexN_no : ∀ (n x : Nat), (44 : UInt8) ∉ hexN n x
  | 0, x => by simp [hexN]
  | n + 1, x => by
    rw [hexN]
    intro h
    rcases List.mem_append.1 h with h | h
    · exact hexN_no n _ h
    · exact dig_no (Nat.mod_lt x (by decide)) (List.mem_singleton.1 h).symm
theorem of48_no {d : Nat} (h : d < 10) : UInt8.ofNat (48 + d) ≠ 44 := by
  intro e
  have := congrArg UInt8.toNat e
  rw [UInt8.toNat_ofNat'] at this
  have h9 : (44 : UInt8).toNat = 44 := rfl
  omega
theorem dec_no (u : Nat) : (44 : UInt8) ∉ dec u := by
  induction u using Nat.strongRecOn with
  | _ u ih =>
    by_cases h : u < 10
    · rw [dec_lo h]; intro hm; exact of48_no h (List.mem_singleton.1 hm).symm
    · rw [dec_hi h]
      intro hm
      rcases List.mem_append.1 hm with hm | hm
      · exact ih _ (by omega) hm
      · exact of48_no (Nat.mod_lt u (by decide)) (List.mem_singleton.1 hm).symm
theorem sdec_no (x : Int) : (44 : UInt8) ∉ sdec x := by
  unfold sdec
  split
  · intro hm
    rcases List.mem_cons.1 hm with hm | hm
    · exact absurd hm (by decide)
    · exact dec_no _ hm
  · exact dec_no _
theorem textK_no (kind : Int) (hk : 0 ≤ kind ∧ kind ≤ 5) (x : Nat) (hx : x < 18446744073709551616) (l : List UInt8) : (44 : UInt8) ∉ textK kind x l := by
  unfold textK
  split
  · unfold hexC
    split
    · decide
    · exact allD_no (allD_hexL l)
  · rename_i h34
    obtain rfl | rfl | rfl | rfl : kind = 0 ∨ kind = 1 ∨ kind = 2 ∨ kind = 5 := by omega
    · unfold numL; rw [if_pos rfl]; exact sdec_no _
    · unfold numL; rw [if_neg (by decide), if_neg (by decide), if_neg (by decide)]; exact dec_no _
    · unfold numL; rw [if_neg (by decide), if_pos rfl]; split <;> decide
    · rw [numL5 x hx]; exact hexN_no _ _
theorem textK_len (kind : Int) (hk : 0 ≤ kind ∧ kind ≤ 5) (x : Nat) (hx : x < 18446744073709551616) (l : List UInt8) (hl : l.length ≤ 256) : (textK kind x l).length ≤ 512 := by
  unfold textK
  split
  · unfold hexC
    split
    · simp
    · rw [hexL_len]; omega
  · rename_i h34
    obtain rfl | rfl | rfl | rfl : kind = 0 ∨ kind = 1 ∨ kind = 2 ∨ kind = 5 := by omega
    · unfold numL; rw [if_pos rfl]
      have hb := wrap_bounds x hx
      have := sdec_len (wrap64 (x : Int)) hb.1 hb.2
      omega
    · unfold numL; rw [if_neg (by decide), if_neg (by decide), if_neg (by decide)]
      have := dec_len 19 x (by omega)
      omega
    · unfold numL; rw [if_neg (by decide), if_pos rfl]; split <;> decide
    · rw [numL5 x hx, hexN_len]; omega
theorem txP_small {x : CP} (hx : x.2.1 < 18446744073709551616) (h : chk x = 0) : (txP x).length ≤ 512 ∧ (44 : UInt8) ∉ txP x := by
  obtain ⟨hk, _, _, _, _, h5⟩ := check_zero h
  exact ⟨textK_len _ hk _ hx _ h5, textK_no _ hk _ hx _⟩

theorem join_len (l : List (List UInt8)) (n : Nat) (h : ∀ x ∈ l, x.length ≤ n) : (Lib.join l [44]).length ≤ l.length * (n + 1) := by
  induction l with
  | nil => simp [Lib.join]
  | cons a r ih =>
    have h1 := h a (by simp)
    have h2 := ih (fun x hx => h x (by simp [hx]))
    cases r with
    | nil => rw [Lib.join_one]; simp; omega
    | cons b s =>
      rw [Lib.join_cons]
      rw [Lib.join_cons] at h2
      simp [Lib.joinTail] at h2 ⊢
      simp [Nat.add_mul] at h2 ⊢
      omega
theorem textR_small {cs : List ColB} {rs : List CellB} (hE : CES rs) (h : errP (cs.zip rs) = 0) (hl : cs.length ≤ 8) : (textR cs rs).length ≤ 5000 := by
  have := join_len ((cs.zip rs).map txP) 512 (by
    intro y hy
    obtain ⟨x, hx, rfl⟩ := List.mem_map.1 hy
    exact (txP_small (hE _ (List.of_mem_zip hx).2).1 (errP_zero h x hx)).1)
  unfold textR
  rw [List.length_map, List.length_zip] at this
  have h9 : min cs.length rs.length ≤ 8 := by omega
  have : min cs.length rs.length * (512 + 1) ≤ 8 * 513 := Nat.mul_le_mul_right _ h9
  omega
end Go.Proofs.YtkljkpffpdpphaaGreatDoor


/-
  What a row's text is read as, in lists (no program in it); the first pieces of a text.
-/
namespace Go.Proofs.YtkljkpffpdpphaaGreatDoor
open Go.RowKit Go.Shelf

theorem splitK_more (c : UInt8) : ∀ (s : List UInt8) (k : Nat), s.count c ≤ k → Lib.splitK [c] 0 k s = cutL c s
  | [], k, h => by
    cases k with
    | zero => rfl
    | succ k => rw [Lib.splitK]; rfl
  | x :: r, k, h => by
    by_cases hx : x = c
    · subst hx
      rw [List.count_cons_self] at h
      obtain ⟨j, rfl⟩ : ∃ j, k = j + 1 := ⟨k - 1, by omega⟩
      have ih := splitK_more x r j (by omega)
      rw [Lib.splitK, index_one, if_pos rfl, cutL, if_pos rfl]
      simp [ih]
    · rw [List.count_cons_of_ne hx] at h
      have ih := splitK_more c r k h
      rw [cutL, if_neg hx, ← ih]
      cases k with
      | zero => simp [Lib.splitK, consHead]
      | succ k =>
        rw [Lib.splitK, Lib.splitK, index_one, if_neg hx]
        by_cases hi : Lib.index r [c] = -1
        · simp [hi, consHead]
        · have h0 := Lib.index_ge r [c]
          rw [if_neg hi]
          have e1 : ¬ ((Lib.index r [c] + 1 == -1) = true) := by simp; omega
          have e2 : ¬ ((Lib.index r [c] == -1) = true) := by simpa using hi
          rw [if_neg e1, if_neg e2, consHead]
          have e3 : (Lib.index r [c] + 1).toNat = (Lib.index r [c]).toNat + 1 := by omega
          rw [e3]
          simp
theorem cutL_count (c : UInt8) : ∀ s : List UInt8, (cutL c s).length = s.count c + 1
  | [] => rfl
  | x :: r => by
    have ih := cutL_count c r
    rw [cutL]
    by_cases hx : x = c
    · subst hx; rw [if_pos rfl, List.count_cons_self, List.length_cons, ih]
    · rw [if_neg hx, List.count_cons_of_ne hx, ← ih]
      cases hc : cutL c r with
      | nil => have := cutL_pos c r; rw [hc] at this; simp at this
      | cons a b => rfl
theorem splitK_len (c : UInt8) : ∀ (s : List UInt8) (k : Nat), (Lib.splitK [c] 0 k s).length = min k (s.count c) + 1
  | [], k => by
    cases k with
    | zero => rfl
    | succ k =>
      have e : Lib.splitK [c] 0 (k + 1) [] = [[]] := by rw [Lib.splitK]; rfl
      rw [e]; simp
  | x :: r, k => by
    cases k with
    | zero => simp [Lib.splitK]
    | succ k =>
      by_cases hx : x = c
      · subst hx
        have ih := splitK_len x r k
        rw [List.count_cons_self, Lib.splitK, index_one, if_pos rfl]
        simp [ih]
      · have ih := splitK_len c r (k + 1)
        rw [List.count_cons_of_ne hx, ← ih]
        rw [Lib.splitK, Lib.splitK, index_one, if_neg hx]
        by_cases hi : Lib.index r [c] = -1
        · simp [hi]
        · have h0 := Lib.index_ge r [c]
          rw [if_neg hi]
          have e1 : ¬ ((Lib.index r [c] + 1 == -1) = true) := by simp; omega
          have e2 : ¬ ((Lib.index r [c] == -1) = true) := by simpa using hi
          rw [if_neg e1, if_neg e2]
          have e3 : (Lib.index r [c] + 1).toNat = (Lib.index r [c]).toNat + 1 := by omega
          rw [e3]
          simp

/-- What a cell's text is read as: the cell, the error. -/
abbrev QP := ColB × ByteArray
def cellO (o : Option (Nat × List UInt8) × Nat) : CellB := match o with
  | (some (x, b), _) => (x, ⟨b.toArray⟩)
  | (none, _) => (0, ⟨#[]⟩)
def codeO (o : Option (Nat × List UInt8) × Nat) : Nat := match o with
  | (some _, _) => 0
  | (none, k) => k
theorem rdVal_co (o : Option (Nat × List UInt8) × Nat) : rdVal o = .tuple #[.agg #[.int .u64 ((cellO o).1 : Int), .string (cellO o).2], .int .i64 (codeO o : Nat)] := by
  obtain ⟨o, k⟩ := o
  cases o with
  | none => rfl
  | some p => rfl
noncomputable def rdo (x : QP) : Option (Nat × List UInt8) × Nat := readV x.1.2 x.2.data.toList
noncomputable def errQ : List QP → Nat
  | [] => 0
  | x :: r => if codeO (rdo x) ≠ 0 then codeO (rdo x) else errQ r
theorem errQ_append : ∀ (l m : List QP), errQ (l ++ m) = if errQ l ≠ 0 then errQ l else errQ m
  | [], m => by simp [errQ]
  | x :: r, m => by
    rw [List.cons_append, errQ, errQ_append r m, errQ]
    by_cases h : codeO (rdo x) = 0
    · have h' : ¬ codeO (rdo x) ≠ 0 := fun h9 => h9 h
      rw [if_neg h', if_neg h']
    · rw [if_pos h, if_pos h, if_pos h]
theorem errQ_snoc (l : List QP) (x : QP) (h : errQ l = 0) : errQ (l ++ [x]) = codeO (rdo x) := by
  rw [errQ_append, h, if_neg (by simp), errQ, errQ]
  by_cases h : codeO (rdo x) = 0
  · rw [if_neg (by simpa using h), h]
  · rw [if_pos h]
theorem errQ_take {l : List QP} {k : Nat} (h : errQ (l.take k) ≠ 0) : errQ l = errQ (l.take k) := by
  have := errQ_append (l.take k) (l.drop k)
  rw [List.take_append_drop, if_pos h] at this
  exact this
theorem codeO_none {kind : Int} {s : List UInt8} (h : codeO (readV kind s) = 0) : ∃ x b, readV kind s = (some (x, b), 0) ∧ x < 18446744073709551616 ∧ checkC kind x b = 0 ∧ textK kind x b = s := by
  rcases hv : readV kind s with ⟨o, k⟩
  rw [hv] at h
  cases o with
  | none => exact absurd h (readV_none kind s k hv)
  | some p =>
    obtain ⟨x, b⟩ := p
    obtain ⟨h1, h2, h3, h4⟩ := readV_some kind s x b k hv
    subst h1
    exact ⟨x, b, rfl, h2, h3, h4⟩
theorem errQ_zero {l : List QP} (h : errQ l = 0) : ∀ x ∈ l, codeO (rdo x) = 0 := by
  induction l with
  | nil => intro x hx; simp at hx
  | cons a r ih =>
    rw [errQ] at h
    by_cases ha : codeO (rdo a) = 0
    · rw [if_neg (by simpa using ha)] at h
      intro x hx
      rcases List.mem_cons.1 hx with rfl | hx
      · exact ha
      · exact ih h x hx
    · rw [if_pos ha] at h; exact absurd h ha
theorem errQ_of {l : List QP} (h : ∀ x ∈ l, codeO (rdo x) = 0) : errQ l = 0 := by
  induction l with
  | nil => rfl
  | cons a r ih =>
    rw [errQ, if_neg (by simpa using h a (by simp))]
    exact ih fun x hx => h x (by simp [hx])
noncomputable def cellsQ (l : List QP) : List CellB := l.map fun x => cellO (rdo x)
theorem rdo_small (x : QP) : (cellO (rdo x)).1 < 18446744073709551616 ∧ (cellO (rdo x)).2.size ≤ 256 := by
  unfold rdo
  rcases hv : readV x.1.2 x.2.data.toList with ⟨o, k⟩
  cases o with
  | none => exact ⟨by show (0 : Nat) < 18446744073709551616; omega, by show (0 : Nat) ≤ 256; omega⟩
  | some p =>
    obtain ⟨n, b⟩ := p
    obtain ⟨h1, h2, h3, h4⟩ := readV_some _ _ n b k hv
    obtain ⟨_, _, _, _, _, h5⟩ := check_zero h3
    exact ⟨h2, by show (⟨b.toArray⟩ : ByteArray).size ≤ 256; simpa [ByteArray.size] using h5⟩
theorem cellsQ_ok (l : List QP) : CES (cellsQ l) := by
  intro c hc
  obtain ⟨x, _, rfl⟩ := List.mem_map.1 hc
  have := rdo_small x
  exact ⟨this.1, by omega⟩

/-- The pairs of columns and parts. -/
def partsQ (cs : List ColB) (l : List UInt8) : List QP := cs.zip (strL (cutL 44 l))
/-- What a row's text is read as: the row, the error. -/
noncomputable def rowE (cs : List ColB) (l : List UInt8) : Nat := if errS (colsL cs) ≠ 0 then errS (colsL cs) else if (cutL 44 l).length ≠ cs.length then 6 else errQ (partsQ cs l)
noncomputable def rowC (cs : List ColB) (l : List UInt8) : List CellB := if rowE cs l = 0 then cellsQ (partsQ cs l) else []
theorem rowC_ok (cs : List ColB) (l : List UInt8) : CES (rowC cs l) := by
  unfold rowC
  split
  · exact cellsQ_ok _
  · intro c hc; simp at hc
end Go.Proofs.YtkljkpffpdpphaaGreatDoor


/-
  Rows and their texts undo each other; the order of rows (no program in it).
-/
namespace Go.Proofs.YtkljkpffpdpphaaGreatDoor
open Go.RowKit Go.Shelf

theorem cutL_joinR (c : UInt8) : ∀ l, Lib.join (cutL c l) [c] = l
  | [] => by rw [cutL, Lib.join_one]
  | x :: r => by
    have ih := cutL_joinR c r
    have hp := cutL_pos c r
    rw [cutL]
    cases hc : cutL c r with
    | nil => rw [hc] at hp; simp at hp
    | cons a t =>
      rw [hc] at ih
      rw [Lib.join_cons] at ih
      split
      · rename_i hx
        rw [Lib.join_cons]
        rw [hx, ← ih]
        simp [Lib.joinTail]
      · rw [consHead, Lib.join_cons]
        simpa using ih

theorem cutL_appR {c : UInt8} : ∀ {a : List UInt8} (b : List UInt8), c ∉ a → cutL c (a ++ c :: b) = a :: cutL c b
  | [], b, _ => by rw [List.nil_append, cutL, if_pos rfl]
  | x :: r, b, h => by
    rw [List.cons_append, cutL, if_neg (fun e => h (by simp [e])), cutL_appR b (fun hh => h (by simp [hh]))]
    rfl
theorem cutL_joinedR {c : UInt8} : ∀ {ls : List (List UInt8)}, ls ≠ [] → (∀ a ∈ ls, c ∉ a) → cutL c (Lib.join ls [c]) = ls
  | [], h, _ => absurd rfl h
  | [a], _, h => by rw [Lib.join_one]; exact cutL_none (h a (by simp))
  | a :: b :: r, _, h => by
    have ih := cutL_joinedR (c := c) (ls := b :: r) (by simp) (fun x hx => h x (by simp [hx]))
    have e : Lib.join (a :: b :: r) [c] = a ++ c :: Lib.join (b :: r) [c] := by rw [Lib.join_cons, Lib.join_cons]; simp [Lib.joinTail]
    rw [e, cutL_appR _ (h a (by simp)), ih]

theorem readBack : ∀ (cs : List ColB) (rs : List CellB), cs.length = rs.length → CES rs → errP (cs.zip rs) = 0 → errQ (cs.zip (strL ((cs.zip rs).map txP))) = 0 ∧ cellsQ (cs.zip (strL ((cs.zip rs).map txP))) = rs
  | [], [], _, _, _ => ⟨rfl, rfl⟩
  | [], _ :: _, h, _, _ => by simp at h
  | _ :: _, [], h, _, _ => by simp at h
  | c :: cs, r :: rs, h, hE, h0 => by
    have hz := errP_zero h0
    have hc : chk (c, r) = 0 := hz _ (by simp)
    have ih := readBack cs rs (by simpa using h) (fun x hx => hE x (by simp [hx])) (errP_of fun x hx => hz x (by simp [hx]))
    have hr := hE r (by simp)
    have hv : rdo (c, (⟨(txP (c, r)).toArray⟩ : ByteArray)) = (some (r.1, r.2.data.toList), 0) := by
      unfold rdo txP
      exact readV_textK c.2 r.1 r.2.data.toList hr.1 hc
    have e : (c :: cs).zip (strL (((c :: cs).zip (r :: rs)).map txP)) = (c, (⟨(txP (c, r)).toArray⟩ : ByteArray)) :: cs.zip (strL ((cs.zip rs).map txP)) := rfl
    rw [e]
    constructor
    · rw [errQ, hv]
      exact ih.1
    · have e2 : cellsQ ((c, (⟨(txP (c, r)).toArray⟩ : ByteArray)) :: cs.zip (strL ((cs.zip rs).map txP))) = cellO (rdo (c, (⟨(txP (c, r)).toArray⟩ : ByteArray))) :: cellsQ (cs.zip (strL ((cs.zip rs).map txP))) := rfl
      rw [e2, ih.2, hv]
      have e3 : cellO (some (r.1, r.2.data.toList), 0) = r := by
        obtain ⟨n, s⟩ := r
        cases s
        rfl
      rw [e3]

theorem row_back {cs : List ColB} {rs : List CellB} (hE : CES rs) (h : errRow cs rs = 0) : rowE cs (textR cs rs) = 0 ∧ rowC cs (textR cs rs) = rs := by
  obtain ⟨hS, hl, hP⟩ := errRow_len h
  have hz8 := errS_zero hS
  rw [colsL_length] at hz8
  have hne : (cs.zip rs).map txP ≠ [] := by
    intro e
    have := congrArg List.length e
    rw [List.length_map, List.length_zip, List.length_nil] at this
    omega
  have hcut : cutL 44 (textR cs rs) = (cs.zip rs).map txP := cutL_joinedR hne (by
    intro a ha
    obtain ⟨x, hx, rfl⟩ := List.mem_map.1 ha
    exact (txP_small (hE _ (List.of_mem_zip hx).2).1 (errP_zero hP x hx)).2)
  have hb := readBack cs rs hl.symm hE hP
  have hE0 : rowE cs (textR cs rs) = 0 := by
    unfold rowE partsQ
    rw [if_neg (by rw [hS]; simp), if_neg (by rw [hcut, List.length_map, List.length_zip]; omega), hcut]
    exact hb.1
  refine ⟨hE0, ?_⟩
  unfold rowC
  rw [if_pos hE0]
  unfold partsQ
  rw [hcut]
  exact hb.2

theorem readOne : ∀ (cs : List ColB) (ss : List ByteArray), cs.length = ss.length → errQ (cs.zip ss) = 0 → errP (cs.zip (cellsQ (cs.zip ss))) = 0 ∧ (cs.zip (cellsQ (cs.zip ss))).map txP = ss.map (·.data.toList)
  | [], [], _, _ => ⟨rfl, rfl⟩
  | [], _ :: _, h, _ => by simp at h
  | _ :: _, [], h, _ => by simp at h
  | c :: cs, s :: ss, h, h0 => by
    have hz := errQ_zero h0
    have hc : codeO (rdo (c, s)) = 0 := hz _ (by simp)
    have ih := readOne cs ss (by simpa using h) (errQ_of fun x hx => hz x (by simp [hx]))
    obtain ⟨x, b, hv, hx, hk, ht⟩ := codeO_none hc
    have e : cellsQ ((c :: cs).zip (s :: ss)) = cellO (rdo (c, s)) :: cellsQ (cs.zip ss) := rfl
    have e3 : cellO (rdo (c, s)) = (x, ⟨b.toArray⟩) := by unfold rdo; rw [hv]; rfl
    rw [e, e3]
    constructor
    · rw [List.zip_cons_cons, errP, if_neg (by
        have : chk (c, (x, (⟨b.toArray⟩ : ByteArray))) = 0 := hk
        rw [this]; simp)]
      exact ih.1
    · rw [List.zip_cons_cons, List.map_cons, List.map_cons, ih.2]
      have : txP (c, (x, (⟨b.toArray⟩ : ByteArray))) = s.data.toList := ht
      rw [this]

theorem row_one {cs : List ColB} {l : List UInt8} (h : rowE cs l = 0) : errRow cs (rowC cs l) = 0 ∧ textR cs (rowC cs l) = l ∧ (rowC cs l).length = cs.length := by
  have hrow : rowC cs l = cellsQ (partsQ cs l) := by unfold rowC; rw [if_pos h]
  unfold rowE at h
  by_cases hS : errS (colsL cs) = 0
  · rw [if_neg (by rw [hS]; simp)] at h
    by_cases hc : (cutL 44 l).length = cs.length
    · rw [if_neg (by rw [hc]; simp)] at h
      have hl : cs.length = (strL (cutL 44 l)).length := by rw [strL_length, hc]
      have hq := readOne cs (strL (cutL 44 l)) hl h
      have hlen : (cellsQ (partsQ cs l)).length = cs.length := by
        unfold cellsQ partsQ
        rw [List.length_map, List.length_zip, ← hl]; omega
      rw [hrow]
      refine ⟨?_, ?_, hlen⟩
      · unfold errRow errC
        rw [if_pos hS, if_pos hlen]
        exact hq.1
      · unfold textR
        rw [show (cs.zip (cellsQ (partsQ cs l))).map txP = (strL (cutL 44 l)).map (·.data.toList) from hq.2, strL_data]
        exact cutL_joinR 44 l
    · rw [if_pos hc] at h; cases h
  · rw [if_pos hS] at h; exact absurd h hS
theorem rowC_none {cs : List ColB} {l : List UInt8} (h : rowE cs l ≠ 0) : rowC cs l = [] := by unfold rowC; rw [if_neg h]

end Go.Proofs.YtkljkpffpdpphaaGreatDoor

