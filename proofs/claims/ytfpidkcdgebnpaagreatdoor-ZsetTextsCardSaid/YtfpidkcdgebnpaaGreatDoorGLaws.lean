/-
  What the frames of layer 4's laws want: a cell, three cells, a string that came in; the library's tables, as the row lists them.
-/
import Derived.Test.YtfpidkcdgebnpaaGreatDoorGCellT
import Derived.Test.YtfpidkcdgebnpaaGreatDoorGBaseA
import Derived.Lib.LaidU8T
import Derived.PinnedBridge
import Derived.Lay
import Derived.Handed
import Derived.OpenVars
import Derived.Lib.SmallJoins
import Derived.Test.YtfpidkcdgebnpaaGreatDoorGRefRead
import Derived.Test.YtfpidkcdgebnpaaGreatDoorGRow
import Derived.Test.YtfpidkcdgebnpaaGreatDoorGReadMath
import Derived.Test.YtfpidkcdgebnpaaGreatDoorGSchema
set_option linter.unusedVariables false
set_option linter.unusedSimpArgs false
set_option maxRecDepth 1000000
namespace Go.Proofs.YtfpidkcdgebnpaaGreatDoor
open Go.ChangeShapes Go.WideShapes Go.ChangeAt Go.RowKit Go.Shelf

theorem u8Extra : U8Extra Tryz.prog Tryz.laysValid_ren := ⟨by kernel_rfl, by kernel_rfl, by kernel_rfl, by kernel_rfl, by kernel_rfl, by kernel_rfl, by kernel_rfl⟩
theorem accept_eq : (Rows.laid_unicode_utf8_acceptRanges : DataW Unit) = Lib.acceptData := by kernel_rfl

/-- The tables, out of what the row lists. -/
theorem tabs_of {W : World} (h1 : Lib.VarReads Tryz.prog W "unicode/utf8.first" Rows.laid_unicode_utf8_first) (h2 : Lib.VarReads Tryz.prog W "unicode/utf8.acceptRanges" Rows.laid_unicode_utf8_acceptRanges) : Tabs W :=
  utf8Tabs_of_readsT (U8Types.of196 Tryz.laysValid) u8Extra (Pinned.utf8First_eq ▸ h1) (accept_eq ▸ h2)

section
variable {H : Type} {enc : TypeId × Value → H} {W : World}

theorem str_open {base : Nat} {v : Value} {d : DataW H} {ps : List MemPlace} {ts : List TypeId} {ds : List (DataW H)} {j : Nat} (hval : Value.okWide Tryz.prog W .any base 9 v)
    (h : DataW.Trod enc Tryz.prog W 0 (fun _ => true) true 9 v d ps) (hz : (DataW.weightsEach Tryz.prog ts ds).all (· ≤ reachBytes) = true) (ht : ts[j]? = some 9) (hd : ds[j]? = some d) : ∃ (s : ByteArray) (l : List UInt8), v = .string s ∧ RdS s l := by
  obtain ⟨s, rfl, rfl, rfl, hs⟩ := Go.ChangeMaps.open_string Tryz.underlying9 hval h
  have := sized_string hz ht hd
  exact ⟨s, _, rfl, ⟨rfl, by simpa [reachBytes] using this⟩⟩

theorem cells_cell : Tryz.prog.cellsOf 71 = 2 := by kernel_rfl

theorem cell_open {base : Nat} {v : Value} {d : DataW H} {ps : List MemPlace} {ts : List TypeId} {ds : List (DataW H)} {j : Nat} (hval : Value.okWide Tryz.prog W .any base 71 v)
    (h : DataW.Trod enc Tryz.prog W 0 (fun _ => true) true 71 v d ps) (hz : (DataW.weightsEach Tryz.prog ts ds).all (· ≤ reachBytes) = true) (ht : ts[j]? = some 71) (hd : ds[j]? = some d) :
    ∃ (n : Nat) (s : ByteArray) (l : List UInt8), v = cellV n s ∧ n < 18446744073709551616 ∧ RdS s l := by
  obtain ⟨c0, c1, y0, y1, m, rfl, rfl, rfl, h0, h1⟩ := Joins.open_agg2 Tryz.underlying71 (by kernel_rfl) cells_cell hval h
  obtain ⟨a, e0, e1, wa⟩ := DataW.trod_int Tryz.underlying52 h0
  obtain ⟨s, e2, e3, _⟩ := DataW.trod_string Tryz.underlying9 h1
  simp at e0 e2
  subst e0 e2 e1 e3
  have hb := bd_u64 wa
  obtain ⟨n, rfl⟩ : ∃ n : Nat, a = n := ⟨a.toNat, by omega⟩
  have hs : s.data.toList.length ≤ reachBytes := by
    have := List.all_eq_true.1 hz _ (DataW.weights_mem_each ht hd s.data.toList.length (by simp [DataW.weights, Tryz.underlying71, DataW.weightsEach]))
    simpa using this
  exact ⟨n, s, _, rfl, by omega, ⟨rfl, by simpa [reachBytes] using hs⟩⟩

theorem cells_six {v : Value} {a b c d e f : Value} (h : v.cells.toList = [a, b, c, d, e, f]) : v = .agg #[a, b, c, d, e, f] := by
  have h' : v.cells = #[a, b, c, d, e, f] := Array.toList_inj.1 (by simpa using h)
  cases v <;> simp [Value.cells] at h'
  subst h'; rfl

theorem cell_part {m : Nat} {cs : List Value} {x : DataW H × List MemPlace} (h : DataW.trod enc Tryz.prog W 0 (fun _ => true) true m 71 cs = some x) :
    ∃ (n : Nat) (s : ByteArray), cs = [.int .u64 (n : Int), .string s] ∧ x.1 = .agg [.lit (.int .u64 (n : Int)), .lit (.string s.data.toList)] ∧ n < 18446744073709551616 := by
  obtain ⟨y0, y1, k, hx, hl, h0, h1⟩ := trod_struct2 Tryz.underlying71 h
  rw [cells_cell] at hl
  match cs, hl with
  | [c0, c1], _ =>
    have k9 : Tryz.prog.cellsOf 52 = 1 := by kernel_rfl
    have k8 : Tryz.prog.cellsOf 9 = 1 := by kernel_rfl
    simp [k9, k8] at h0 h1
    obtain ⟨a, e0, e1, wa⟩ := DataW.trod_int Tryz.underlying52 h0
    obtain ⟨s, e2, e3, _⟩ := DataW.trod_string Tryz.underlying9 h1
    simp at e0 e2
    subst e0 e2
    have hb := bd_u64 wa
    obtain ⟨n, rfl⟩ : ∃ n : Nat, a = n := ⟨a.toNat, by omega⟩
    exact ⟨n, s, rfl, by rw [hx]; simp [e1, e3], by omega⟩

end

end Go.Proofs.YtfpidkcdgebnpaaGreatDoor


/-
  The order of cells, as mathematics; a cell that lies in a block of its own.
-/
namespace Go.Proofs.YtfpidkcdgebnpaaGreatDoor
open Go.RowKit Go.Shelf

/-- A cell's two places, in a block of its own. -/
abbrev CellAt (w : World) (b : Nat) (x : Nat) (s : ByteArray) : Prop := w.heap[b]? = some (.cells #[.int .u64 (x : Int), .string s] 71 (0, 0))
theorem CellAt.lt {w : World} {b x : Nat} {s : ByteArray} (h : CellAt w b x s) : b < w.heap.size := by
  rcases Nat.lt_or_ge b w.heap.size with h' | h'
  · exact h'
  · unfold CellAt at h; rw [Array.getElem?_eq_none h'] at h; cases h
theorem CellAt.later {w w' : World} {b x : Nat} {s : ByteArray} (h : CellAt w b x s) (hb : Below w.heap.size w w') : CellAt w' b x s := (hb.block b h.lt).trans h
theorem CellAt.c0 {w : World} {b x : Nat} {s : ByteArray} (h : CellAt w b x s) : w.cell? ⟨b, 0, none⟩ = some (.int .u64 (x : Int)) := new_cellC (i := 0) h rfl
theorem CellAt.c1 {w : World} {b x : Nat} {s : ByteArray} (h : CellAt w b x s) : w.cell? ⟨b, 1, none⟩ = some (.string s) := new_cellC (i := 1) h rfl
theorem CellAt.g0 {w : World} {b x : Nat} {s : ByteArray} (h : CellAt w b x s) (a : Ord.GW w) : a.val.cell? ⟨b, 0, none⟩ = some (.int .u64 (x : Int)) := (h.later a.grew).c0
theorem CellAt.g1 {w : World} {b x : Nat} {s : ByteArray} (h : CellAt w b x s) (a : Ord.GW w) : a.val.cell? ⟨b, 1, none⟩ = some (.string s) := (h.later a.grew).c1

theorem three_new (w0 : World) (k : Nat) (hk : w0.heap.size = k) (A B C : Obj) :
    (((w0.alloc A).alloc B).alloc C).drew.heap[k]? = some A ∧ (((w0.alloc A).alloc B).alloc C).drew.heap[k + 1]? = some B ∧ (((w0.alloc A).alloc B).alloc C).drew.heap[k + 1 + 1]? = some C := by
  obtain ⟨h0, h1, h2, h3, _⟩ := new3 w0 A B C
  rw [hk] at h1 h2 h3
  exact ⟨h1, h2, h3⟩
theorem three_below {w w0 : World} (h : Below w.heap.size w w0) (A B C : Obj) : Below w.heap.size w (((w0.alloc A).alloc B).alloc C).drew := by
  obtain ⟨_, _, _, _, h4⟩ := new3 w0 A B C
  exact (h.trans (h4.mono h.size)).drew

section
theorem ordZ_flip (a b : Int) : ordZ a b = -ordZ b a := by unfold ordZ; split <;> split <;> first | rfl | (split <;> first | rfl | omega) | omega
theorem ordZ_zero (a b : Int) : ordZ a b = 0 ↔ a = b := by
  unfold ordZ
  constructor
  · intro h; split at h
    · cases h
    · split at h
      · cases h
      · omega
  · rintro rfl; rw [if_neg (by omega), if_neg (by omega)]
theorem ordZ_lt (a b : Int) : ordZ a b < 0 ↔ a < b := by
  unfold ordZ
  split
  · simp; assumption
  · split <;> simp <;> omega
theorem ordZ_gt (a b : Int) : 0 < ordZ a b ↔ b < a := by
  unfold ordZ
  split
  · simp; omega
  · split <;> simp <;> omega
theorem ordZ_one (a b : Int) : -1 ≤ ordZ a b ∧ ordZ a b ≤ 1 := by
  unfold ordZ
  split
  · decide
  · split <;> decide

open _root_.Go.Lib in
theorem cb_flip : ∀ l m : List UInt8, compareBytes l m = -compareBytes m l
  | [], [] => rfl
  | [], _ :: _ => rfl
  | _ :: _, [] => rfl
  | a :: r, b :: t => by
    unfold compareBytes
    by_cases h1 : a < b
    · have h2 : ¬ b < a := by simp only [UInt8.lt_iff_toNat_lt] at *; omega
      simp [h1, h2]
    · by_cases h2 : b < a
      · simp [h1, h2]
      · simp [h1, h2, cb_flip r t]
open _root_.Go.Lib in
theorem cb_zero : ∀ l m : List UInt8, compareBytes l m = 0 ↔ l = m
  | [], [] => by simp [compareBytes]
  | [], _ :: _ => by simp [compareBytes]
  | _ :: _, [] => by simp [compareBytes]
  | a :: r, b :: t => by
    unfold compareBytes
    by_cases h1 : a < b
    · have h3 : a ≠ b := fun e => by subst e; simp only [UInt8.lt_iff_toNat_lt] at h1; omega
      simp [h1, h3]
    · by_cases h2 : b < a
      · have h3 : a ≠ b := fun e => by subst e; exact h1 h2
        simp [h1, h2, h3]
      · have e : a = b := by
          simp only [UInt8.lt_iff_toNat_lt] at h1 h2
          exact UInt8.toNat_inj.1 (by omega)
        subst e
        simp [h1, cb_zero r t]
open _root_.Go.Lib in
theorem cb_one : ∀ l m : List UInt8, -1 ≤ compareBytes l m ∧ compareBytes l m ≤ 1
  | [], [] => by simp [compareBytes]
  | [], _ :: _ => by simp [compareBytes]
  | _ :: _, [] => by simp [compareBytes]
  | a :: r, b :: t => by
    unfold compareBytes
    split
    · decide
    · split
      · decide
      · exact cb_one r t
open _root_.Go.Lib in
/-- Not above, and not above: not above; and below, if either is. -/
theorem cb_trans : ∀ l m n : List UInt8, compareBytes l m ≤ 0 → compareBytes m n ≤ 0 → compareBytes l n ≤ 0 ∧ ((compareBytes l m < 0 ∨ compareBytes m n < 0) → compareBytes l n < 0)
  | [], [], [], _, _ => by simp [compareBytes]
  | [], [], _ :: _, _, _ => by simp [compareBytes]
  | [], _ :: _, [], _, h => by simp [compareBytes] at h
  | [], _ :: _, _ :: _, _, _ => by simp [compareBytes]
  | _ :: _, [], _, h, _ => by simp [compareBytes] at h
  | _ :: _, _ :: _, [], _, h => by simp [compareBytes] at h
  | a :: r, b :: t, c :: q, h1, h2 => by
    have IH := _root_.Go.Lib.hid (cb_trans r t q)
    unfold compareBytes at h1 h2 ⊢
    simp only [UInt8.lt_iff_toNat_lt] at h1 h2 ⊢
    by_cases k1 : a.toNat < b.toNat
    · by_cases k2 : b.toNat < c.toNat
      · rw [if_pos (by omega : a.toNat < c.toNat)]; exact ⟨by decide, fun _ => by decide⟩
      · rw [if_neg k2] at h2
        by_cases k3 : c.toNat < b.toNat
        · rw [if_pos k3] at h2; exact absurd h2 (by decide)
        · rw [if_pos (by omega : a.toNat < c.toNat)]; exact ⟨by decide, fun _ => by decide⟩
    · rw [if_neg k1] at h1
      by_cases k4 : b.toNat < a.toNat
      · rw [if_pos k4] at h1; exact absurd h1 (by decide)
      · rw [if_neg k4] at h1
        by_cases k2 : b.toNat < c.toNat
        · rw [if_pos (by omega : a.toNat < c.toNat)]; exact ⟨by decide, fun _ => by decide⟩
        · rw [if_neg k2] at h2
          by_cases k3 : c.toNat < b.toNat
          · rw [if_pos k3] at h2; exact absurd h2 (by decide)
          · rw [if_neg k3] at h2
            rw [if_neg k1, if_neg k4, if_neg k2, if_neg k3, if_neg (by omega : ¬ a.toNat < c.toNat), if_neg (by omega : ¬ c.toNat < a.toNat)]
            exact IH.out h1 h2
end

section
variable {kind : Int} {x y z : Nat} {l m n : List UInt8}

theorem check_num (h : checkC kind x l = 0) (hk : ¬ (kind = 3 ∨ kind = 4)) : l = [] := by
  have h6 := check_kind h
  rw [checkC_isOf kind x l h6] at h
  obtain rfl | rfl | rfl | rfl | rfl | rfl : kind = 0 ∨ kind = 1 ∨ kind = 2 ∨ kind = 3 ∨ kind = 4 ∨ kind = 5 := by omega
  all_goals first | (exfalso; simp at hk; done) | (cases l with
    | nil => rfl
    | cons a r => simp [isOfC] at h)
theorem check_txt (h : checkC kind x l = 0) (hk : kind = 3 ∨ kind = 4) : x = 0 := by
  have h6 := check_kind h
  rw [checkC_isOf kind x l h6] at h
  rcases hk with rfl | rfl
  · by_cases hx : x = 0
    · exact hx
    · simp [isOfC, hx] at h
  · by_cases hx : x = 0
    · exact hx
    · simp [isOfC, hx] at h

/-- The number by which numbers stand. -/
def keyC (kind : Int) (x : Nat) : Int := if kind = 0 then wrap64 (x : Int) else if kind = 5 then tkey x + 9223372036854775808 else (x : Int)
theorem keyC_inj (hx : x < 18446744073709551616) (hy : y < 18446744073709551616) (h : keyC kind x = keyC kind y) : x = y := by
  unfold keyC at h
  by_cases h0 : kind = 0
  · rw [if_pos h0, if_pos h0] at h
    unfold wrap64 at h
    omega
  · rw [if_neg h0, if_neg h0] at h
    by_cases h5 : kind = 5
    · rw [if_pos h5, if_pos h5] at h
      unfold tkey at h
      split at h <;> split at h <;> omega
    · rw [if_neg h5, if_neg h5] at h
      omega
theorem cmpC_key (hk : ¬ (kind = 3 ∨ kind = 4)) (h1 : checkC kind x l = 0) (h2 : checkC kind y m = 0) : cmpC kind x l y m = ordZ (keyC kind x) (keyC kind y) := by
  have h6 := check_kind h1
  have e0 : ∀ q : Nat, keyC 0 q = wrap64 (q : Int) := fun q => by unfold keyC; rw [if_pos rfl]
  have e1 : ∀ q : Nat, keyC 1 q = (q : Int) := fun q => by unfold keyC; rw [if_neg (by decide), if_neg (by decide)]
  have e2 : ∀ q : Nat, keyC 2 q = (q : Int) := fun q => by unfold keyC; rw [if_neg (by decide), if_neg (by decide)]
  have e5 : ∀ q : Nat, keyC 5 q = tkey q + 9223372036854775808 := fun q => by unfold keyC; rw [if_neg (by decide), if_pos rfl]
  obtain rfl | rfl | rfl | rfl | rfl | rfl : kind = 0 ∨ kind = 1 ∨ kind = 2 ∨ kind = 3 ∨ kind = 4 ∨ kind = 5 := by omega
  · rw [e0, e0]; exact cmpC_0 h1 h2
  · rw [e1, e1]; exact cmpC_1 h1 h2
  · rw [e2, e2]; exact cmpC_2 h1 h2
  · simp at hk
  · simp at hk
  · rw [e5, e5]; exact cmpC_5 h1 h2
theorem cmpC_txt (hk : kind = 3 ∨ kind = 4) (h1 : checkC kind x l = 0) (h2 : checkC kind y m = 0) : cmpC kind x l y m = Lib.compareBytes l m := by
  rcases hk with rfl | rfl
  · exact cmpC_3 h1 h2
  · exact cmpC_4 h1 h2

/-- The order of any three cells of a kind. -/
theorem cmpC_laws (hx : x < 18446744073709551616) (hy : y < 18446744073709551616) (h1 : checkC kind x l = 0) (h2 : checkC kind y m = 0) (h3 : checkC kind z n = 0) :
    cmpC kind x l y m = -cmpC kind y m x l ∧ (cmpC kind x l y m = 0 ↔ x = y ∧ l = m) ∧ (-1 ≤ cmpC kind x l y m ∧ cmpC kind x l y m ≤ 1) ∧
    (cmpC kind x l y m ≤ 0 → cmpC kind y m z n ≤ 0 → cmpC kind x l z n ≤ 0) ∧ (cmpC kind x l y m < 0 → cmpC kind y m z n < 0 → cmpC kind x l z n < 0) := by
  by_cases hk : kind = 3 ∨ kind = 4
  · rw [cmpC_txt hk h1 h2, cmpC_txt hk h2 h1, cmpC_txt hk h2 h3, cmpC_txt hk h1 h3]
    have hx0 := check_txt h1 hk
    have hy0 := check_txt h2 hk
    refine ⟨cb_flip l m, ?_, cb_one l m, fun a b => (cb_trans l m n a b).1, fun a b => (cb_trans l m n (by omega) (by omega)).2 (.inl a)⟩
    rw [cb_zero]
    constructor
    · intro h; exact ⟨by omega, h⟩
    · intro h; exact h.2
  · rw [cmpC_key hk h1 h2, cmpC_key hk h2 h1, cmpC_key hk h2 h3, cmpC_key hk h1 h3]
    have hl := check_num h1 hk
    have hm := check_num h2 hk
    refine ⟨ordZ_flip _ _, ?_, ordZ_one _ _, fun a b => ?_, fun a b => ?_⟩
    · rw [ordZ_zero]
      constructor
      · intro h; exact ⟨keyC_inj hx hy h, by rw [hl, hm]⟩
      · rintro ⟨rfl, _⟩; rfl
    · have a1 : ¬ 0 < ordZ (keyC kind x) (keyC kind y) := by omega
      have b1 : ¬ 0 < ordZ (keyC kind y) (keyC kind z) := by omega
      rw [ordZ_gt] at a1 b1
      have : ¬ 0 < ordZ (keyC kind x) (keyC kind z) := by rw [ordZ_gt]; omega
      omega
    · rw [ordZ_lt] at *
      omega
end

end Go.Proofs.YtfpidkcdgebnpaaGreatDoor


/-
  CellTexts: the function.
-/
namespace Go.Proofs.YtfpidkcdgebnpaaGreatDoor
open Go.RowKit Go.Shelf

/-- What Read answers, as a value. -/
def rdVal (o : Option (Nat × List UInt8) × Nat) : Value := match o with
  | (some (x, b), _) => .tuple #[.agg #[.int .u64 (x : Int), .string ⟨b.toArray⟩], .int .i64 0]
  | (none, k) => .tuple #[.agg #[.int .u64 0, .string ⟨#[]⟩], .int .i64 (k : Int)]
theorem rdVal_of {o : Option (Nat × List UInt8) × Nat} {e : Ending} (h : RdV o e) : e = .returned (rdVal o) := by
  obtain ⟨o, k⟩ := o
  cases o with
  | none => exact h
  | some p =>
    obtain ⟨x, b⟩ := p
    obtain ⟨t, ht, rfl⟩ := h
    rw [ht.eq]; rfl
theorem rdVal_shape (o : Option (Nat × List UInt8) × Nat) : ∃ (x k : Nat) (t : ByteArray), rdVal o = .tuple #[.agg #[.int .u64 (x : Int), .string t], .int .i64 (k : Int)] := by
  obtain ⟨o, k⟩ := o
  cases o with
  | none => exact ⟨0, k, _, rfl⟩
  | some p => exact ⟨p.1, 0, _, rfl⟩

theorem text_any (kind : Int) (num : Nat) (hnum : num < 18446744073709551616) (s : ByteArray) (l : List UInt8) (w : World) (h : RdS s l) (hT : Lib3 w) (he : checkC kind num l = 0) (hl : l.length ≤ 70368744175616) :
    Calls Tryz.prog 53 #[.int .i64 kind, cellV num s] w fun e w' => (∃ t, e = .returned (.tuple #[.string t, .int .i64 0]) ∧ RdS t (textC kind num l)) ∧ Below w.heap.size w w' := by
  obtain ⟨hk, _, _, h3, _, _⟩ := check_zero he
  rw [← textK_textC kind hk num hnum h3 l]
  unfold textK
  by_cases h34 : kind = 3 ∨ kind = 4
  · rw [if_pos h34]
    exact cell_TextB kind h34 num s l w h hT.tabs he hl
  · rw [if_neg h34]
    exact cell_TextN kind (by omega) num hnum s l w h hT he

end Go.Proofs.YtfpidkcdgebnpaaGreatDoor


/-
  A row's text, in lists (no program in it).
-/
namespace Go.Proofs.YtfpidkcdgebnpaaGreatDoor
open Go.RowKit Go.Shelf

def txP (x : CP) : List UInt8 := textK x.1.2 x.2.1 x.2.2.data.toList
def textR (cs : List ColB) (rs : List CellB) : List UInt8 := Lib.join ((cs.zip rs).map txP) [44]

theorem dig_no {r : Nat} (h : r < 16) : dig r ≠ 44 := by
  obtain rfl | rfl | rfl | rfl | rfl | rfl | rfl | rfl | rfl | rfl | rfl | rfl | rfl | rfl | rfl | rfl : r = 0 ∨ r = 1 ∨ r = 2 ∨ r = 3 ∨ r = 4 ∨ r = 5 ∨ r = 6 ∨ r = 7 ∨ r = 8 ∨ r = 9 ∨ r = 10 ∨ r = 11 ∨ r = 12 ∨ r = 13 ∨ r = 14 ∨ r = 15 := by omega
  all_goals decide
theorem allD_no {l : List UInt8} (h : allD l) : (44 : UInt8) ∉ l := fun hm => by
  obtain ⟨r, hr, he⟩ := h _ hm
  exact dig_no hr he.symm
theorem hexN_no : ∀ (n x : Nat), (44 : UInt8) ∉ hexN n x
  | 0, x => by simp [hexN]
  | n + 1, x => by
    rw [hexN]
    intro h
    rcases List.mem_append.1 h with h | h
    · exact hexN_no n _ h
    · exact dig_no (Nat.mod_lt x (by decide)) (List.mem_singleton.1 h).symm
theorem of48_no {d : Nat} (h : d < 10) : UInt8.ofNat (48 + d) ≠ 44 := by
  intro e
  have := congrArg UInt8.toNat e
  rw [UInt8.toNat_ofNat'] at this
  have h9 : (44 : UInt8).toNat = 44 := rfl
  omega
theorem dec_no (u : Nat) : (44 : UInt8) ∉ dec u := by
  induction u using Nat.strongRecOn with
  | _ u ih =>
    by_cases h : u < 10
    · rw [dec_lo h]; intro hm; exact of48_no h (List.mem_singleton.1 hm).symm
    · rw [dec_hi h]
      intro hm
      rcases List.mem_append.1 hm with hm | hm
      · exact ih _ (by omega) hm
      · exact of48_no (Nat.mod_lt u (by decide)) (List.mem_singleton.1 hm).symm
theorem sdec_no (x : Int) : (44 : UInt8) ∉ sdec x := by
  unfold sdec
  split
  · intro hm
    rcases List.mem_cons.1 hm with hm | hm
    · exact absurd hm (by decide)
    · exact dec_no _ hm
  · exact dec_no _
theorem textK_no (kind : Int) (hk : 0 ≤ kind ∧ kind ≤ 5) (x : Nat) (hx : x < 18446744073709551616) (l : List UInt8) : (44 : UInt8) ∉ textK kind x l := by
  unfold textK
  split
  · unfold hexC
    split
    · decide
    · exact allD_no (allD_hexL l)
  · rename_i h34
    obtain rfl | rfl | rfl | rfl : kind = 0 ∨ kind = 1 ∨ kind = 2 ∨ kind = 5 := by omega
    · unfold numL; rw [if_pos rfl]; exact sdec_no _
    · unfold numL; rw [if_neg (by decide), if_neg (by decide), if_neg (by decide)]; exact dec_no _
    · unfold numL; rw [if_neg (by decide), if_pos rfl]; split <;> decide
    · rw [numL5 x hx]; exact hexN_no _ _
theorem textK_len (kind : Int) (hk : 0 ≤ kind ∧ kind ≤ 5) (x : Nat) (hx : x < 18446744073709551616) (l : List UInt8) (hl : l.length ≤ 256) : (textK kind x l).length ≤ 512 := by
  unfold textK
  split
  · unfold hexC
    split
    · simp
    · rw [hexL_len]; omega
  · rename_i h34
    obtain rfl | rfl | rfl | rfl : kind = 0 ∨ kind = 1 ∨ kind = 2 ∨ kind = 5 := by omega
    · unfold numL; rw [if_pos rfl]
      have hb := wrap_bounds x hx
      have := sdec_len (wrap64 (x : Int)) hb.1 hb.2
      omega
    · unfold numL; rw [if_neg (by decide), if_neg (by decide), if_neg (by decide)]
      have := dec_len 19 x (by omega)
      omega
    · unfold numL; rw [if_neg (by decide), if_pos rfl]; split <;> decide
    · rw [numL5 x hx, hexN_len]; omega
theorem txP_small {x : CP} (hx : x.2.1 < 18446744073709551616) (h : chk x = 0) : (txP x).length ≤ 512 ∧ (44 : UInt8) ∉ txP x := by
  obtain ⟨hk, _, _, _, _, h5⟩ := check_zero h
  exact ⟨textK_len _ hk _ hx _ h5, textK_no _ hk _ hx _⟩

theorem join_len (l : List (List UInt8)) (n : Nat) (h : ∀ x ∈ l, x.length ≤ n) : (Lib.join l [44]).length ≤ l.length * (n + 1) := by
  induction l with
  | nil => simp [Lib.join]
  | cons a r ih =>
    have h1 := h a (by simp)
    have h2 := ih (fun x hx => h x (by simp [hx]))
    cases r with
    | nil => rw [Lib.join_one]; simp; omega
    | cons b s =>
      rw [Lib.join_cons]
      rw [Lib.join_cons] at h2
      simp [Lib.joinTail] at h2 ⊢
      simp [Nat.add_mul] at h2 ⊢
      omega
theorem textR_small {cs : List ColB} {rs : List CellB} (hE : CES rs) (h : errP (cs.zip rs) = 0) (hl : cs.length ≤ 8) : (textR cs rs).length ≤ 5000 := by
  have := join_len ((cs.zip rs).map txP) 512 (by
    intro y hy
    obtain ⟨x, hx, rfl⟩ := List.mem_map.1 hy
    exact (txP_small (hE _ (List.of_mem_zip hx).2).1 (errP_zero h x hx)).1)
  unfold textR
  rw [List.length_map, List.length_zip] at this
  have h9 : min cs.length rs.length ≤ 8 := by omega
  have : min cs.length rs.length * (512 + 1) ≤ 8 * 513 := Nat.mul_le_mul_right _ h9
  omega
end Go.Proofs.YtfpidkcdgebnpaaGreatDoor


/-
  What a row's text is read as, in lists (no program in it); the first pieces of a text.
-/
namespace Go.Proofs.YtfpidkcdgebnpaaGreatDoor
open Go.RowKit Go.Shelf

theorem splitK_more (c : UInt8) : ∀ (s : List UInt8) (k : Nat), s.count c ≤ k → Lib.splitK [c] 0 k s = cutL c s
  | [], k, h => by
    cases k with
    | zero => rfl
    | succ k => rw [Lib.splitK]; rfl
  | x :: r, k, h => by
    by_cases hx : x = c
    · subst hx
      rw [List.count_cons_self] at h
      obtain ⟨j, rfl⟩ : ∃ j, k = j + 1 := ⟨k - 1, by omega⟩
      have ih := splitK_more x r j (by omega)
      rw [Lib.splitK, index_one, if_pos rfl, cutL, if_pos rfl]
      simp [ih]
    · rw [List.count_cons_of_ne hx] at h
      have ih := splitK_more c r k h
      rw [cutL, if_neg hx, ← ih]
      cases k with
      | zero => simp [Lib.splitK, consHead]
      | succ k =>
        rw [Lib.splitK, Lib.splitK, index_one, if_neg hx]
        by_cases hi : Lib.index r [c] = -1
        · simp [hi, consHead]
        · have h0 := Lib.index_ge r [c]
          rw [if_neg hi]
          have e1 : ¬ ((Lib.index r [c] + 1 == -1) = true) := by simp; omega
          have e2 : ¬ ((Lib.index r [c] == -1) = true) := by simpa using hi
          rw [if_neg e1, if_neg e2, consHead]
          have e3 : (Lib.index r [c] + 1).toNat = (Lib.index r [c]).toNat + 1 := by omega
          rw [e3]
          simp
theorem cutL_count (c : UInt8) : ∀ s : List UInt8, (cutL c s).length = s.count c + 1
  | [] => rfl
  | x :: r => by
    have ih := cutL_count c r
    rw [cutL]
    by_cases hx : x = c
    · subst hx; rw [if_pos rfl, List.count_cons_self, List.length_cons, ih]
    · rw [if_neg hx, List.count_cons_of_ne hx, ← ih]
      cases hc : cutL c r with
      | nil => have := cutL_pos c r; rw [hc] at this; simp at this
      | cons a b => rfl
theorem splitK_len (c : UInt8) : ∀ (s : List UInt8) (k : Nat), (Lib.splitK [c] 0 k s).length = min k (s.count c) + 1
  | [], k => by
    cases k with
    | zero => rfl
    | succ k =>
      have e : Lib.splitK [c] 0 (k + 1) [] = [[]] := by rw [Lib.splitK]; rfl
      rw [e]; simp
  | x :: r, k => by
    cases k with
    | zero => simp [Lib.splitK]
    | succ k =>
      by_cases hx : x = c
      · subst hx
        have ih := splitK_len x r k
        rw [List.count_cons_self, Lib.splitK, index_one, if_pos rfl]
        simp [ih]
      · have ih := splitK_len c r (k + 1)
        rw [List.count_cons_of_ne hx, ← ih]
        rw [Lib.splitK, Lib.splitK, index_one, if_neg hx]
        by_cases hi : Lib.index r [c] = -1
        · simp [hi]
        · have h0 := Lib.index_ge r [c]
          rw [if_neg hi]
          have e1 : ¬ ((Lib.index r [c] + 1 == -1) = true) := by simp; omega
          have e2 : ¬ ((Lib.index r [c] == -1) = true) := by simpa using hi
          rw [if_neg e1, if_neg e2]
          have e3 : (Lib.index r [c] + 1).toNat = (Lib.index r [c]).toNat + 1 := by omega
          rw [e3]
          simp

/-- What a cell's text is read as: the cell, the error. -/
abbrev QP := ColB × ByteArray
def cellO (o : Option (Nat × List UInt8) × Nat) : CellB := match o with
  | (some (x, b), _) => (x, ⟨b.toArray⟩)
  | (none, _) => (0, ⟨#[]⟩)
def codeO (o : Option (Nat × List UInt8) × Nat) : Nat := match o with
  | (some _, _) => 0
  | (none, k) => k
theorem rdVal_co (o : Option (Nat × List UInt8) × Nat) : rdVal o = .tuple #[.agg #[.int .u64 ((cellO o).1 : Int), .string (cellO o).2], .int .i64 (codeO o : Nat)] := by
  obtain ⟨o, k⟩ := o
  cases o with
  | none => rfl
  | some p => rfl
noncomputable def rdo (x : QP) : Option (Nat × List UInt8) × Nat := readV x.1.2 x.2.data.toList
noncomputable def errQ : List QP → Nat
  | [] => 0
  | x :: r => if codeO (rdo x) ≠ 0 then codeO (rdo x) else errQ r
theorem errQ_append : ∀ (l m : List QP), errQ (l ++ m) = if errQ l ≠ 0 then errQ l else errQ m
  | [], m => by simp [errQ]
  | x :: r, m => by
    rw [List.cons_append, errQ, errQ_append r m, errQ]
    by_cases h : codeO (rdo x) = 0
    · have h' : ¬ codeO (rdo x) ≠ 0 := fun h9 => h9 h
      rw [if_neg h', if_neg h']
    · rw [if_pos h, if_pos h, if_pos h]
theorem errQ_snoc (l : List QP) (x : QP) (h : errQ l = 0) : errQ (l ++ [x]) = codeO (rdo x) := by
  rw [errQ_append, h, if_neg (by simp), errQ, errQ]
  by_cases h : codeO (rdo x) = 0
  · rw [if_neg (by simpa using h), h]
  · rw [if_pos h]
theorem errQ_take {l : List QP} {k : Nat} (h : errQ (l.take k) ≠ 0) : errQ l = errQ (l.take k) := by
  have := errQ_append (l.take k) (l.drop k)
  rw [List.take_append_drop, if_pos h] at this
  exact this
theorem codeO_none {kind : Int} {s : List UInt8} (h : codeO (readV kind s) = 0) : ∃ x b, readV kind s = (some (x, b), 0) ∧ x < 18446744073709551616 ∧ checkC kind x b = 0 ∧ textK kind x b = s := by
  rcases hv : readV kind s with ⟨o, k⟩
  rw [hv] at h
  cases o with
  | none => exact absurd h (readV_none kind s k hv)
  | some p =>
    obtain ⟨x, b⟩ := p
    obtain ⟨h1, h2, h3, h4⟩ := readV_some kind s x b k hv
    subst h1
    exact ⟨x, b, rfl, h2, h3, h4⟩
theorem errQ_zero {l : List QP} (h : errQ l = 0) : ∀ x ∈ l, codeO (rdo x) = 0 := by
  induction l with
  | nil => intro x hx; simp at hx
  | cons a r ih =>
    rw [errQ] at h
    by_cases ha : codeO (rdo a) = 0
    · rw [if_neg (by simpa using ha)] at h
      intro x hx
      rcases List.mem_cons.1 hx with rfl | hx
      · exact ha
      · exact ih h x hx
    · rw [if_pos ha] at h; exact absurd h ha
theorem errQ_of {l : List QP} (h : ∀ x ∈ l, codeO (rdo x) = 0) : errQ l = 0 := by
  induction l with
  | nil => rfl
  | cons a r ih =>
    rw [errQ, if_neg (by simpa using h a (by simp))]
    exact ih fun x hx => h x (by simp [hx])
noncomputable def cellsQ (l : List QP) : List CellB := l.map fun x => cellO (rdo x)
theorem rdo_small (x : QP) : (cellO (rdo x)).1 < 18446744073709551616 ∧ (cellO (rdo x)).2.size ≤ 256 := by
  unfold rdo
  rcases hv : readV x.1.2 x.2.data.toList with ⟨o, k⟩
  cases o with
  | none => exact ⟨by show (0 : Nat) < 18446744073709551616; omega, by show (0 : Nat) ≤ 256; omega⟩
  | some p =>
    obtain ⟨n, b⟩ := p
    obtain ⟨h1, h2, h3, h4⟩ := readV_some _ _ n b k hv
    obtain ⟨_, _, _, _, _, h5⟩ := check_zero h3
    exact ⟨h2, by show (⟨b.toArray⟩ : ByteArray).size ≤ 256; simpa [ByteArray.size] using h5⟩
theorem cellsQ_ok (l : List QP) : CES (cellsQ l) := by
  intro c hc
  obtain ⟨x, _, rfl⟩ := List.mem_map.1 hc
  have := rdo_small x
  exact ⟨this.1, by omega⟩

/-- The pairs of columns and parts. -/
def partsQ (cs : List ColB) (l : List UInt8) : List QP := cs.zip (strL (cutL 44 l))
/-- What a row's text is read as: the row, the error. -/
noncomputable def rowE (cs : List ColB) (l : List UInt8) : Nat := if errS (colsL cs) ≠ 0 then errS (colsL cs) else if (cutL 44 l).length ≠ cs.length then 6 else errQ (partsQ cs l)
noncomputable def rowC (cs : List ColB) (l : List UInt8) : List CellB := if rowE cs l = 0 then cellsQ (partsQ cs l) else []
theorem rowC_ok (cs : List ColB) (l : List UInt8) : CES (rowC cs l) := by
  unfold rowC
  split
  · exact cellsQ_ok _
  · intro c hc; simp at hc
end Go.Proofs.YtfpidkcdgebnpaaGreatDoor


/-
  Rows and their texts undo each other; the order of rows (no program in it).
-/
namespace Go.Proofs.YtfpidkcdgebnpaaGreatDoor
open Go.RowKit Go.Shelf

theorem cutL_joinR (c : UInt8) : ∀ l, Lib.join (cutL c l) [c] = l
  | [] => by rw [cutL, Lib.join_one]
  | x :: r => by
    have ih := cutL_joinR c r
    have hp := cutL_pos c r
    rw [cutL]
    cases hc : cutL c r with
    | nil => rw [hc] at hp; simp at hp
    | cons a t =>
      rw [hc] at ih
      rw [Lib.join_cons] at ih
      split
      · rename_i hx
        rw [Lib.join_cons]
        rw [hx, ← ih]
        simp [Lib.joinTail]
      · rw [consHead, Lib.join_cons]
        simpa using ih

theorem cutL_appR {c : UInt8} : ∀ {a : List UInt8} (b : List UInt8), c ∉ a → cutL c (a ++ c :: b) = a :: cutL c b
  | [], b, _ => by rw [List.nil_append, cutL, if_pos rfl]
  | x :: r, b, h => by
    rw [List.cons_append, cutL, if_neg (fun e => h (by simp [e])), cutL_appR b (fun hh => h (by simp [hh]))]
    rfl
theorem cutL_joinedR {c : UInt8} : ∀ {ls : List (List UInt8)}, ls ≠ [] → (∀ a ∈ ls, c ∉ a) → cutL c (Lib.join ls [c]) = ls
  | [], h, _ => absurd rfl h
  | [a], _, h => by rw [Lib.join_one]; exact cutL_none (h a (by simp))
  | a :: b :: r, _, h => by
    have ih := cutL_joinedR (c := c) (ls := b :: r) (by simp) (fun x hx => h x (by simp [hx]))
    have e : Lib.join (a :: b :: r) [c] = a ++ c :: Lib.join (b :: r) [c] := by rw [Lib.join_cons, Lib.join_cons]; simp [Lib.joinTail]
    rw [e, cutL_appR _ (h a (by simp)), ih]

theorem readBack : ∀ (cs : List ColB) (rs : List CellB), cs.length = rs.length → CES rs → errP (cs.zip rs) = 0 → errQ (cs.zip (strL ((cs.zip rs).map txP))) = 0 ∧ cellsQ (cs.zip (strL ((cs.zip rs).map txP))) = rs
  | [], [], _, _, _ => ⟨rfl, rfl⟩
  | [], _ :: _, h, _, _ => by simp at h
  | _ :: _, [], h, _, _ => by simp at h
  | c :: cs, r :: rs, h, hE, h0 => by
    have hz := errP_zero h0
    have hc : chk (c, r) = 0 := hz _ (by simp)
    have ih := readBack cs rs (by simpa using h) (fun x hx => hE x (by simp [hx])) (errP_of fun x hx => hz x (by simp [hx]))
    have hr := hE r (by simp)
    have hv : rdo (c, (⟨(txP (c, r)).toArray⟩ : ByteArray)) = (some (r.1, r.2.data.toList), 0) := by
      unfold rdo txP
      exact readV_textK c.2 r.1 r.2.data.toList hr.1 hc
    have e : (c :: cs).zip (strL (((c :: cs).zip (r :: rs)).map txP)) = (c, (⟨(txP (c, r)).toArray⟩ : ByteArray)) :: cs.zip (strL ((cs.zip rs).map txP)) := rfl
    rw [e]
    constructor
    · rw [errQ, hv]
      exact ih.1
    · have e2 : cellsQ ((c, (⟨(txP (c, r)).toArray⟩ : ByteArray)) :: cs.zip (strL ((cs.zip rs).map txP))) = cellO (rdo (c, (⟨(txP (c, r)).toArray⟩ : ByteArray))) :: cellsQ (cs.zip (strL ((cs.zip rs).map txP))) := rfl
      rw [e2, ih.2, hv]
      have e3 : cellO (some (r.1, r.2.data.toList), 0) = r := by
        obtain ⟨n, s⟩ := r
        cases s
        rfl
      rw [e3]

theorem row_back {cs : List ColB} {rs : List CellB} (hE : CES rs) (h : errRow cs rs = 0) : rowE cs (textR cs rs) = 0 ∧ rowC cs (textR cs rs) = rs := by
  obtain ⟨hS, hl, hP⟩ := errRow_len h
  have hz8 := errS_zero hS
  rw [colsL_length] at hz8
  have hne : (cs.zip rs).map txP ≠ [] := by
    intro e
    have := congrArg List.length e
    rw [List.length_map, List.length_zip, List.length_nil] at this
    omega
  have hcut : cutL 44 (textR cs rs) = (cs.zip rs).map txP := cutL_joinedR hne (by
    intro a ha
    obtain ⟨x, hx, rfl⟩ := List.mem_map.1 ha
    exact (txP_small (hE _ (List.of_mem_zip hx).2).1 (errP_zero hP x hx)).2)
  have hb := readBack cs rs hl.symm hE hP
  have hE0 : rowE cs (textR cs rs) = 0 := by
    unfold rowE partsQ
    rw [if_neg (by rw [hS]; simp), if_neg (by rw [hcut, List.length_map, List.length_zip]; omega), hcut]
    exact hb.1
  refine ⟨hE0, ?_⟩
  unfold rowC
  rw [if_pos hE0]
  unfold partsQ
  rw [hcut]
  exact hb.2

theorem readOne : ∀ (cs : List ColB) (ss : List ByteArray), cs.length = ss.length → errQ (cs.zip ss) = 0 → errP (cs.zip (cellsQ (cs.zip ss))) = 0 ∧ (cs.zip (cellsQ (cs.zip ss))).map txP = ss.map (·.data.toList)
  | [], [], _, _ => ⟨rfl, rfl⟩
  | [], _ :: _, h, _ => by simp at h
  | _ :: _, [], h, _ => by simp at h
  | c :: cs, s :: ss, h, h0 => by
    have hz := errQ_zero h0
    have hc : codeO (rdo (c, s)) = 0 := hz _ (by simp)
    have ih := readOne cs ss (by simpa using h) (errQ_of fun x hx => hz x (by simp [hx]))
    obtain ⟨x, b, hv, hx, hk, ht⟩ := codeO_none hc
    have e : cellsQ ((c :: cs).zip (s :: ss)) = cellO (rdo (c, s)) :: cellsQ (cs.zip ss) := rfl
    have e3 : cellO (rdo (c, s)) = (x, ⟨b.toArray⟩) := by unfold rdo; rw [hv]; rfl
    rw [e, e3]
    constructor
    · rw [List.zip_cons_cons, errP, if_neg (by
        have : chk (c, (x, (⟨b.toArray⟩ : ByteArray))) = 0 := hk
        rw [this]; simp)]
      exact ih.1
    · rw [List.zip_cons_cons, List.map_cons, List.map_cons, ih.2]
      have : txP (c, (x, (⟨b.toArray⟩ : ByteArray))) = s.data.toList := ht
      rw [this]

theorem row_one {cs : List ColB} {l : List UInt8} (h : rowE cs l = 0) : errRow cs (rowC cs l) = 0 ∧ textR cs (rowC cs l) = l ∧ (rowC cs l).length = cs.length := by
  have hrow : rowC cs l = cellsQ (partsQ cs l) := by unfold rowC; rw [if_pos h]
  unfold rowE at h
  by_cases hS : errS (colsL cs) = 0
  · rw [if_neg (by rw [hS]; simp)] at h
    by_cases hc : (cutL 44 l).length = cs.length
    · rw [if_neg (by rw [hc]; simp)] at h
      have hl : cs.length = (strL (cutL 44 l)).length := by rw [strL_length, hc]
      have hq := readOne cs (strL (cutL 44 l)) hl h
      have hlen : (cellsQ (partsQ cs l)).length = cs.length := by
        unfold cellsQ partsQ
        rw [List.length_map, List.length_zip, ← hl]; omega
      rw [hrow]
      refine ⟨?_, ?_, hlen⟩
      · unfold errRow errC
        rw [if_pos hS, if_pos hlen]
        exact hq.1
      · unfold textR
        rw [show (cs.zip (cellsQ (partsQ cs l))).map txP = (strL (cutL 44 l)).map (·.data.toList) from hq.2, strL_data]
        exact cutL_joinR 44 l
    · rw [if_pos hc] at h; cases h
  · rw [if_pos hS] at h; exact absurd h hS
theorem rowC_none {cs : List ColB} {l : List UInt8} (h : rowE cs l ≠ 0) : rowC cs l = [] := by unfold rowC; rw [if_neg h]

end Go.Proofs.YtfpidkcdgebnpaaGreatDoor


/-
  The order of rows, as mathematics; a schema's beginning and its end.
-/
namespace Go.Proofs.YtfpidkcdgebnpaaGreatDoor
open Go.RowKit Go.Shelf

theorem cell_ext {a b : CellB} : (a.1 = b.1 ∧ a.2.data.toList = b.2.data.toList) ↔ a = b := by
  obtain ⟨x, s⟩ := a
  obtain ⟨y, t⟩ := b
  constructor
  · rintro ⟨h1, h2⟩
    dsimp only at h1 h2
    subst h1
    have : s = t := by apply ByteArray.ext; exact Array.toList_inj.1 h2
    rw [this]
  · intro h; injection h with h1 h2; subst h1 h2; exact ⟨rfl, rfl⟩
/-- Two cells of a kind. -/
theorem cmpX_laws {k : Int} {a b c : CellB} (ha : ceS a) (hb : ceS b) (h1 : checkC k a.1 a.2.data.toList = 0) (h2 : checkC k b.1 b.2.data.toList = 0) (h3 : checkC k c.1 c.2.data.toList = 0) :
    cmpX k a b = -cmpX k b a ∧ (cmpX k a b = 0 ↔ a = b) ∧ (-1 ≤ cmpX k a b ∧ cmpX k a b ≤ 1) ∧ (cmpX k a b < 0 → cmpX k b c < 0 → cmpX k a c < 0) := by
  obtain ⟨p1, p2, p3, _, p5⟩ := cmpC_laws (x := a.1) (y := b.1) (z := c.1) (l := a.2.data.toList) (m := b.2.data.toList) (n := c.2.data.toList) (kind := k) ha.1 hb.1 h1 h2 h3
  exact ⟨p1, p2.trans cell_ext, p3, p5⟩

/-- Rows of columns, each cell as it may be. -/
def okR : List ColB → List CellB → Prop
  | [], [] => True
  | c :: cs, x :: r => ceS x ∧ checkC c.2 x.1 x.2.data.toList = 0 ∧ okR cs r
  | _, _ => False
theorem okR_of : ∀ {cs : List ColB} {r : List CellB}, r.length = cs.length → CES r → errP (cs.zip r) = 0 → okR cs r
  | [], [], _, _, _ => trivial
  | [], _ :: _, h, _, _ => by simp at h
  | _ :: _, [], h, _, _ => by simp at h
  | c :: cs, x :: r, h, hE, h0 => by
    have hz := errP_zero h0
    exact ⟨hE x (by simp), hz (c, x) (by simp), okR_of (by simpa using h) (fun y hy => hE y (by simp [hy])) (errP_of fun y hy => hz y (by simp [hy]))⟩
theorem cmpL_nil (l : List (CellB × CellB)) : cmpL [] l = 0 := by
  cases l <;> (rw [cmpL]; intros; contradiction)

theorem cmpL_flip : ∀ {cs : List ColB} {a b : List CellB}, okR cs a → okR cs b → cmpL cs (a.zip b) = -cmpL cs (b.zip a)
  | [], _, _, _, _ => by rw [cmpL_nil, cmpL_nil]; rfl
  | c :: cs, [], _, h, _ => absurd h (by simp [okR])
  | c :: cs, _ :: _, [], _, h => absurd h (by simp [okR])
  | c :: cs, x :: a, y :: b, ha, hb => by
    obtain ⟨p1, p2, _, _⟩ := cmpX_laws ha.1 hb.1 ha.2.1 hb.2.1 hb.2.1
    have ih := cmpL_flip ha.2.2 hb.2.2
    rw [List.zip_cons_cons, List.zip_cons_cons, cmpL, cmpL]
    dsimp only
    by_cases h : cmpX c.2 x y = 0
    · have h' : cmpX c.2 y x = 0 := by omega
      rw [if_neg (fun h9 => h9 h), if_neg (fun h9 => h9 h')]; exact ih
    · have h' : cmpX c.2 y x ≠ 0 := by omega
      rw [if_pos h, if_pos h']; exact p1
theorem cmpL_zero : ∀ {cs : List ColB} {a b : List CellB}, okR cs a → okR cs b → (cmpL cs (a.zip b) = 0 ↔ a = b)
  | [], [], [], _, _ => by rw [cmpL_nil]; simp
  | [], _ :: _, _, h, _ => absurd h (by simp [okR])
  | [], [], _ :: _, _, h => absurd h (by simp [okR])
  | c :: cs, [], _, h, _ => absurd h (by simp [okR])
  | c :: cs, _ :: _, [], _, h => absurd h (by simp [okR])
  | c :: cs, x :: a, y :: b, ha, hb => by
    obtain ⟨_, p2, _, _⟩ := cmpX_laws ha.1 hb.1 ha.2.1 hb.2.1 hb.2.1
    have ih := cmpL_zero ha.2.2 hb.2.2
    rw [List.zip_cons_cons, cmpL]
    dsimp only
    by_cases h : cmpX c.2 x y = 0
    · rw [if_neg (fun h9 => h9 h), ih]
      have := p2.1 h
      subst this
      simp
    · rw [if_pos h]
      constructor
      · intro h9; exact absurd h9 h
      · intro h9; injection h9 with h1 h2; exact absurd (p2.2 h1) h
theorem cmpL_small : ∀ {cs : List ColB} {a b : List CellB}, okR cs a → okR cs b → -1 ≤ cmpL cs (a.zip b) ∧ cmpL cs (a.zip b) ≤ 1
  | [], _, _, _, _ => by rw [cmpL_nil]; omega
  | c :: cs, [], _, h, _ => absurd h (by simp [okR])
  | c :: cs, _ :: _, [], _, h => absurd h (by simp [okR])
  | c :: cs, x :: a, y :: b, ha, hb => by
    obtain ⟨_, _, p3, _⟩ := cmpX_laws ha.1 hb.1 ha.2.1 hb.2.1 hb.2.1
    have ih := cmpL_small ha.2.2 hb.2.2
    rw [List.zip_cons_cons, cmpL]
    dsimp only
    split
    · exact p3
    · exact ih
theorem cmpL_trans : ∀ {cs : List ColB} {a b d : List CellB}, okR cs a → okR cs b → okR cs d → cmpL cs (a.zip b) ≤ 0 → cmpL cs (b.zip d) ≤ 0 → cmpL cs (a.zip d) ≤ 0 ∧ ((cmpL cs (a.zip b) < 0 ∨ cmpL cs (b.zip d) < 0) → cmpL cs (a.zip d) < 0)
  | [], _, _, _, _, _, _ => by rw [cmpL_nil, cmpL_nil, cmpL_nil]; omega
  | c :: cs, [], _, _, h, _, _ => absurd h (by simp [okR])
  | c :: cs, _ :: _, [], _, _, h, _ => absurd h (by simp [okR])
  | c :: cs, _ :: _, _ :: _, [], _, _, h => absurd h (by simp [okR])
  | c :: cs, x :: a, y :: b, z :: d, ha, hb, hd => by
    obtain ⟨_, p2, _, p5⟩ := cmpX_laws ha.1 hb.1 ha.2.1 hb.2.1 hd.2.1
    obtain ⟨_, q2, _, _⟩ := cmpX_laws hb.1 hd.1 hb.2.1 hd.2.1 hd.2.1
    have ih := cmpL_trans ha.2.2 hb.2.2 hd.2.2
    rw [List.zip_cons_cons, List.zip_cons_cons, List.zip_cons_cons, cmpL, cmpL, cmpL]
    dsimp only
    intro h1 h2
    by_cases hp : cmpX c.2 x y = 0
    · have := p2.1 hp
      subst this
      have np : ¬ (cmpX c.2 x x ≠ 0) := fun h9 => h9 hp
      rw [if_neg np] at h1 ⊢
      by_cases hq : cmpX c.2 x z = 0
      · have := q2.1 hq
        subst this
        rw [if_neg np] at h2
        rw [if_neg np, if_neg np]
        exact ih h1 h2
      · rw [if_pos hq] at h2
        rw [if_pos hq]
        exact ⟨h2, fun _ => by omega⟩
    · rw [if_pos hp] at h1 ⊢
      by_cases hq : cmpX c.2 y z = 0
      · have := q2.1 hq
        subst this
        have nq : ¬ (cmpX c.2 y y ≠ 0) := fun h9 => h9 hq
        rw [if_pos hp]
        exact ⟨h1, fun _ => by omega⟩
      · rw [if_pos hq] at h2 ⊢
        have := p5 (by omega) (by omega)
        rw [if_pos (show cmpX c.2 x z ≠ 0 by omega)]
        exact ⟨by omega, fun _ => by omega⟩

theorem okR_row {cs : List ColB} {r : List CellB} (hE : CES r) (h : errRow cs r = 0) : okR cs r := by
  obtain ⟨_, h1, h2⟩ := errRow_len h
  exact okR_of h1 hE h2
theorem cmpR_row {cs : List ColB} {a b : List CellB} (ha : errRow cs a = 0) (hb : errRow cs b = 0) : cmpR cs a b = cmpL cs (a.zip b) := by
  unfold cmpR; rw [if_neg (by omega)]

/-! A schema's beginning, and its end. -/
def okCR (c : Col) : Prop := c.1.length ≤ 32 ∧ c.1 ≠ [] ∧ (c.1.all fun c => letterB c.toNat) = true ∧ 0 ≤ c.2 ∧ c.2 ≤ 5
theorem colErr_iffR (ah : List (List UInt8)) (c : Col) : colErr ah c = 0 ↔ okCR c ∧ c.1 ∉ ah := by
  have hf : fine c.1 ah = true ↔ c.1 ≠ [] ∧ (c.1.all fun c => letterB c.toNat) = true ∧ c.1 ∉ ah := by
    unfold fine
    rw [Bool.and_eq_true, Bool.and_eq_true]
    simp
  constructor
  · intro h
    obtain ⟨h1, h2, h3, h4⟩ := colErr_zero h
    obtain ⟨f1, f2, f3⟩ := hf.1 h2
    exact ⟨⟨h1, f1, f2, h3, h4⟩, f3⟩
  · rintro ⟨⟨h1, f1, f2, h3, h4⟩, f3⟩
    unfold colErr
    rw [if_neg (by omega), if_neg (by rw [hf.2 ⟨f1, f2, f3⟩]; simp), if_neg (by omega)]
theorem errFrom_iffR : ∀ (cs : List Col) (ah : List (List UInt8)), errFrom ah cs = 0 ↔ (∀ c ∈ cs, okCR c) ∧ (names cs).Nodup ∧ ∀ c ∈ cs, c.1 ∉ ah
  | [], ah => by simp [errFrom, names]
  | c :: r, ah => by
    have ih := errFrom_iffR r (ah ++ [c.1])
    have hc := colErr_iffR ah c
    have e : errFrom ah (c :: r) = 0 ↔ colErr ah c = 0 ∧ errFrom (ah ++ [c.1]) r = 0 := by
      rw [errFrom]
      by_cases h : colErr ah c = 0
      · rw [if_neg (by simpa using h)]; simp [h]
      · rw [if_pos (by simpa using h)]; simp [h]
    rw [e, hc, ih]
    unfold names
    rw [List.map_cons, List.nodup_cons]
    constructor
    · rintro ⟨⟨h1, h2⟩, h3, h4, h5⟩
      refine ⟨?_, ⟨?_, h4⟩, ?_⟩
      · intro x hx
        rcases List.mem_cons.1 hx with rfl | hx
        · exact h1
        · exact h3 x hx
      · intro hm
        obtain ⟨x, hx, hxe⟩ := List.mem_map.1 hm
        exact h5 x hx (by rw [hxe]; simp)
      · intro x hx
        rcases List.mem_cons.1 hx with rfl | hx
        · exact h2
        · intro hm; exact h5 x hx (by simp [hm])
    · rintro ⟨h1, ⟨h2, h3⟩, h4⟩
      refine ⟨⟨h1 c (by simp), h4 c (by simp)⟩, fun x hx => h1 x (by simp [hx]), h3, fun x hx hm => ?_⟩
      rcases List.mem_append.1 hm with hm | hm
      · exact h4 x (by simp [hx]) hm
      · rw [List.mem_singleton] at hm
        exact h2 (List.mem_map.2 ⟨x, hx, hm⟩)
theorem errS_iffR (cs : List Col) : errS cs = 0 ↔ (0 < cs.length ∧ cs.length ≤ 8) ∧ (∀ c ∈ cs, okCR c) ∧ (names cs).Nodup := by
  constructor
  · intro h
    obtain ⟨h1, h2, h3, _⟩ := errS_zero h
    obtain ⟨a, b, _⟩ := (errFrom_iffR cs []).1 h3
    exact ⟨⟨h1, h2⟩, a, b⟩
  · rintro ⟨⟨h1, h2⟩, a, b⟩
    unfold errS
    rw [if_neg (by omega), if_neg (by omega)]
    exact (errFrom_iffR cs []).2 ⟨a, b, fun c _ => by simp⟩
theorem errS_sub {cs ds : List Col} (h : errS cs = 0) (hs : ds.Sublist cs) (hp : 0 < ds.length) : errS ds = 0 := by
  obtain ⟨h1, h2, h3⟩ := (errS_iffR cs).1 h
  refine (errS_iffR ds).2 ⟨⟨hp, by have := hs.length_le; omega⟩, fun c hc => h2 c (hs.subset hc), ?_⟩
  unfold names at h3 ⊢
  exact h3.sublist (hs.map _)
theorem colsL_take (cs : List ColB) (n : Nat) : colsL (cs.take n) = (colsL cs).take n := by unfold colsL; rw [List.map_take]
theorem colsL_drop (cs : List ColB) (n : Nat) : colsL (cs.drop n) = (colsL cs).drop n := by unfold colsL; rw [List.map_drop]
theorem zip_takeR {α β : Type} : ∀ (a : List α) (b : List β) (n : Nat), (a.take n).zip (b.take n) = (a.zip b).take n
  | _, _, 0 => by simp
  | [], b, n + 1 => by simp
  | a :: r, [], n + 1 => by simp
  | a :: r, b :: s, n + 1 => by simp [zip_takeR r s n]
theorem zip_dropR {α β : Type} : ∀ (a : List α) (b : List β) (n : Nat), (a.drop n).zip (b.drop n) = (a.zip b).drop n
  | _, _, 0 => by simp
  | [], b, n + 1 => by simp
  | a :: r, [], n + 1 => by simp
  | a :: r, b :: s, n + 1 => by simp [zip_dropR r s n]
theorem errRow_take {cs : List ColB} {r : List CellB} (h : errRow cs r = 0) {n : Nat} (h0 : 0 < n) (hn : n ≤ cs.length) : errRow (cs.take n) (r.take n) = 0 := by
  obtain ⟨hS, hl, hP⟩ := errRow_len h
  have e : errS (colsL (cs.take n)) = 0 := by
    rw [colsL_take]
    exact errS_sub hS (List.take_sublist _ _) (by rw [List.length_take, colsL_length]; omega)
  unfold errRow errC
  rw [if_pos e, if_pos (by rw [List.length_take, List.length_take, hl]), zip_takeR]
  exact errP_of fun x hx => errP_zero hP x (List.mem_of_mem_take hx)
theorem errRow_drop {cs : List ColB} {r : List CellB} (h : errRow cs r = 0) {n : Nat} (hn : n < cs.length) : errRow (cs.drop n) (r.drop n) = 0 := by
  obtain ⟨hS, hl, hP⟩ := errRow_len h
  have e : errS (colsL (cs.drop n)) = 0 := by
    rw [colsL_drop]
    exact errS_sub hS (List.drop_sublist _ _) (by rw [List.length_drop, colsL_length]; omega)
  unfold errRow errC
  rw [if_pos e, if_pos (by rw [List.length_drop, List.length_drop, hl]), zip_dropR]
  exact errP_of fun x hx => errP_zero hP x (List.mem_of_mem_drop hx)
theorem cmpL_takeC : ∀ (cs : List ColB) (l : List (CellB × CellB)) (n : Nat), l.length ≤ n → cmpL (cs.take n) l = cmpL cs l
  | [], l, n, _ => by simp
  | c :: cs, [], n, _ => by
    have e : ∀ ds : List ColB, cmpL ds [] = 0 := fun ds => by cases ds <;> (rw [cmpL]; intros; contradiction)
    rw [e, e]
  | c :: cs, p :: l, 0, h => by simp at h
  | c :: cs, p :: l, n + 1, h => by
    rw [List.take_succ_cons, cmpL, cmpL, cmpL_takeC cs l n (by simpa using h)]
/-- The order of two rows, part by part. -/
theorem cmpR_parts {cs : List ColB} {a b : List CellB} (ha : errRow cs a = 0) (hb : errRow cs b = 0) {n : Nat} (h0 : 0 < n) (hn : n < cs.length) :
    cmpR cs a b = if cmpR (cs.take n) (a.take n) (b.take n) ≠ 0 then cmpR (cs.take n) (a.take n) (b.take n) else cmpR (cs.drop n) (a.drop n) (b.drop n) := by
  have hla := (errRow_len ha).2.1
  have hlb := (errRow_len hb).2.1
  rw [cmpR_row ha hb, cmpR_row (errRow_take ha h0 (by omega)) (errRow_take hb h0 (by omega)), cmpR_row (errRow_drop ha hn) (errRow_drop hb hn), zip_takeR, zip_dropR]
  have hlen : ((a.zip b).take n).length = n := by rw [List.length_take, List.length_zip]; omega
  rw [cmpL_takeC cs ((a.zip b).take n) n (by omega)]
  have := cmpL_append cs ((a.zip b).take n) ((a.zip b).drop n) (by omega)
  rw [List.take_append_drop, hlen] at this
  exact this
end Go.Proofs.YtfpidkcdgebnpaaGreatDoor

