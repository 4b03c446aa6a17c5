/-
  Layer 6's law: its example, and whether cells are too many.
-/
import Derived.Test.YtfpidkcdgebnpaaGreatDoorGLaws
import Derived.Test.YtfpidkcdgebnpaaGreatDoorGRowIO
import Derived.Test.YtfpidkcdgebnpaaGreatDoorRowCmp
import Derived.Test.YtfpidkcdgebnpaaGreatDoorGZDefs
import Derived.Test.YtfpidkcdgebnpaaGreatDoorGBaseB
import Derived.Test.YtfpidkcdgebnpaaGreatDoorGZProgA
import Derived.Test.YtfpidkcdgebnpaaGreatDoorGZProgB
import Derived.Test.YtfpidkcdgebnpaaGreatDoorGZProgC
set_option linter.unusedVariables false
set_option linter.unusedSimpArgs false
set_option maxRecDepth 1000000
namespace Go.Proofs.YtfpidkcdgebnpaaGreatDoor
open Go.RowKit Go.Shelf

def exCB : List ColB := [(⟨#[105, 100]⟩, 0), (⟨#[110, 97, 109, 101]⟩, 4)]
def exA : List CellB := [(1, ⟨#[]⟩), (0, ⟨#[97]⟩)]
def exB : List CellB := [(1, ⟨#[]⟩), (0, ⟨#[98]⟩)]
def exD : List CellB := [(2, ⟨#[]⟩), (0, ⟨#[]⟩)]
theorem exCB_ok : CS exCB := by
  intro c hc
  unfold exCB at hc
  simp at hc
  rcases hc with rfl | rfl
  · exact ⟨by show (2 : Nat) ≤ _; omega, by show (-9223372036854775808 : Int) ≤ 0; omega, by show (0 : Int) ≤ _; omega⟩
  · exact ⟨by show (4 : Nat) ≤ _; omega, by show (-9223372036854775808 : Int) ≤ 4; omega, by show (4 : Int) ≤ _; omega⟩
theorem exCB_fine : errS (colsL exCB) = 0 := by decide +kernel
theorem ce_small {c : CellB} (h1 : c.1 ≤ 100) (h2 : c.2.size ≤ 100) : ceS c := ⟨by omega, by omega⟩
theorem exA_ok : CES exA := by
  intro c hc; unfold exA at hc; simp at hc
  rcases hc with rfl | rfl <;> exact ce_small (by decide) (by decide)
theorem exB_ok : CES exB := by
  intro c hc; unfold exB at hc; simp at hc
  rcases hc with rfl | rfl <;> exact ce_small (by decide) (by decide)
theorem exD_ok : CES exD := by
  intro c hc; unfold exD at hc; simp at hc
  rcases hc with rfl | rfl <;> exact ce_small (by decide) (by decide)
theorem k01 : checkC 0 1 [] = 0 := by decide +kernel
theorem k02 : checkC 0 2 [] = 0 := by decide +kernel
theorem k4a : checkC 4 0 [97] = 0 := by decide +kernel
theorem k4b : checkC 4 0 [98] = 0 := by decide +kernel
theorem k4n : checkC 4 0 [] = 0 := by decide +kernel
theorem errRow_two {a b : CellB} (h1 : checkC 0 a.1 a.2.data.toList = 0) (h2 : checkC 4 b.1 b.2.data.toList = 0) : errRow exCB [a, b] = 0 := by
  unfold errRow
  rw [if_pos exCB_fine]
  unfold errC
  rw [if_pos (by rfl)]
  exact errP_of (by
    intro x hx
    unfold exCB at hx
    simp at hx
    rcases hx with rfl | rfl
    · exact h1
    · exact h2)
theorem exA_row : errRow exCB exA = 0 := errRow_two k01 k4a
theorem exB_row : errRow exCB exB = 0 := errRow_two k01 k4b
theorem exD_row : errRow exCB exD = 0 := errRow_two k02 k4n
theorem w1 : wrap64 ((1 : Nat) : Int) = 1 := by show wrap64 (1 : Int) = 1; exact w64_in (by omega)
theorem w2 : wrap64 ((2 : Nat) : Int) = 2 := by show wrap64 (2 : Int) = 2; exact w64_in (by omega)
theorem t01 : textK 0 1 [] = [49] := by
  unfold textK numL sdec
  rw [if_neg (by decide), if_pos rfl, w1, if_neg (by decide), show (1 : Int).toNat = 1 from rfl, dec_lo (by decide)]; rfl
theorem t02 : textK 0 2 [] = [50] := by
  unfold textK numL sdec
  rw [if_neg (by decide), if_pos rfl, w2, if_neg (by decide), show (2 : Int).toNat = 2 from rfl, dec_lo (by decide)]; rfl
theorem t4 (l : List UInt8) : textK 4 0 l = hexC l := by unfold textK; rw [if_pos (.inr rfl)]
theorem text_two (a b : CellB) : textR exCB [a, b] = textK 0 a.1 a.2.data.toList ++ [44] ++ textK 4 b.1 b.2.data.toList := by
  unfold textR exCB
  simp [Lib.join_cons, Lib.joinTail, txP]
theorem exA_text : textR exCB exA = [49, 44, 54, 49] := by
  unfold exA; rw [text_two]
  rw [show textK 0 ((1, (⟨#[]⟩ : ByteArray)) : CellB).1 ((1, (⟨#[]⟩ : ByteArray)) : CellB).2.data.toList = [49] from t01, show textK 4 ((0, (⟨#[97]⟩ : ByteArray)) : CellB).1 ((0, (⟨#[97]⟩ : ByteArray)) : CellB).2.data.toList = [54, 49] from by rw [show textK 4 ((0, (⟨#[97]⟩ : ByteArray)) : CellB).1 ((0, (⟨#[97]⟩ : ByteArray)) : CellB).2.data.toList = hexC [97] from t4 [97]]; decide]; rfl
theorem exB_text : textR exCB exB = [49, 44, 54, 50] := by
  unfold exB; rw [text_two]
  rw [show textK 0 ((1, (⟨#[]⟩ : ByteArray)) : CellB).1 ((1, (⟨#[]⟩ : ByteArray)) : CellB).2.data.toList = [49] from t01, show textK 4 ((0, (⟨#[98]⟩ : ByteArray)) : CellB).1 ((0, (⟨#[98]⟩ : ByteArray)) : CellB).2.data.toList = [54, 50] from by rw [show textK 4 ((0, (⟨#[98]⟩ : ByteArray)) : CellB).1 ((0, (⟨#[98]⟩ : ByteArray)) : CellB).2.data.toList = hexC [98] from t4 [98]]; decide]; rfl
theorem exD_text : textR exCB exD = [50, 44, 45] := by
  unfold exD; rw [text_two]
  rw [show textK 0 ((2, (⟨#[]⟩ : ByteArray)) : CellB).1 ((2, (⟨#[]⟩ : ByteArray)) : CellB).2.data.toList = [50] from t02, show textK 4 ((0, (⟨#[]⟩ : ByteArray)) : CellB).1 ((0, (⟨#[]⟩ : ByteArray)) : CellB).2.data.toList = [45] from by rw [show textK 4 ((0, (⟨#[]⟩ : ByteArray)) : CellB).1 ((0, (⟨#[]⟩ : ByteArray)) : CellB).2.data.toList = hexC [] from t4 []]; decide]; rfl
theorem cmp_AB : cmpR exCB exA exB = -1 := by
  unfold cmpR
  rw [if_neg (by rw [exA_row, exB_row]; simp)]
  have e1 : cmpX 0 (1, ⟨#[]⟩) (1, ⟨#[]⟩) = 0 := (cmpC_0 k01 k01).trans ((ordZ_zero _ _).2 rfl)
  have e2 : cmpX 4 (0, ⟨#[97]⟩) (0, ⟨#[98]⟩) = -1 := (cmpC_4 k4a k4b).trans (by decide)
  show cmpL exCB [((1, ⟨#[]⟩), (1, ⟨#[]⟩)), ((0, ⟨#[97]⟩), (0, ⟨#[98]⟩))] = -1
  unfold exCB
  rw [cmpL, cmpL]
  dsimp only
  rw [e1, e2]
  simp
theorem cmp_DB : cmpR exCB exD exB = 1 := by
  unfold cmpR
  rw [if_neg (by rw [exD_row, exB_row]; simp)]
  have e1 : cmpX 0 (2, ⟨#[]⟩) (1, ⟨#[]⟩) = 1 := (cmpC_0 k02 k01).trans (by rw [w1, w2]; decide)
  show cmpL exCB [((2, ⟨#[]⟩), (1, ⟨#[]⟩)), ((0, ⟨#[]⟩), (0, ⟨#[98]⟩))] = 1
  unfold exCB
  rw [cmpL]
  dsimp only
  rw [e1]
  simp

/-- The law's three rows, read. -/
theorem ex_Read (rs : List CellB) (l : List UInt8) (hE : CES rs) (h : errRow exCB rs = 0) (hl : textR exCB rs = l) (v : Value) (t : ByteArray) (w : World) (hv : RdC w v exCB) (ht : RdS t l) (hs : l.length ≤ 100) (hL : Lib4 w) (hX : Mx w) :
    Calls Tryz.prog 86 #[v, .string t] w fun e w' => ∃ tv, e = .returned (.tuple #[tv, .int .i64 0]) ∧ Below w.heap.size w w' ∧ RdE w' tv rs := by
  obtain ⟨b1, b2⟩ := row_back hE h
  rw [hl] at b1 b2
  refine (row_Read v t exCB l w hv ht exCB_ok (by omega) hL hX).mono ?_
  rintro e w' ⟨tv, rfl, hb, hr⟩
  rw [b1]
  rw [b2] at hr
  exact ⟨tv, rfl, hb, hr⟩

end Go.Proofs.YtfpidkcdgebnpaaGreatDoor

/-
  Layer 8's law: its example's schema, and its pairs.
-/
namespace Go.Proofs.YtfpidkcdgebnpaaGreatDoor
open Go.RowKit Go.Shelf

theorem law08_example (w : World) : Calls Tryz.prog 30 #[] w fun e w' => ∃ v, e = .returned v ∧ RdC w' v exCB ∧ Below w.heap.size w w' := by
  go_enter Tryz.func30, Tryz.ntmps30
  go_wp2
  go_ret
  refine ⟨.slice (some ⟨w.heap.size, 0, none⟩) 2 2, rfl, ?_, (Below.refl _ _).alloc (Nat.le_refl _) _⟩
  have hb := heap_alloc_new w (.cells #[.string ⟨#[105, 100]⟩, .int .i64 0, .string ⟨#[110, 97, 109, 101]⟩, .int .i64 4] 110)
  refine ⟨⟨_, _, rfl, by decide, (by intro h; cases h), fun _ => ⟨_, _, rfl⟩⟩, ?_, ?_, by decide⟩
  · intro i hi j u hu
    have hi2 : i < 2 := hi
    have hj : j < 2 := by
      have h9 := (List.getElem?_eq_some_iff.1 hu).1
      rw [getD_map colV exCB i hi2 default] at h9
      simpa [colV] using h9
    rw [adr_lit, cell_of_row _ _ _ _ _ _ hb]
    obtain rfl | rfl : i = 0 ∨ i = 1 := by omega
    all_goals
      obtain rfl | rfl : j = 0 ∨ j = 1 := by omega
      all_goals exact hu
  · intro x hx
    obtain ⟨c, _, rfl⟩ := List.mem_map.1 hx
    rfl

/-- A row of the example's: a number, a text. -/
def exRow (n : Nat) (s : ByteArray) : List CellB := [(n, ⟨#[]⟩), (0, s)]

theorem rdE_two (w : World) (a b : CellB) : RdE (w.alloc (.cells #[.int .u64 (a.1 : Int), .string a.2, .int .u64 (b.1 : Int), .string b.2] 71)) (.slice (some ⟨w.heap.size, 0, none⟩) 2 2) [a, b] := by
  have hb := heap_alloc_new w (.cells #[.int .u64 (a.1 : Int), .string a.2, .int .u64 (b.1 : Int), .string b.2] 71)
  refine ⟨⟨_, _, rfl, by simp, (by intro h; cases h), fun _ => ⟨_, _, rfl⟩⟩, ?_, ?_, by simp⟩
  · intro i hi j u hu
    have hi2 : i < 2 := hi
    have hj : j < 2 := by
      have h9 := (List.getElem?_eq_some_iff.1 hu).1
      rw [getD_map cellVs [a, b] i hi2 default] at h9
      simpa [cellVs] using h9
    rw [adr_lit, cell_of_row _ _ _ _ _ _ hb]
    obtain rfl | rfl : i = 0 ∨ i = 1 := by omega
    all_goals
      obtain rfl | rfl : j = 0 ∨ j = 1 := by omega
      all_goals exact hu
  · intro x hx
    obtain ⟨c, _, rfl⟩ := List.mem_map.1 hx
    rfl

theorem law08_pair (x : Int) (n : Nat) (hn : x % 18446744073709551616 = (n : Int)) (s : ByteArray) (y : Int) (w : World) :
    Calls Tryz.prog 31 #[.int .i64 x, .string s, .int .i64 y] w fun e w' => ∃ g, e = .returned (.agg #[.slice (some ⟨g, 0, none⟩) 2 2, .int .i64 y]) ∧ RdE w' (.slice (some ⟨g, 0, none⟩) 2 2) (exRow n s) ∧ w.heap.size ≤ g ∧ Below w.heap.size w w' := by
  have hbx := (Below.refl w.heap.size w).alloc (Nat.le_refl _) (.cells #[.slice none 0 0, .int .i64 0] 51)
  have CI := Lib.hid (fun wz => cell_Int x n hn wz)
  have hg := heap_alloc_new w (.cells #[.slice none 0 0, .int .i64 0] 51)
  have HBX := Lib.hid hbx
  have HG := Lib.hid hg
  clear hbx hg hn
  go_enter Tryz.func31, Tryz.ntmps31
  go_wp2_with fail
  refine (CI.out _).mono ?_
  rintro e w2 ⟨rfl, hb⟩
  have HB2 := Lib.hid (HBX.out.trans (hb.mono HBX.out.size))
  have hg2 : w2.heap[w.heap.size]? = _ := (hb.block _ (by simp)).trans HG.out
  have hsz2 : w.heap.size < w2.heap.size := (Array.getElem?_eq_some_iff.1 hg2).1
  have hg3 : (w2.alloc (.cells #[.int .u64 (n : Int), .string ⟨#[]⟩, .int .u64 0, .string s] 71)).heap[w.heap.size]? = _ := (Below.heap_alloc _ _ _ hsz2).trans hg2
  have c0 := cell_of_row _ _ 0 _ _ _ hg2
  have c1 := cell_of_row _ _ 1 _ _ _ hg2
  have f0 := frozen_of_row _ _ 0 _ _ hg2
  have f1 := frozen_of_row _ _ 1 _ _ hg2
  simp only [List.getElem?_toArray, List.getElem?_cons_zero, List.getElem?_cons_succ] at c0 c1
  have hne : w2.heap.size ≠ w.heap.size := by omega
  have RE := Lib.hid (rdE_two w2 (n, ⟨#[]⟩) (0, s))
  have HG2 := Lib.hid hg2
  clear hb HG hg2
  unfold cellV
  go_wp2
  have hsz : ((w2.setCell ⟨w.heap.size, 0, none⟩ (.slice (some ⟨w2.heap.size, 0, none⟩) 2 2)).setCell ⟨w.heap.size, 1, none⟩ (.int .i64 y)).heap.size = w2.heap.size := by simp [World.setCell]
  have RE2 := rdE_two ((w2.setCell ⟨w.heap.size, 0, none⟩ (.slice (some ⟨w2.heap.size, 0, none⟩) 2 2)).setCell ⟨w.heap.size, 1, none⟩ (.int .i64 y)) (n, ⟨#[]⟩) (0, s)
  rw [hsz] at RE2
  have hgF := (Below.heap_alloc ((w2.setCell ⟨w.heap.size, 0, none⟩ (.slice (some ⟨w2.heap.size, 0, none⟩) 2 2)).setCell ⟨w.heap.size, 1, none⟩ (.int .i64 y)) (.cells #[.int .u64 (n : Int), .string ⟨#[]⟩, .int .u64 0, .string s] 71) w.heap.size (by rw [hsz]; omega)).trans (block_setCell (g := w.heap.size) (k := 1) (block_setCell (g := w.heap.size) (k := 0) HG2.out (.slice (some ⟨w2.heap.size, 0, none⟩) 2 2)) (.int .i64 y))
  have k0 := cell_of_row _ _ 0 _ _ _ hgF
  have k1 := cell_of_row _ _ 1 _ _ _ hgF
  simp at k0 k1
  refine bodyPost_ret (by simp [results, Tryz.results31, go_sem, k0, k1]; try rfl) rfl ?_
  exact ⟨_, rfl, RE2, Nat.le_of_lt hsz2, ((HB2.out.setCell (p := ⟨w.heap.size, 0, none⟩) (Nat.le_refl _) _).setCell (p := ⟨w.heap.size, 1, none⟩) (Nat.le_refl _) _).alloc (by rw [hsz]; omega) _⟩

/-- Two pairs, as the slice that is built of them. -/
theorem rdG_two (w : World) (p q : TriB) (h1 : RdE w p.1 p.2.1) (h2 : RdE w q.1 q.2.1) : RdG pairE (w.alloc (.cells #[p.1, .int .i64 p.2.2, q.1, .int .i64 q.2.2] 51)) (.slice (some ⟨w.heap.size, 0, none⟩) 2 2) ([p, q].map triV) := by
  have hb := heap_alloc_new w (.cells #[p.1, .int .i64 p.2.2, q.1, .int .i64 q.2.2] 51)
  refine ⟨⟨_, _, rfl, by simp, (by intro h; cases h), fun _ => ⟨_, _, rfl⟩⟩, ?_, ?_, by simp⟩
  · intro i hi j u hu
    have hi2 : i < 2 := hi
    have hj : j < 2 := by
      have h9 := (List.getElem?_eq_some_iff.1 hu).1
      rw [getD_map triV [p, q] i hi2 default] at h9
      simpa [triV] using h9
    rw [adr_lit, cell_of_row _ _ _ _ _ _ hb]
    obtain rfl | rfl : i = 0 ∨ i = 1 := by omega
    all_goals
      obtain rfl | rfl : j = 0 ∨ j = 1 := by omega
      all_goals exact hu
  · intro x hx
    obtain ⟨c, _, rfl⟩ := List.mem_map.1 hx
    rfl
theorem rdP_two (w : World) (p q : TriB) (h1 : RdE w p.1 p.2.1) (h2 : RdE w q.1 q.2.1) : RdP (w.alloc (.cells #[p.1, .int .i64 p.2.2, q.1, .int .i64 q.2.2] 51)) (.slice (some ⟨w.heap.size, 0, none⟩) 2 2) [p.2, q.2] := by
  have hbe := (Below.refl w.heap.size w).alloc (Nat.le_refl _) (.cells #[p.1, .int .i64 p.2.2, q.1, .int .i64 q.2.2] 51)
  refine ⟨[p, q], rfl, rdG_two w p q h1 h2, ?_⟩
  intro t ht
  simp at ht
  rcases ht with rfl | rfl
  · exact h1.later hbe (Nat.le_refl _)
  · exact h2.later hbe (Nat.le_refl _)

def row7 : List CellB := exRow 7 ⟨#[116, 111, 112]⟩
theorem row7_ok : CES row7 := by
  intro c hc
  simp [row7, exRow] at hc
  rcases hc with rfl | rfl
  · exact ⟨by decide, by decide⟩
  · exact ⟨by decide, by decide⟩
theorem row7_row : errRow exCB row7 = 0 := errRow_two (a := (7, ⟨#[]⟩)) (b := (0, ⟨#[116, 111, 112]⟩)) (by decide +kernel) (by decide +kernel)

end Go.Proofs.YtfpidkcdgebnpaaGreatDoor


/-
  Layer 8's law: the document's example.
-/
namespace Go.Proofs.YtfpidkcdgebnpaaGreatDoor
open Go.RowKit Go.Shelf

def exE : List CellB := [(2, ⟨#[]⟩), (0, ⟨#[98]⟩)]
theorem exE_ok : CES exE := by
  intro c hc; unfold exE at hc; simp at hc
  rcases hc with rfl | rfl <;> exact ce_small (by decide) (by decide)
theorem exE_row : errRow exCB exE = 0 := errRow_two k02 k4b
theorem exE_text : textR exCB exE = [50, 44, 54, 50] := by
  unfold exE; rw [text_two]
  rw [show textK 0 ((2, (⟨#[]⟩ : ByteArray)) : CellB).1 ((2, (⟨#[]⟩ : ByteArray)) : CellB).2.data.toList = [50] from t02, show textK 4 ((0, (⟨#[98]⟩ : ByteArray)) : CellB).1 ((0, (⟨#[98]⟩ : ByteArray)) : CellB).2.data.toList = [54, 50] from by rw [show textK 4 ((0, (⟨#[98]⟩ : ByteArray)) : CellB).1 ((0, (⟨#[98]⟩ : ByteArray)) : CellB).2.data.toList = hexC [98] from t4 [98]]; decide]; rfl
theorem cmp_AE : cmpR exCB exA exE = -1 := by
  unfold cmpR
  rw [if_neg (by rw [exA_row, exE_row]; simp)]
  have e1 : cmpX 0 (1, ⟨#[]⟩) (2, ⟨#[]⟩) = -1 := (cmpC_0 k01 k02).trans (by rw [w1, w2]; decide)
  show cmpL exCB [((1, ⟨#[]⟩), (2, ⟨#[]⟩)), ((0, ⟨#[97]⟩), (0, ⟨#[98]⟩))] = -1
  unfold exCB
  rw [cmpL]
  dsimp only
  rw [e1]
  simp
theorem exAE : exA ≠ exE := by decide
def exP3 : List PairB := [(exA, 2), (exE, 1), (exA, -1)]
def exS : List PairB := [(exA, 1), (exE, 1)]
theorem exP3_ok : PSO exP3 := by
  intro p hp; simp [exP3] at hp
  rcases hp with rfl | rfl | rfl
  · exact ⟨exA_ok, by decide, by decide⟩
  · exact ⟨exE_ok, by decide, by decide⟩
  · exact ⟨exA_ok, by decide, by decide⟩
theorem exS_ok : PSO exS := by
  intro p hp; simp [exS] at hp
  rcases hp with rfl | rfl
  · exact ⟨exA_ok, by decide, by decide⟩
  · exact ⟨exE_ok, by decide, by decide⟩
theorem exS_zs : Zs exCB exS := by
  refine Zs.of exS_ok exCB_fine (by decide) ⟨?_, ?_, ?_⟩
  · unfold exS Z.srt
    simp [cmp_AE]
  · intro p hp; simp [exS] at hp
    rcases hp with rfl | rfl
    · exact ⟨exA_row, exA_ok⟩
    · exact ⟨exE_row, exE_ok⟩
  · intro p hp; simp [exS] at hp
    rcases hp with rfl | rfl <;> decide
theorem exP3_clc : clcE exCB exP3 = 0 ∧ clcO exCB exP3 = exS := by
  refine clc_as exP3_ok ?_ exS_zs ?_
  · intro p hp; simp [exP3] at hp
    rcases hp with rfl | rfl | rfl
    · exact ⟨exA_row, exA_ok⟩
    · exact ⟨exE_row, exE_ok⟩
    · exact ⟨exA_row, exA_ok⟩
  · intro r
    unfold exP3 exS
    simp only [Z.sumW]
    by_cases h1 : exA = r
    · have h2 : exE ≠ r := fun h => exAE (h1.trans h.symm)
      rw [if_pos h1, if_neg h2, if_pos h1, if_pos h1]; rfl
    · rw [if_neg h1, if_neg h1, if_neg h1]; omega
theorem sdec_one : sdec 1 = [49] := by
  unfold sdec
  rw [if_neg (by decide), show (1 : Int).toNat = 1 from rfl, dec_lo (by decide)]; rfl
def exL : List UInt8 := [49, 32, 49, 44, 54, 49, 59, 32, 49, 32, 50, 44, 54, 50]
theorem exS_text : textZ exCB exS = exL := by
  unfold textZ
  rw [if_neg (by simp [exS])]
  have e1 : pairT exCB (exA, 1) = [49, 32, 49, 44, 54, 49] := by
    show sdec 1 ++ [32] ++ textR exCB exA = _
    rw [sdec_one, exA_text]; rfl
  have e2 : pairT exCB (exE, 1) = [49, 32, 50, 44, 54, 50] := by
    show sdec 1 ++ [32] ++ textR exCB exE = _
    rw [sdec_one, exE_text]; rfl
  show Lib.join [pairT exCB (exA, 1), pairT exCB (exE, 1)] sep2 = exL
  rw [e1, e2]; rfl
theorem uns_one : unsC [49] = some 1 := by
  have := unsC_sdec 1 (by decide) (by decide)
  rwa [sdec_one] at this
theorem ex_part {r : List CellB} {t p : List UInt8} (hE : CES r) (h : errRow exCB r = 0) (ht : textR exCB r = t) (hp : Lib.cut p [32] = ([49], t, true)) : prE exCB p = 0 ∧ prP exCB p = (r, 1) := by
  obtain ⟨b1, b2⟩ := row_back hE h
  rw [ht] at b1 b2
  unfold prE prP
  rw [hp]
  dsimp only
  rw [uns_one, b1, b2]
  exact ⟨rfl, rfl⟩
theorem exL_read : rdZe exCB exL = 0 ∧ rdZo exCB exL = exS := by
  obtain ⟨a1, a2⟩ := ex_part exA_ok exA_row exA_text (p := [49, 32, 49, 44, 54, 49]) (by decide +kernel)
  obtain ⟨b1, b2⟩ := ex_part exE_ok exE_row exE_text (p := [49, 32, 50, 44, 54, 50]) (by decide +kernel)
  have hc : cut2 exL = [[49, 32, 49, 44, 54, 49], [49, 32, 50, 44, 54, 50]] := by decide +kernel
  have hm : (cut2 exL).map (prP exCB) = exS := by rw [hc, List.map_cons, List.map_cons, List.map_nil, a2, b2]; rfl
  have hp : prsE exCB (cut2 exL) = 0 := by
    rw [hc]
    show (if prE exCB _ ≠ 0 then prE exCB _ else if prE exCB _ ≠ 0 then prE exCB _ else 0) = 0
    rw [if_neg (by rw [a1]; simp), if_neg (by rw [b1]; simp)]
  have he : rdZe exCB exL = 0 := by
    unfold rdZe
    rw [if_neg (by rw [exCB_fine]; simp), if_neg (by decide), if_neg (by rw [hp]; simp), hm]
    exact exS_zs.2
  exact ⟨he, by unfold rdZo; rw [if_pos ⟨by decide, he⟩, hm]⟩

theorem rdP_three (w : World) (p q s : TriB) (h1 : RdE w p.1 p.2.1) (h2 : RdE w q.1 q.2.1) (h3 : RdE w s.1 s.2.1) :
    RdP (w.alloc (.cells #[p.1, .int .i64 p.2.2, q.1, .int .i64 q.2.2, s.1, .int .i64 s.2.2] 51)) (.slice (some ⟨w.heap.size, 0, none⟩) 3 3) [p.2, q.2, s.2] := by
  have hbe := (Below.refl w.heap.size w).alloc (Nat.le_refl _) (.cells #[p.1, .int .i64 p.2.2, q.1, .int .i64 q.2.2, s.1, .int .i64 s.2.2] 51)
  have ho := ownG_built pairE w w.heap.size (Nat.le_refl _) ([p, q, s].map triV) (by intro x hx; obtain ⟨t, _, rfl⟩ := List.mem_map.1 hx; rfl) (by
    intro x hx u hu
    obtain ⟨t, ht, rfl⟩ := List.mem_map.1 hx
    simp at ht
    rcases ht with rfl | rfl | rfl
    · exact triV_one h1 u hu
    · exact triV_one h2 u hu
    · exact triV_one h3 u hu) (by simp)
  refine ⟨[p, q, s], rfl, OwnG.rd ho (by simp), ?_⟩
  intro t ht
  simp at ht
  rcases ht with rfl | rfl | rfl
  · exact h1.later hbe (Nat.le_refl _)
  · exact h2.later hbe (Nat.le_refl _)
  · exact h3.later hbe (Nat.le_refl _)

set_option maxHeartbeats 8000000 in
theorem law08_alive (w : World) (hL : Lib4 w) (hX : Mx w) :
    Calls Tryz.prog 11 #[] w fun e w' => e = .returned (.bool true) ∧ Below w.heap.size w w' := by
  have HL := Lib.hid hL
  have HX := Lib.hid hX
  clear hL hX
  go_enter Tryz.func11, Tryz.ntmps11
  go_wp2_with fail
  refine (law08_example _).mono ?_
  rintro e w1 ⟨x1, rfl, hv, hb⟩
  have HB1 := Lib.hid hb
  have HV1 := Lib.hid hv
  clear hb hv
  go_wp2_with fail
  refine (law08_pair 1 1 (by decide) ⟨#[97]⟩ 2 _).mono ?_
  rintro e w2 ⟨g2, rfl, hr, _, hb⟩
  have HB2 := Lib.hid (HB1.out.trans (hb.mono HB1.out.size))
  have HV2 := Lib.hid (HV1.out.later hb (Nat.le_refl _))
  have HR2 := Lib.hid hr
  clear hb hr HV1 HB1
  go_wp2_with fail
  refine (law08_pair 2 2 (by decide) ⟨#[98]⟩ 1 _).mono ?_
  rintro e w3 ⟨g3, rfl, hr, _, hb⟩
  have HB3 := Lib.hid (HB2.out.trans (hb.mono HB2.out.size))
  have HV3 := Lib.hid (HV2.out.later hb (Nat.le_refl _))
  have HR3 := Lib.hid (HR2.out.later hb (Nat.le_refl _))
  have HS3 := Lib.hid hr
  clear hb hr HV2 HB2 HR2
  go_wp2_with fail
  refine (law08_pair 1 1 (by decide) ⟨#[97]⟩ (-1) _).mono ?_
  rintro e w4 ⟨g4, rfl, hr, _, hb⟩
  have HB4 := Lib.hid (HB3.out.trans (hb.mono HB3.out.size))
  have HP := Lib.hid (rdP_three w4 (.slice (some ⟨g2, 0, none⟩) 2 2, (exA, 2)) (.slice (some ⟨g3, 0, none⟩) 2 2, (exE, 1)) (.slice (some ⟨g4, 0, none⟩) 2 2, (exA, -1)) (HR3.out.later hb (Nat.le_refl _)) (HS3.out.later hb (Nat.le_refl _)) hr)
  have N := Lib.hid (new1 w4 (.cells #[.slice (some ⟨g2, 0, none⟩) 2 2, .int .i64 2, .slice (some ⟨g3, 0, none⟩) 2 2, .int .i64 1, .slice (some ⟨g4, 0, none⟩) 2 2, .int .i64 (-1)] 51))
  have HB5 := Lib.hid (HB4.out.trans (N.out.2.2.mono HB4.out.size))
  have CL := Lib.hid (zset_Collect x1 _ exCB exP3 _ ((HV3.out.later hb (Nat.le_refl _)).later N.out.2.2 (Nat.le_refl _)) HP.out exCB_ok exP3_ok (HL.out.l3.tabs.later HB5.out) (by decide))
  rw [exP3_clc.1, exP3_clc.2] at CL
  clear hb hr HV3 HB3 HR3 HS3 HP N HB4
  go_wp2_with fail
  refine CL.out.mono ?_
  rintro e w6 ⟨v6, rfl, hr, hb⟩
  have HB6 := Lib.hid (HB5.out.trans (hb.mono HB5.out.size))
  have HR6 := Lib.hid hr
  clear hb hr CL HB5
  go_wp2_with fail
  refine (law08_example _).mono ?_
  rintro e w7 ⟨x7, rfl, hv, hb⟩
  have HB7 := Lib.hid (HB6.out.trans (hb.mono HB6.out.size))
  have HR7 := Lib.hid (HR6.out.later hb (Nat.le_refl _))
  have TX := Lib.hid (zset_Text x7 v6 exCB exS w7 hv HR7.out exCB_ok exS_ok (HL.out.l3.later HB7.out))
  clear hb hv HB6 HR6
  go_wp2_with fail
  refine TX.out.mono ?_
  rintro e w8 ⟨t8, rfl, hb, ht⟩
  rw [exS_zs.2]
  have ht8 : t8 = ⟨#[49, 32, 49, 44, 54, 49, 59, 32, 49, 32, 50, 44, 54, 50]⟩ := by
    rcases ht with ⟨h9, _⟩ | ⟨_, h9⟩
    · exact absurd exS_zs.2 h9
    · rw [exS_text] at h9; rw [h9.eq]; rfl
  subst ht8
  have HB8 := Lib.hid (HB7.out.trans (hb.mono HB7.out.size))
  have HR8 := Lib.hid (HR7.out.later hb (Nat.le_refl _))
  clear hb ht TX HB7 HR7
  go_wp2_with fail
  refine (law08_example _).mono ?_
  rintro e w9 ⟨x9, rfl, hv, hb⟩
  have HB9 := Lib.hid (HB8.out.trans (hb.mono HB8.out.size))
  have HR9 := Lib.hid (HR8.out.later hb (Nat.le_refl _))
  have RD := Lib.hid (zset_Read x9 ⟨#[49, 32, 49, 44, 54, 49, 59, 32, 49, 32, 50, 44, 54, 50]⟩ exCB exL w9 hv ⟨rfl, by decide⟩ exCB_ok (by decide) (HL.out.later HB9.out) (HX.out.later HB9.out))
  clear hb hv HB8 HR8
  go_wp2_with fail
  refine RD.out.mono ?_
  rintro e w10 ⟨v10, rfl, hr, hb⟩
  rw [exL_read.1]
  rw [exL_read.2] at hr
  have HB10 := Lib.hid (HB9.out.trans (hb.mono HB9.out.size))
  have SM := Lib.hid (zset_Same v6 v10 exS exS w10 (HR9.out.later hb (Nat.le_refl _)) hr)
  rw [decide_eq_true rfl] at SM
  rw [show ((0 : Nat) : Int) = 0 from rfl]
  clear hb hr RD HB9 HR9
  go_wp2_with fail
  refine SM.out.mono ?_
  rintro e w11 ⟨rfl, hb⟩
  have HB11 := Lib.hid (HB10.out.trans (hb.mono HB10.out.size))
  clear hb
  go_wp2
  go_ret
  exact ⟨rfl, HB11.out⟩

end Go.Proofs.YtfpidkcdgebnpaaGreatDoor


/-
  The contracts of package zset's functions, together.
-/


/-
  What layer 8's laws' walks share.
-/
namespace Go.Proofs.YtfpidkcdgebnpaaGreatDoor
open Go.RowKit Go.Shelf

theorem RdP.lit {w : World} {v : Value} {ps : List PairB} (h : RdP w v ps) : ∃ ao n cap, v = .slice ao n cap := by
  obtain ⟨ts, _, h, _⟩ := h
  obtain ⟨ao, cap, e, _⟩ := h.shape
  exact ⟨_, _, _, e⟩

/-- Contracts over a schema that was there at the beginning. -/
structure LawK (v1 : Value) (cs : List ColB) (w : World) : Prop where
  alive : ∀ wz, Below w.heap.size w wz → Calls Tryz.prog 11 #[] wz fun e w' => e = .returned (.bool true) ∧ Below wz.heap.size wz w'
  check : ∀ wz v ps, Below w.heap.size w wz → RdP wz v ps → PSO ps → Calls Tryz.prog 16 #[v1, v] wz fun e w' => e = .returned (.int .i64 (chkZ cs ps : Nat)) ∧ Below wz.heap.size wz w'
  collect : ∀ wz v ps, Below w.heap.size w wz → RdP wz v ps → PSO ps → ps.length * 32 ≤ 140737488351360 → Calls Tryz.prog 13 #[v1, v] wz fun e w' => ∃ v, e = .returned (.tuple #[v, .int .i64 (clcE cs ps : Nat)]) ∧ RdP w' v (clcO cs ps) ∧ Below wz.heap.size wz w'
  sum : ∀ wz va vb a b, Below w.heap.size w wz → RdP wz va a → RdP wz vb b → PSO a → PSO b → Calls Tryz.prog 18 #[v1, va, vb] wz fun e w' => ∃ v, e = .returned (.tuple #[v, .int .i64 (sumE cs a b : Nat)]) ∧ RdP w' v (sumO cs a b) ∧ Below wz.heap.size wz w'
  neg : ∀ wz v ps, Below w.heap.size w wz → RdP wz v ps → PSO ps → Calls Tryz.prog 20 #[v1, v] wz fun e w' => ∃ v, e = .returned (.tuple #[v, .int .i64 (negE cs ps : Nat)]) ∧ RdP w' v (negO cs ps) ∧ Below wz.heap.size wz w'
  weight : ∀ wz v vr ps r, Below w.heap.size w wz → RdP wz v ps → RdE wz vr r → PSO ps → CES r → Calls Tryz.prog 22 #[v1, v, vr] wz fun e w' => e = .returned (.int .i64 (wgt cs ps r)) ∧ Below wz.heap.size wz w'

theorem lawK (v1 : Value) (cs : List ColB) (w : World) (hR : RdC w v1 cs) (hC : CS cs) (hT : Tabs w) (hL : Lib4 w) (hX : Mx w) : LawK v1 cs w := {
  alive := fun wz hz => law08_alive wz (hL.later hz) (hX.later hz)
  check := fun wz v ps hz h hp => zset_Check v1 v cs ps wz (hR.later hz (Nat.le_refl _)) h hC hp (hT.later hz)
  collect := fun wz v ps hz h hp hl => zset_Collect v1 v cs ps wz (hR.later hz (Nat.le_refl _)) h hC hp (hT.later hz) hl
  sum := fun wz va vb a b hz ha hb pa pb => zset_Sum v1 va vb cs a b wz (hR.later hz (Nat.le_refl _)) ha hb hC pa pb (hT.later hz)
  neg := fun wz v ps hz h hp => zset_Neg v1 v cs ps wz (hR.later hz (Nat.le_refl _)) h hC hp (hT.later hz)
  weight := fun wz v vr ps r hz h hr hp hc => zset_Weight v1 v vr cs ps r wz (hR.later hz (Nat.le_refl _)) h hr hC hp hc (hT.later hz) }

/-- What Great answers: 0, or 1. -/
def Bit (w : World) (e : Ending) (w' : World) : Prop := ∃ x : Int, e = .returned (.int .i64 x) ∧ (x = 0 ∨ x = 1) ∧ Below w.heap.size w w'
theorem great_some8 (vals : List Value) (pss : List (List PairB)) (w : World) (hn : vals.length ≤ 3) (hl : pss.length = vals.length) (hr : ∀ i, i < vals.length → RdP w (vals.getD i undef) (pss.getD i [])) :
    Calls Tryz.prog 12 #[.slice (some ⟨w.heap.size, 0, none⟩) vals.length vals.length] (w.alloc (.cells vals.toArray 23)) (Bit w) := by
  obtain ⟨N0, N1, N2⟩ := new1 w (.cells vals.toArray 23)
  refine (law08_great _ vals pss _ (rdPs_block (vals := vals) N1 (by omega)) hn hl ?_).mono ?_
  · intro i hi wz hz
    exact (hr i hi).later (N2.trans (hz.mono N2.size)) (Nat.le_refl _)
  · rintro e w' ⟨x, rfl, hx, _, hb⟩
    exact ⟨x, rfl, hx, N2.trans (hb.mono N2.size)⟩
theorem great_one8 (v2 : Value) (a : List PairB) (w : World) (h2 : RdP w v2 a) :
    Calls Tryz.prog 12 #[.slice (some ⟨w.heap.size, 0, none⟩) 1 1] (w.alloc (.cells #[v2] 23)) (Bit w) :=
  great_some8 [v2] [a] w (by simp) rfl (fun i hi => by
    have hi : i < 1 := hi
    obtain rfl : i = 0 := by omega
    exact h2)
theorem great_two8 (v2 v3 : Value) (a b : List PairB) (w : World) (h2 : RdP w v2 a) (h3 : RdP w v3 b) :
    Calls Tryz.prog 12 #[.slice (some ⟨w.heap.size, 0, none⟩) 2 2] (w.alloc (.cells #[v2, v3] 23)) (Bit w) :=
  great_some8 [v2, v3] [a, b] w (by simp) rfl (fun i hi => by
    have hi : i < 2 := hi
    obtain rfl | rfl : i = 0 ∨ i = 1 := by omega
    · exact h2
    · exact h3)
theorem great_three8 (v2 v3 v4 : Value) (a b c : List PairB) (w : World) (h2 : RdP w v2 a) (h3 : RdP w v3 b) (h4 : RdP w v4 c) :
    Calls Tryz.prog 12 #[.slice (some ⟨w.heap.size, 0, none⟩) 3 3] (w.alloc (.cells #[v2, v3, v4] 23)) (Bit w) :=
  great_some8 [v2, v3, v4] [a, b, c] w (by simp) rfl (fun i hi => by
    have hi : i < 3 := hi
    obtain rfl | rfl | rfl : i = 0 ∨ i = 1 ∨ i = 2 := by omega
    · exact h2
    · exact h3
    · exact h4)

end Go.Proofs.YtfpidkcdgebnpaaGreatDoor

