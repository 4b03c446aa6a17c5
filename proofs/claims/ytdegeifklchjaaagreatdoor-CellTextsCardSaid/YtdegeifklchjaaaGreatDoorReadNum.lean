/-
  Package cell: a number read off its text.
-/
import Derived.Test.YtdegeifklchjaaaGreatDoorParse
set_option linter.unusedVariables false
set_option linter.unusedSimpArgs false
set_option maxRecDepth 1000000
namespace Go.Proofs.YtdegeifklchjaaaGreatDoor
open Go.RowKit Go.Shelf

/-- What the library reads of a text, as a number of a kind. -/
def parN (kind : Int) (l : List UInt8) : Option Nat :=
  if kind = 0 then (okE (Lib.parseIntB 64 l)).map (fun v => (v % 18446744073709551616).toNat)
  else if kind = 2 then (Lib.parseBool l).map (fun b => if b then 1 else 0)
  else if kind = 5 then okE (parseH l) else okE (Lib.parseUintB 64 l)

structure Lib4 (w : World) : Prop where
  l3 : Lib3 w
  errs : Errs w
theorem Lib4.later {w w' : World} (h : Lib4 w) (hb : Below w.heap.size w w') : Lib4 w' := ⟨h.l3.later hb, h.errs.later hb⟩

set_option maxHeartbeats 4000000 in
theorem cell_parseNum (kind : Int) (hk : kind = 0 ∨ kind = 1 ∨ kind = 2 ∨ kind = 5) (s : ByteArray) (l : List UInt8) (w : World) (h : RdS s l) (hE : Errs w) :
    Calls Tryz.prog 41 #[.int .i64 kind, .string s] w fun e w' => (∃ (y : Nat) (ev : Value), e = .returned (.tuple #[.int .u64 (y : Int), ev]) ∧ y < 18446744073709551616 ∧ (kind = 2 → y ≤ 1) ∧ PE (parN kind l) y ev) ∧ Below w.heap.size w w' := by
  rcases hk with rfl | rfl | rfl | rfl
  · have e0 : parN 0 l = (okE (Lib.parseIntB 64 l)).map (fun v => (v % 18446744073709551616).toNat) := by unfold parN; rw [if_pos rfl]
    have HE := Lib.hid e0
    clear e0
    go_enter Tryz.func41, Tryz.ntmps41
    go_wp2_with fail
    refine (lib_ParseInt s l w h hE).mono ?_
    rintro e w1 ⟨⟨y, ev, rfl, hp⟩, hb⟩
    obtain ⟨n, hn⟩ : ∃ n : Nat, y % 18446744073709551616 = (n : Int) := ⟨(y % 18446744073709551616).toNat, by omega⟩
    have hw : IntKind.u64.wrap y = (n : Int) := by
      have : IntKind.u64.wrap y = y % 18446744073709551616 := by simp [IntKind.wrap, IntKind.signed, IntKind.bits]
      omega
    have HN := Lib.hid hn
    have HP := Lib.hid hp
    clear hn hp
    go_wp2
    go_ret2
    refine ⟨⟨n, ev, rfl, by have := HN.out; omega, fun h => absurd h (by decide), ?_⟩, hb⟩
    rw [HE.out]
    rcases HP.out with ⟨h1, h2⟩ | ⟨h1, h2⟩
    · exact .inl ⟨by rw [h1]; simp only [Option.map_some, HN.out, Int.toNat_natCast], h2⟩
    · exact .inr ⟨by rw [h1]; rfl, h2⟩
  · have e0 : parN 1 l = okE (Lib.parseUintB 64 l) := by unfold parN; rw [if_neg (by decide), if_neg (by decide), if_neg (by decide)]
    have HE := Lib.hid e0
    clear e0
    go_enter Tryz.func41, Tryz.ntmps41
    go_wp2_with fail
    refine (lib_ParseUint s l w h hE).mono ?_
    rintro e w1 ⟨⟨y, ev, rfl, hy, hp⟩, hb⟩
    have HP := Lib.hid hp
    have HY := Lib.hid hy
    clear hp hy
    go_wp2
    go_ret2
    exact ⟨⟨y, ev, rfl, HY.out, fun h => absurd h (by decide), by rw [HE.out]; exact HP.out⟩, hb⟩
  · have e0 : parN 2 l = (Lib.parseBool l).map (fun b => if b then 1 else 0) := by unfold parN; rw [if_neg (by decide), if_pos rfl]
    have HE := Lib.hid e0
    clear e0
    go_enter Tryz.func41, Tryz.ntmps41
    go_wp2_with fail
    refine (lib_ParseBool s l w h hE).mono ?_
    rintro e w1 ⟨⟨y, ev, rfl, hp⟩, hb⟩
    have HP := Lib.hid hp
    clear hp
    cases y with
    | true =>
      go_wp2
      go_ret2
      refine ⟨⟨1, ev, rfl, by omega, fun _ => by omega, ?_⟩, hb⟩
      rw [HE.out]
      rcases HP.out with ⟨h1, h2⟩ | ⟨h1, h2⟩
      · exact .inl ⟨by rw [h1]; rfl, h2⟩
      · exact .inr ⟨by rw [h1]; rfl, h2⟩
    | false =>
      go_wp2
      go_ret2
      refine ⟨⟨0, ev, rfl, by omega, fun _ => by omega, ?_⟩, hb⟩
      rw [HE.out]
      rcases HP.out with ⟨h1, h2⟩ | ⟨h1, h2⟩
      · exact .inl ⟨by rw [h1]; rfl, h2⟩
      · exact .inr ⟨by rw [h1]; rfl, h2⟩
  · have e0 : parN 5 l = okE (parseH l) := by unfold parN; rw [if_neg (by decide), if_neg (by decide), if_pos rfl]
    have HE := Lib.hid e0
    clear e0
    go_enter Tryz.func41, Tryz.ntmps41
    go_wp2_with fail
    refine (lib_ParseHex s l w h hE).mono ?_
    rintro e w1 ⟨⟨y, ev, rfl, hy, hp⟩, hb⟩
    have HP := Lib.hid hp
    have HY := Lib.hid hy
    clear hp hy
    go_wp2
    go_ret2
    exact ⟨⟨y, ev, rfl, HY.out, fun h => absurd h (by decide), by rw [HE.out]; exact HP.out⟩, hb⟩

theorem keepB {w w' : World} {b : Nat} {o : Obj} (h : w.heap[b]? = some o) (hb : Below w.heap.size w w') : w'.heap[b]? = some o := by
  have hlt : b < w.heap.size := by
    rcases Nat.lt_or_ge b w.heap.size with h' | h'
    · exact h'
    · rw [Array.getElem?_eq_none h'] at h; cases h
  exact (hb.block b hlt).trans h

theorem two_cells {w : World} {b : Nat} {x y : Value} {T : TypeId} (q : w.heap[b]? = some (.cells #[x, y] T (0, 0))) (u v : Value) :
    (w.setCell ⟨b, 0, none⟩ u).cell? ⟨b, 0, none⟩ = some u ∧ ((w.setCell ⟨b, 0, none⟩ u).setCell ⟨b, 1, none⟩ v).cell? ⟨b, 1, none⟩ = some v ∧ ((w.setCell ⟨b, 0, none⟩ u).setCell ⟨b, 1, none⟩ v).cell? ⟨b, 0, none⟩ = some u := by
  have h1 := block_setCell (k := 0) q u
  have h2 := block_setCell (k := 1) h1 v
  exact ⟨new_cellC (i := 0) h1 rfl, new_cellC (i := 1) h2 rfl, new_cellC (i := 0) h2 rfl⟩

/-- The number that a text of a kind is, if it is just that number's own. -/
def readN (kind : Int) (l : List UInt8) : Option Nat := (parN kind l).bind fun x => if numL kind x = l then some x else none
def numV (o : Option Nat) : Value := match o with
  | some x => .tuple #[.agg #[.int .u64 (x : Int), .string ⟨#[]⟩], .int .i64 0]
  | none => .tuple #[.agg #[.int .u64 0, .string ⟨#[]⟩], .int .i64 6]

set_option maxHeartbeats 4000000 in
theorem cell_readNum (kind : Int) (hk : kind = 0 ∨ kind = 1 ∨ kind = 2 ∨ kind = 5) (s : ByteArray) (l : List UInt8) (w : World) (h : RdS s l) (hL : Lib4 w) :
    Calls Tryz.prog 19 #[.int .i64 kind, .string s] w fun e w' => e = .returned (numV (readN kind l)) ∧ Below w.heap.size w w' := by
  have hb0 : Below w.heap.size w (w.alloc (.cells #[.int .u64 0, .string ⟨#[]⟩] 24)) := (Below.refl _ _).alloc (Nat.le_refl _) _
  have hR : readN kind l = (parN kind l).bind fun x => if numL kind x = l then some x else none := rfl
  have HR := Lib.hid hR
  have hL0 := hL.later hb0
  clear hR hL
  obtain ⟨N0, N1, N2⟩ := new1 w (.cells #[.int .u64 0, .string ⟨#[]⟩] 24)
  obtain ⟨w0, hw0⟩ : ∃ w0, w0 = w.alloc (.cells #[.int .u64 0, .string ⟨#[]⟩] 24) := ⟨_, rfl⟩
  rw [← hw0] at N0 N1 N2 hL0 hb0
  go_enter Tryz.func19, Tryz.ntmps19
  go_wp2_with fail
  rw [← hw0]
  clear hw0
  refine (cell_parseNum kind hk s l w0 h hL0.errs).mono ?_
  rintro e w1 ⟨⟨y, ev, rfl, hy, _, hp⟩, hb⟩
  have q := keepB N1 hb
  have HB := Lib.hid (N2.trans (hb.mono N2.size))
  have hL1 := hL0.later hb
  clear hb N0 N1 N2 hb0 hL0
  rcases hp with ⟨hp, rfl⟩ | ⟨hp, tp, p, rfl⟩
  · have HP := Lib.hid hp
    clear hp
    go_wp2_with fail
    refine (cell_numText kind hk y hy w1 hL1.l3).mono ?_
    rintro e w2 ⟨⟨t, rfl, ht⟩, hb⟩
    replace q := keepB q hb
    replace HB := Lib.hid (HB.out.trans (hb.mono HB.out.size))
    have c0 := new_cellC (i := 0) q rfl
    have c1 := new_cellC (i := 1) q rfl
    have f0 : w2.frozen? ⟨w.heap.size, 0, none⟩ = false := frozen_of_row _ _ _ _ _ q
    have f1 : w2.frozen? ⟨w.heap.size, 1, none⟩ = false := frozen_of_row _ _ _ _ _ q
    clear hb hL1
    by_cases he : numL kind y = l
    · have hne : (t.toList == s.toList) = true := by rw [ht.toList, h.toList, he]; simp
      have HE := Lib.hid he
      clear he ht
      go_wp2
      obtain ⟨k0, k1, k2⟩ := two_cells q (.int .u64 (y : Int)) (.string ⟨#[]⟩)
      refine bodyPost_ret (by simp [results, Tryz.results19, go_sem, k0, k1, k2]; try rfl) rfl ?_
      refine ⟨?_, (HB.out.setCell (Nat.le_refl _) _).setCell (Nat.le_refl _) _⟩
      rw [HR.out, HP.out]
      simp [numV, HE.out]
    · have hne : (t.toList == s.toList) = false := by rw [ht.toList, h.toList]; simp [he]
      have HE := Lib.hid he
      clear he ht
      go_wp2
      obtain ⟨k0, k1, k2⟩ := two_cells q (.int .u64 0) (.string ⟨#[]⟩)
      refine bodyPost_ret (by simp [results, Tryz.results19, go_sem, k0, k1, k2]; try rfl) rfl ?_
      refine ⟨?_, (HB.out.setCell (Nat.le_refl _) _).setCell (Nat.le_refl _) _⟩
      rw [HR.out, HP.out]
      simp [numV, HE.out]
  · have HP := Lib.hid hp
    have c0 := new_cellC (i := 0) q rfl
    have c1 := new_cellC (i := 1) q rfl
    have f0 : w1.frozen? ⟨w.heap.size, 0, none⟩ = false := frozen_of_row _ _ _ _ _ q
    have f1 : w1.frozen? ⟨w.heap.size, 1, none⟩ = false := frozen_of_row _ _ _ _ _ q
    clear hp hL1
    go_wp2
    obtain ⟨k0, k1, k2⟩ := two_cells q (.int .u64 0) (.string ⟨#[]⟩)
    refine bodyPost_ret (by simp [results, Tryz.results19, go_sem, k0, k1, k2]; try rfl) rfl ?_
    refine ⟨?_, (HB.out.setCell (Nat.le_refl _) _).setCell (Nat.le_refl _) _⟩
    rw [HR.out, HP.out]
    simp [numV]

end Go.Proofs.YtdegeifklchjaaaGreatDoor
