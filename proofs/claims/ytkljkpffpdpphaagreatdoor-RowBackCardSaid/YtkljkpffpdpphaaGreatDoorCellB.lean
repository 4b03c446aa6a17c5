/-
  Package cell: Check and Compare, with what they call of the library (utf8.ValidString, strings.Compare).
-/
import Derived.Test.YtkljkpffpdpphaaGreatDoorShelf1
import Derived.Test.YtkljkpffpdpphaaGreatDoorGCmp
import Derived.Test.YtkljkpffpdpphaaGreatDoorUtf8Eq
import Derived.Lib.Bytealg
set_option linter.unusedVariables false
set_option linter.unusedSimpArgs false
set_option maxRecDepth 1000000
namespace Go.Proofs.YtkljkpffpdpphaaGreatDoor
open Go.RowKit Go.Shelf

/-- The library's tables of UTF-8 lie as its initialisers lay them. -/
def Tabs (w : World) : Prop := Lib.Utf8Tabs (Tryz.laysValid_ren.g 3) (Tryz.laysValid_ren.g 4) w
theorem Tabs.later {w w' : World} (h : Tabs w) (hb : Below w.heap.size w w') : Tabs w' := Utf8Tabs_below h hb

theorem RdS.dl {s : ByteArray} {l : List UInt8} (h : RdS s l) : s.data.toList = l := by rw [h.eq]

theorem lib_Valid (s : ByteArray) (l : List UInt8) (w : World) (h : RdS s l) (hT : Tabs w) :
    Calls Tryz.prog 92 #[.string s] w fun e w' => e = .returned (.bool (utf8 l)) ∧ Below w.heap.size w w' := by
  have c : Calls Tryz.prog 92 #[.string s] w _ := Any.utf8_ValidString Tryz.laysValid s w (by rw [h.eq]; have := h.small; simp [ByteArray.size]; omega) hT
  rw [h.dl, utf8_valid] at c
  exact c

theorem lib_Compare (s t : ByteArray) (l m : List UInt8) (w : World) (hs : RdS s l) (ht : RdS t m) :
    Calls Tryz.prog 49 #[.string s, .string t] w fun e w' => e = .returned (.int .i64 (Lib.compareBytes l m)) ∧ w' = w := by
  have c : Calls Tryz.prog 49 #[.string s, .string t] w _ := Any.strings_Compare Tryz.laysCompare s t w
  rw [hs.dl, ht.dl] at c
  exact c

/-- Is the cell of the kind, but for its length? -/
def isOfC (kind : Int) (num : Nat) (l : List UInt8) : Bool :=
  if kind = 3 then decide (num = 0) else if kind = 4 then decide (num = 0) && utf8 l else if kind = 2 then l.isEmpty && decide (num ≤ 1) else l.isEmpty

set_option maxHeartbeats 2000000 in
theorem cell_isOf (kind : Int) (hk : 0 ≤ kind ∧ kind ≤ 5) (num : Nat) (s : ByteArray) (l : List UInt8) (w : World) (h : RdS s l) (hT : Tabs w) :
    Calls Tryz.prog 70 #[.int .i64 kind, cellV num s] w fun e w' => e = .returned (.bool (isOfC kind num l)) ∧ Below w.heap.size w w' := by
  have hne : s.toList.isEmpty = l.isEmpty := by rw [h.toList]
  have HB : Below w.heap.size w (w.alloc (.cells #[.int .u64 (num : Int), .string s] 45)) := (Below.refl _ _).alloc (Nat.le_refl _) _
  unfold cellV
  obtain rfl | rfl | rfl | rfl | rfl | rfl : kind = 0 ∨ kind = 1 ∨ kind = 2 ∨ kind = 3 ∨ kind = 4 ∨ kind = 5 := by omega
  · rw [show isOfC 0 num l = l.isEmpty from rfl]
    cases hl : l.isEmpty with
    | true =>
      rw [hl] at hne
      go_enter Tryz.func70, Tryz.ntmps70
      go_wp2
      go_ret
      exact ⟨rfl, HB⟩
    | false =>
      rw [hl] at hne
      go_enter Tryz.func70, Tryz.ntmps70
      go_wp2
      go_ret
      exact ⟨rfl, HB⟩
  · rw [show isOfC 1 num l = l.isEmpty from rfl]
    cases hl : l.isEmpty with
    | true =>
      rw [hl] at hne
      go_enter Tryz.func70, Tryz.ntmps70
      go_wp2
      go_ret
      exact ⟨rfl, HB⟩
    | false =>
      rw [hl] at hne
      go_enter Tryz.func70, Tryz.ntmps70
      go_wp2
      go_ret
      exact ⟨rfl, HB⟩
  · rw [show isOfC 2 num l = (l.isEmpty && decide (num ≤ 1)) from rfl]
    cases hl : l.isEmpty with
    | true =>
      rw [hl] at hne
      by_cases h1 : num ≤ 1
      · have hd : decide ((num : Int) ≤ 1) = true := decide_eq_true (by omega)
        rw [decide_eq_true h1]
        go_enter Tryz.func70, Tryz.ntmps70
        go_wp2
        go_ret
        exact ⟨rfl, HB⟩
      · have hd : decide ((num : Int) ≤ 1) = false := decide_eq_false (by omega)
        rw [decide_eq_false h1]
        go_enter Tryz.func70, Tryz.ntmps70
        go_wp2
        go_ret
        exact ⟨rfl, HB⟩
    | false =>
      rw [hl] at hne
      go_enter Tryz.func70, Tryz.ntmps70
      go_wp2
      go_ret
      exact ⟨rfl, HB⟩
  · rw [show isOfC 3 num l = decide (num = 0) from rfl]
    by_cases h1 : num = 0
    · subst h1
      go_enter Tryz.func70, Tryz.ntmps70
      go_wp2
      go_ret
      exact ⟨rfl, HB⟩
    · have hd : ((num : Int) == 0) = false := by simp; omega
      rw [decide_eq_false h1]
      go_enter Tryz.func70, Tryz.ntmps70
      go_wp2
      go_ret
      exact ⟨rfl, HB⟩
  · rw [show isOfC 4 num l = (decide (num = 0) && utf8 l) from rfl]
    by_cases h1 : num = 0
    · subst h1
      rw [show decide ((0 : Nat) = 0) = true from rfl, Bool.true_and]
      have c := lib_Valid s l _ h (hT.later HB)
      cases hu : utf8 l with
      | true =>
        rw [hu] at c
        go_enter Tryz.func70, Tryz.ntmps70
        go_wp2_with fail
        refine c.mono ?_
        rintro e w1 ⟨rfl, hb⟩
        have HB2 := HB.trans (hb.mono HB.size)
        clear hb HB hu
        go_wp2; go_ret; exact ⟨rfl, HB2⟩
      | false =>
        rw [hu] at c
        go_enter Tryz.func70, Tryz.ntmps70
        go_wp2_with fail
        refine c.mono ?_
        rintro e w1 ⟨rfl, hb⟩
        have HB2 := HB.trans (hb.mono HB.size)
        clear hb HB hu
        go_wp2; go_ret; exact ⟨rfl, HB2⟩
    · have hd : ((num : Int) == 0) = false := by simp; omega
      rw [decide_eq_false h1]
      go_enter Tryz.func70, Tryz.ntmps70
      go_wp2
      go_ret
      exact ⟨rfl, HB⟩
  · rw [show isOfC 5 num l = l.isEmpty from rfl]
    cases hl : l.isEmpty with
    | true =>
      rw [hl] at hne
      go_enter Tryz.func70, Tryz.ntmps70
      go_wp2
      go_ret
      exact ⟨rfl, HB⟩
    | false =>
      rw [hl] at hne
      go_enter Tryz.func70, Tryz.ntmps70
      go_wp2
      go_ret
      exact ⟨rfl, HB⟩

theorem checkC_isOf (kind : Int) (num : Nat) (l : List UInt8) (hk : 0 ≤ kind ∧ kind ≤ 5) : checkC kind num l = if isOfC kind num l = true then (if 256 < l.length then 7 else 0) else 11 := by
  unfold checkC
  rw [if_neg (by omega)]
  obtain rfl | rfl | rfl | rfl | rfl | rfl : kind = 0 ∨ kind = 1 ∨ kind = 2 ∨ kind = 3 ∨ kind = 4 ∨ kind = 5 := by omega
  · rw [show isOfC 0 num l = l.isEmpty from rfl]; cases l <;> simp
  · rw [show isOfC 1 num l = l.isEmpty from rfl]; cases l <;> simp
  · rw [show isOfC 2 num l = (l.isEmpty && decide (num ≤ 1)) from rfl]
    cases l with
    | nil => by_cases h : num ≤ 1 <;> simp [h] <;> omega
    | cons a r => simp
  · rw [show isOfC 3 num l = decide (num = 0) from rfl]; by_cases h : num = 0 <;> simp [h]
  · rw [show isOfC 4 num l = (decide (num = 0) && utf8 l) from rfl]; by_cases h : num = 0 <;> cases hu : utf8 l <;> simp [h]
  · rw [show isOfC 5 num l = l.isEmpty from rfl]; cases l <;> simp

def tabTop : Nat := max (Tryz.laysValid_ren.g 3) (Tryz.laysValid_ren.g 4) + 1
theorem tabs_set {w : World} {p : Addr} (h : Tabs w) (hp : tabTop ≤ p.block) (u : Value) : Tabs (w.setCell p u) := by
  have hb : Below tabTop w (w.setCell p u) := (Below.refl _ _).setCell hp u
  have g3 : Tryz.laysValid_ren.g 3 < tabTop := by unfold tabTop; omega
  have g4 : Tryz.laysValid_ren.g 4 < tabTop := by unfold tabTop; omega
  exact ⟨fun c hc => (World.cell?_of_block (hb.block _ g3)).trans (h.1 c hc), fun i hi => ⟨(World.cell?_of_block (hb.block _ g4)).trans (h.2 i hi).1, (World.cell?_of_block (hb.block _ g4)).trans (h.2 i hi).2⟩⟩
theorem tabs_lt {w : World} (h : Tabs w) : tabTop ≤ w.heap.size := by
  have g3 := World.block_lt_of_cell? w _ (h.1 0 (by omega))
  have g4 := World.block_lt_of_cell? w _ (h.2 0 (by omega)).1
  simp only at g3 g4
  unfold tabTop
  omega

theorem tabs_only {w w' : World} (h : Tabs w) (hk : ∀ j, j < tabTop → w'.heap[j]? = w.heap[j]?) : Tabs w' := by
  have g3 : Tryz.laysValid_ren.g 3 < tabTop := by unfold tabTop; omega
  have g4 : Tryz.laysValid_ren.g 4 < tabTop := by unfold tabTop; omega
  exact ⟨fun c hc => (World.cell?_of_block (hk _ g3)).trans (h.1 c hc), fun i hi => ⟨(World.cell?_of_block (hk _ g4)).trans (h.2 i hi).1, (World.cell?_of_block (hk _ g4)).trans (h.2 i hi).2⟩⟩

theorem keepB {w w' : World} {b : Nat} {o : Obj} (h : w.heap[b]? = some o) (hb : Below w.heap.size w w') : w'.heap[b]? = some o := by
  have hlt : b < w.heap.size := by
    rcases Nat.lt_or_ge b w.heap.size with h' | h'
    · exact h'
    · rw [Array.getElem?_eq_none h'] at h; cases h
  exact (hb.block b hlt).trans h

theorem two_cells {w : World} {b : Nat} {x y : Value} {T : TypeId} (q : w.heap[b]? = some (.cells #[x, y] T (0, 0))) (u v : Value) :
    (w.setCell ⟨b, 0, none⟩ u).cell? ⟨b, 0, none⟩ = some u ∧ ((w.setCell ⟨b, 0, none⟩ u).setCell ⟨b, 1, none⟩ v).cell? ⟨b, 1, none⟩ = some v ∧ ((w.setCell ⟨b, 0, none⟩ u).setCell ⟨b, 1, none⟩ v).cell? ⟨b, 0, none⟩ = some u := by
  have h1 := block_setCell (k := 0) q u
  have h2 := block_setCell (k := 1) h1 v
  exact ⟨new_cellC (i := 0) h1 rfl, new_cellC (i := 1) h2 rfl, new_cellC (i := 0) h2 rfl⟩

theorem new1 (w : World) (x : Obj) : (w.alloc x).heap.size = w.heap.size + 1 ∧ (w.alloc x).heap[w.heap.size]? = some x ∧ Below w.heap.size w (w.alloc x) :=
  ⟨by simp, heap_alloc_new _ _, (Below.refl _ w).alloc (Nat.le_refl _) _⟩

set_option maxHeartbeats 2000000 in
theorem cell_Check (kind : Int) (num : Nat) (s : ByteArray) (l : List UInt8) (w : World) (h : RdS s l) (hT : Tabs w) :
    Calls Tryz.prog 41 #[.int .i64 kind, cellV num s] w fun e w' => e = .returned (.int .i64 (checkC kind num l : Nat)) ∧ Below w.heap.size w w' := by
  obtain ⟨N0, N1, N2⟩ := new1 w (.cells #[.int .u64 (num : Int), .string s] 45)
  obtain ⟨w0, hw0⟩ : ∃ w0, w0 = w.alloc (.cells #[.int .u64 (num : Int), .string s] 45) := ⟨_, rfl⟩
  rw [← hw0] at N0 N1 N2
  have a0 := new_cellC (i := 0) N1 rfl
  have a1 := new_cellC (i := 1) N1 rfl
  have hcv : ∀ n u, cellV n u = .agg #[.int .u64 (n : Int), .string u] := fun _ _ => rfl
  have hlen := h.len
  by_cases hk : 0 ≤ kind ∧ kind ≤ 5
  · have hC := checkC_isOf kind num l hk
    have hD := cell_isOf kind hk num s l w0 h (hT.later N2)
    go_enter Tryz.func41, Tryz.ntmps41
    go_wp2_with fail
    rw [← hw0]
    refine (cell_isKind kind w0).mono ?_
    rintro e w1 ⟨rfl, rfl⟩
    rw [decide_eq_true hk]
    clear hw0
    go_wp2_with fail
    refine hD.mono ?_
    rintro e w2 ⟨rfl, hb⟩
    have HB := Lib.hid (N2.trans (hb.mono N2.size))
    have s1 := (hb.block _ (by omega)).trans N1
    have b1 := new_cellC (i := 1) s1 rfl
    clear hb N1 N2 a0 a1 hD s1
    cases hi : isOfC kind num l with
    | false =>
      rw [hi] at hC
      have HC := Lib.hid hC
      clear hi hC
      go_wp2
      go_ret
      exact ⟨by rw [HC.out]; rfl, HB.out⟩
    | true =>
      rw [hi] at hC
      by_cases hg : 256 < l.length
      · have hd : decide ((l.length : Int) > 256) = true := decide_eq_true (by omega)
        rw [if_pos rfl, if_pos hg] at hC
        have HC := Lib.hid hC
        clear hi hC hg
        go_wp2
        go_ret
        exact ⟨by rw [HC.out]; rfl, HB.out⟩
      · have hd : decide ((l.length : Int) > 256) = false := decide_eq_false (by omega)
        rw [if_pos rfl, if_neg hg] at hC
        have HC := Lib.hid hC
        clear hi hC hg
        go_wp2
        go_ret
        exact ⟨by rw [HC.out]; rfl, HB.out⟩
  · rw [show checkC kind num l = 10 from by unfold checkC; rw [if_pos (by omega)]]
    go_enter Tryz.func41, Tryz.ntmps41
    go_wp2_with fail
    rw [← hw0]
    refine (cell_isKind kind w0).mono ?_
    rintro e w1 ⟨rfl, rfl⟩
    rw [decide_eq_false hk]
    clear hw0
    go_wp2
    go_ret
    exact ⟨rfl, N2⟩

end Go.Proofs.YtkljkpffpdpphaaGreatDoor
