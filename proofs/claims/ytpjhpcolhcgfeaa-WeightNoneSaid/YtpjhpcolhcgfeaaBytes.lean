/-
  Byte slices: how a slice value reads as a list of bytes (Rd), and how a call owns one that it has made (Own); what the operations on them do.
-/
import Derived.Test.YtpjhpcolhcgfeaaProg
import Derived.WalkKit
import Derived.WalkSpells
import Derived.WalkLawsBesides
import Derived.Laws.CopyOwn
import Derived.Laws.AppendOwnNone
import Derived.Lib.Hide
set_option linter.unusedVariables false
set_option linter.unusedSimpArgs false
set_option maxRecDepth 1000000
namespace Go.Proofs.Ytpjhpcolhcgfeaa
open Go.RowKit

/-- The cell of a byte. -/
def cellB (b : UInt8) : Value := .int .u8 (b.toNat : Int)
/-- The cells of a list of bytes. -/
def cellsB (l : List UInt8) : List Value := l.map cellB
/-- The number at place i of a list of bytes. -/
def at8 (l : List UInt8) (i : Nat) : Int := ((l.getD i 0).toNat : Int)
/-- The address of a slice value's place i. -/
def adr : Value → Nat → Addr
  | .slice (some a) _ _, i => a.add i
  | _, _ => default

theorem at8_lo (l : List UInt8) (i : Nat) : 0 ≤ at8 l i := by unfold at8; omega
theorem at8_hi (l : List UInt8) (i : Nat) : at8 l i ≤ 255 := by
  unfold at8; have := (l.getD i 0).toNat_lt; omega
theorem at8_eq {l : List UInt8} {i : Nat} (h : i < l.length) : at8 l i = (l[i].toNat : Int) := by
  unfold at8; simp [List.getD, h]
theorem cellsB_length (l : List UInt8) : (cellsB l).length = l.length := by simp [cellsB]
theorem cellsB_append (l m : List UInt8) : cellsB (l ++ m) = cellsB l ++ cellsB m := by simp [cellsB]
theorem cellsB_one (l : List UInt8) : ∀ u ∈ cellsB l, u.oneCell' = true := by
  intro u hu
  obtain ⟨_, _, rfl⟩ := List.mem_map.1 hu
  rfl
theorem cellsB_get {l : List UInt8} {i : Nat} {u : Value} (h : (cellsB l)[i]? = some u) : i < l.length ∧ u = .int .u8 (at8 l i) := by
  have hi : i < l.length := by
    have := (List.getElem?_eq_some_iff.1 h).1
    simpa [cellsB] using this
  refine ⟨hi, ?_⟩
  rw [at8_eq hi]
  simp [cellsB, hi] at h
  exact h.symm
theorem cellsB_at {l : List UInt8} {i : Nat} (hi : i < l.length) : (cellsB l)[i]? = some (.int .u8 (at8 l i)) := by
  rw [at8_eq hi]; simp [cellsB, hi, cellB]

/-- The slice value v reads as the bytes l in the world w. -/
structure Rd (w : World) (v : Value) (l : List UInt8) : Prop where
  shape : ∃ ao cap, v = .slice ao l.length cap ∧ l.length ≤ cap ∧ (ao = none → cap = 0) ∧ (0 < l.length → ∃ b o, ao = some ⟨b, o, none⟩)
  cells : ∀ i, i < l.length → w.cell? (adr v i) = some (.int .u8 (at8 l i))
  small : l.length ≤ 140737488351232

/-- The slice value v is one that was made from block number base on: nobody else writes to it; it reads as l. -/
def Own (w : World) (base : Nat) (v : Value) (l : List UInt8) : Prop := w.ownsRow base 5 1 v l.length (cellsB l)

theorem Rd.block {w : World} {v : Value} {l : List UInt8} (h : Rd w v l) {i : Nat} (hi : i < l.length) : (adr v i).block < w.heap.size :=
  World.block_lt_of_cell? w _ (h.cells i hi)

theorem adr_block {w : World} {v : Value} {l : List UInt8} (h : Rd w v l) (i j : Nat) (hj : j < l.length) : (adr v i).block = (adr v j).block := by
  obtain ⟨⟨ao, cap, rfl, _, _, hp⟩, _, _⟩ := h
  obtain ⟨b, o, rfl⟩ := hp (by omega)
  simp [adr, Addr.add]; split <;> split <;> rfl

/-- What reads in an elder world reads in one that has grown. -/
theorem Rd.later {w w' : World} {v : Value} {l : List UInt8} (h : Rd w v l) {B : Nat} (hb : Below B w w') (hB : w.heap.size ≤ B) : Rd w' v l :=
  ⟨h.shape, fun i hi => by rw [hb.cell (Nat.lt_of_lt_of_le (h.block hi) hB)]; exact h.cells i hi, h.small⟩

theorem Rd.drew {w : World} {v : Value} {l : List UInt8} (h : Rd w v l) : Rd w.drew v l := ⟨h.shape, h.cells, h.small⟩

theorem Rd.alloc {w : World} {v : Value} {l : List UInt8} (h : Rd w v l) (o : Obj) : Rd (w.alloc o) v l :=
  h.later ((Below.refl w.heap.size w).alloc (Nat.le_refl _) o) (Nat.le_refl _)

theorem Rd.nil (w : World) : Rd w (.slice none 0 0) [] :=
  ⟨⟨none, 0, rfl, Nat.le_refl _, fun _ => rfl, fun h => absurd h (by simp)⟩, fun i hi => absurd hi (by simp), by simp⟩

/-- What is owned is read. -/
theorem Own.rd {w : World} {base : Nat} {v : Value} {l : List UInt8} (h : Own w base v l) (hs : l.length ≤ 140737488351232) : Rd w v l := by
  have hc := fun g => World.ownsRow.cells (g := g) h
  obtain ⟨_, h2⟩ := h
  rcases h2 with ⟨rfl, hn⟩ | ⟨g, cap, cur, rfl, _, hg, hn, hm, _⟩
  · have : l = [] := List.eq_nil_of_length_eq_zero hn
    subst this; exact Rd.nil w
  · refine ⟨⟨_, cap, rfl, hn, (by intro h; cases h), fun _ => ⟨g, 0, rfl⟩⟩, fun i hi => ?_, hs⟩
    exact hc g rfl i _ (cellsB_at hi)

theorem Own.later {w w' : World} {base B : Nat} {v : Value} {l : List UInt8} (h : Own w base v l) (hb : Below B w w') (hB : w.heap.size ≤ B) : Own w' base v l := by
  refine ⟨h.1, ?_⟩
  rcases h.2 with h2 | ⟨g, cap, cur, rfl, hbg, hg, r⟩
  · exact .inl h2
  · refine .inr ⟨g, cap, cur, rfl, hbg, ?_, r⟩
    rw [hb.block g (Nat.lt_of_lt_of_le (Array.getElem?_eq_some_iff.1 hg).1 hB)]; exact hg

theorem Own.base {w : World} {base base' : Nat} {v : Value} {l : List UInt8} (h : Own w base v l) (hb : base' ≤ base) : Own w base' v l := by
  refine ⟨h.1, ?_⟩
  rcases h.2 with h2 | ⟨g, cap, cur, rfl, hbg, r⟩
  · exact .inl h2
  · exact .inr ⟨g, cap, cur, rfl, Nat.le_trans hb hbg, r⟩

theorem size_u8 : (Try.prog.info? 5).map (·.size) = some 1 := by kernel_rfl
theorem info_u8 : (Try.prog.info? 5).map (fun i => (i.zero, i.size, i.bytes)) = some (some (.int .u8 0), 1, 1) := by kernel_rfl

theorem splice_cellsB (cur l : List UInt8) (off : Nat) : splice (cellsB cur) off (cellsB l) = cellsB (splice cur off l) := by
  simp [splice, cellsB]

/-- One byte, as the slice that append is handed. -/
theorem rd_one (w : World) (c : Int) (h0 : 0 ≤ c) (h1 : c ≤ 255) : Rd (w.alloc (.cells #[.int .u8 c] 5)) (.slice (some ⟨w.heap.size, 0, none⟩) 1 1) [UInt8.ofNat c.toNat] := by
  refine ⟨⟨_, 1, rfl, Nat.le_refl _, (by intro h; cases h), fun _ => ⟨_, _, rfl⟩⟩, fun i hi => ?_, by simp⟩
  obtain rfl : i = 0 := by simpa using hi
  have e : at8 [UInt8.ofNat c.toNat] 0 = c := by
    simp [at8]; omega
  rw [e]
  simp [adr, Addr.add]

/-- A literal of bytes, as it is laid. -/
theorem rd_lit (w : World) (l : List UInt8) (hs : l.length ≤ 140737488351232) (z : Nat × Nat) : Rd (w.alloc (.cells (cellsB l).toArray 5 z)) (.slice (some ⟨w.heap.size, 0, none⟩) l.length l.length) l := by
  refine ⟨⟨_, _, rfl, Nat.le_refl _, (by intro h; cases h), fun _ => ⟨_, _, rfl⟩⟩, fun i hi => ?_, hs⟩
  have e : adr (.slice (some ⟨w.heap.size, 0, none⟩) l.length l.length) i = ⟨w.heap.size, i, none⟩ := by
    simp only [adr, Addr.add]; split <;> simp_all
  rw [e, cell_of_row _ _ _ _ _ z (heap_alloc_new w _)]
  rw [List.getElem?_toArray]
  exact cellsB_at hi

/-- '[]byte{}'. -/
theorem own_empty (w : World) (base : Nat) (hb : base ≤ w.heap.size) : Own (w.alloc (.cells #[] 5)) base (.slice (some ⟨w.heap.size, 0, none⟩) 0 0) [] :=
  World.ownsRow_made w #[] 0 hb (Nat.zero_le _) (by simp)

theorem own_nil (w : World) (base : Nat) : Own w base (.slice none 0 0) [] := World.ownsRow_nil w base _ _

theorem block_setCell {w : World} {g k : Nat} {c : Array Value} {e : TypeId} {z : Nat × Nat} (h : w.heap[g]? = some (.cells c e z)) (u : Value) :
    (w.setCell ⟨g, k, none⟩ u).heap[g]? = some (.cells (c.setIfInBounds k u) e z) := by
  simp [World.setCell, Array.getElem?_modify, h]

theorem grown_setCell {w w' : World} {g k : Nat} (h : w.grownBy w' (some g)) (u : Value) : w.grownBy (w'.setCell ⟨g, k, none⟩ u) (some g) :=
  ⟨h.os, h.tape, h.output, by simpa using h.size, fun i hi hne => by
    rw [Below.heap_setCell _ _ _ _ (by intro e; exact hne (by rw [e]))]; exact h.block i hi hne⟩

theorem set_at {α : Type} (l m : List α) (u : α) (k : Nat) (hl : l.length = k) (hm : 0 < m.length) : (l ++ m).toArray.setIfInBounds k u = (l ++ [u] ++ m.drop 1).toArray := by
  subst hl
  cases m with
  | nil => simp at hm
  | cons b m => simp

theorem cell_mid {w : World} {g k : Nat} {l m : List Value} {e : TypeId} {z : Nat × Nat} (h : w.heap[g]? = some (.cells (l ++ m).toArray e z)) (hk : k < l.length) : w.cell? ⟨g, k, none⟩ = l[k]? := by
  rw [cell_of_row w g k _ e z h, List.getElem?_toArray, List.getElem?_append_left hk]

/-- How a value that the call has made is owned, out of its block. -/
theorem own_of_block {w : World} {base g n cap : Nat} {l : List UInt8} {cur : List Value} (hb : base ≤ g) (hg : w.heap[g]? = some (.cells cur.toArray 5 (0, 0))) (hn : n = l.length) (hc : n ≤ cap) (hm : cap ≤ maxLen)
    (hs : cur.length = cap) (ht : cur.take n = cellsB l) : Own w base (.slice (some ⟨g, 0, none⟩) n cap) l := by
  subst hn
  refine ⟨by simp [cellsB_length], .inr ⟨g, cap, _, rfl, hb, hg, hc, hm, by simpa using hs, ?_⟩⟩
  simpa using ht

/-- What a call that makes bytes answers. -/
def RetB (w : World) (l : List UInt8) (e : Ending) (w' : World) : Prop := ∃ v, e = .returned v ∧ Own w' w.heap.size v l ∧ Below w.heap.size w w'

theorem Own.alloc {w : World} {base : Nat} {v : Value} {l : List UInt8} (h : Own w base v l) (o : Obj) : Own (w.alloc o) base v l := World.ownsRow.alloc h o

/-- A literal of bytes, as the call's own. -/
theorem own_lit (w : World) (base : Nat) (hb : base ≤ w.heap.size) (l : List UInt8) (hs : l.length ≤ maxLen) : Own (w.alloc (.cells (cellsB l).toArray 5 (0, 0))) base (.slice (some ⟨w.heap.size, 0, none⟩) l.length l.length) l :=
  own_of_block hb (heap_alloc_new w _) rfl (Nat.le_refl _) hs (by simp [cellsB_length]) (List.take_of_length_le (by simp [cellsB_length]))

/-- A byte of a slice of the call's own is turned. -/
theorem Own.set {w : World} {base : Nat} {v : Value} {l : List UInt8} (h : Own w base v l) {i : Nat} (hi : i < l.length) (b : UInt8) :
    Own (w.setCell (adr v i) (cellB b)) base v (l.set i b) ∧ w.frozen? (adr v i) = false ∧ base ≤ (adr v i).block := by
  obtain ⟨h0, h2⟩ := h
  rcases h2 with ⟨rfl, hn⟩ | ⟨g, cap, cur, rfl, hbg, hg, hn, hm, hs, ht⟩
  · exact absurd hi (by omega)
  · have e : adr (.slice (some ⟨g, 0, none⟩) l.length cap) i = ⟨g, i, none⟩ := by
      simp only [adr, Addr.add]; split <;> simp_all
    rw [e]
    refine ⟨⟨by simp [cellsB_length], .inr ⟨g, cap, _, by simp, hbg, block_setCell hg _, by simp; exact hn, hm, by simpa using hs, ?_⟩⟩, frozen_of_row _ _ _ _ _ hg, hbg⟩
    simp only [List.length_set]
    rw [Array.toList_setIfInBounds, List.take_set, ht]
    simp [cellsB, List.map_set]

theorem Own.drew {w : World} {base : Nat} {v : Value} {l : List UInt8} (h : Own w base v l) : Own w.drew base v l := h.later ((Below.refl w.heap.size w).drew) (Nat.le_refl _)

end Go.Proofs.Ytpjhpcolhcgfeaa
