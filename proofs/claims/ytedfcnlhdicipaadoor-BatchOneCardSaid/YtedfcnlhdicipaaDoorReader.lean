/-
  Layer 3's reader in memory, and the walks of its methods.
-/
import Derived.Test.YtedfcnlhdicipaaDoorGWire
import Derived.Test.YtedfcnlhdicipaaDoorGBaseA
import Derived.Defers
import Derived.Recover
import Derived.RegionTactic
import Derived.BigRegion
set_option linter.unusedVariables false
set_option linter.unusedSimpArgs false
set_option maxRecDepth 1000000
namespace Go.Proofs.YtedfcnlhdicipaaDoor
open Go.RowKit

/-! ## What no program's text reaches -/

/-- What is left of l at k has a number at its front: the number, the place behind it, and what is wrong. -/
def rdU (l : List UInt8) (k most : Nat) : Nat × Nat × Nat :=
  if (getU (l.drop k)).2.2 ≠ 0 then (0, k, (getU (l.drop k)).2.2)
  else if most < (getU (l.drop k)).1 then (0, k, 3)
  else ((getU (l.drop k)).1, k + (getU (l.drop k)).2.1, 0)

def rdB (l : List UInt8) (k : Nat) (most : Int) : List UInt8 × Nat × Nat :=
  if (getB (l.drop k) most).2.2 ≠ 0 then ([], k, (getB (l.drop k) most).2.2)
  else ((getB (l.drop k) most).1, k + (getB (l.drop k) most).2.1, 0)

theorem getB_good (l : List UInt8) (most : Int) : (getB l most).2.1 ≤ l.length ∧ (getB l most).2.2 ≤ 13 ∧ ((getB l most).2.2 ≠ 0 → (getB l most).1 = [] ∧ (getB l most).2.1 = 0) := by
  have hg := getU_good l
  have hc := getU_codes l
  unfold getB
  split
  · rename_i h; exact ⟨by simp, by simp; omega, fun _ => ⟨rfl, rfl⟩⟩
  · split
    · exact ⟨by simp, by simp, fun _ => ⟨rfl, rfl⟩⟩
    · split
      · exact ⟨by simp, by simp, fun _ => ⟨rfl, rfl⟩⟩
      · rename_i h0 h1 h2
        have h0' : (getU l).2.2 = 0 := Decidable.of_not_not h0
        obtain ⟨_, h3, h4, h5⟩ := hg h0'
        exact ⟨by simp; omega, by simp, fun h => absurd rfl h⟩

theorem rdU_ok {l : List UInt8} {k most : Nat} (hk : k ≤ l.length) (h : (rdU l k most).2.2 = 0) :
    (getU (l.drop k)).2.2 = 0 ∧ ¬ most < (getU (l.drop k)).1 ∧ rdU l k most = ((getU (l.drop k)).1, k + (getU (l.drop k)).2.1, 0) ∧ (rdU l k most).2.1 ≤ l.length ∧ (rdU l k most).1 < 2 ^ 64 := by
  unfold rdU at h ⊢
  by_cases h1 : (getU (l.drop k)).2.2 = 0
  · rw [if_neg (fun h => h h1)] at h ⊢
    by_cases h2 : most < (getU (l.drop k)).1
    · rw [if_pos h2] at h; exact absurd h (by simp)
    · rw [if_neg h2]
      obtain ⟨h3, h4, h5, h6⟩ := getU_good _ h1
      simp only [List.length_drop] at h5
      exact ⟨h1, h2, rfl, by dsimp only; omega, h3⟩
  · rw [if_pos h1] at h; exact absurd h h1

theorem rdU_no {l : List UInt8} {k most : Nat} (h : (rdU l k most).2.2 ≠ 0) : (rdU l k most).1 = 0 ∧ (rdU l k most).2.1 = k ∧ (rdU l k most).2.2 ≤ 7 := by
  have hc := getU_codes (l.drop k)
  unfold rdU at h ⊢
  split
  · exact ⟨rfl, rfl, hc⟩
  · split
    · exact ⟨rfl, rfl, by simp⟩
    · rename_i h1 h2; rw [if_neg h1, if_neg h2] at h; exact absurd rfl h

/-! ## The reader -/

/-- The reader in block g: of the bytes v, which read as l, at place k, not done. -/
structure Rdr (w : World) (g : Nat) (v : Value) (l : List UInt8) (k : Nat) : Prop where
  blk : w.heap[g]? = some (.cells #[v, .int .i64 (k : Int), .bool true, .int .i64 0, .int .i64 0] 57 (0, 0))
  le : k ≤ l.length
  rd : Rd w v l
  off : ∀ i, i < l.length → (adr v i).block ≠ g

/-- .. and what is known of it when it has ended. -/
structure Ended (w : World) (g : Nat) (v : Value) (l : List UInt8) (k x : Nat) : Prop where
  blk : w.heap[g]? = some (.cells #[v, .int .i64 (k : Int), .bool true, .int .i64 (x : Int), .int .i64 (k : Int)] 57 (0, 0))
  le : k ≤ l.length

/-- .. and of one whose Run has answered. -/
def Shut (w : World) (g : Nat) : Prop := ∃ a b c d, w.heap[g]? = some (.cells #[a, b, .bool false, c, d] 57 (0, 0))

/-- What it ends with. -/
def stopOf (g : Nat) (x : Nat) : Value := .iface 60 (.agg #[.pointer (some ⟨g, 0, none⟩)])

theorem Rdr.lt {w : World} {g : Nat} {v : Value} {l : List UInt8} {k : Nat} (h : Rdr w g v l k) : g < w.heap.size := (Array.getElem?_eq_some_iff.1 h.blk).1
theorem Rdr.uniq {w : World} {g : Nat} {v : Value} {l : List UInt8} {k k' : Nat} (h : Rdr w g v l k) (h' : Rdr w g v l k') : k = k' := by
  have := h.blk.symm.trans h'.blk
  simp at this
  omega
theorem Rdr.cell0 {w : World} {g : Nat} {v : Value} {l : List UInt8} {k : Nat} (h : Rdr w g v l k) : w.cell? ⟨g, 0, none⟩ = some v := by rw [cell_of_row _ _ _ _ _ _ h.blk]; rfl
theorem Rdr.cell1 {w : World} {g : Nat} {v : Value} {l : List UInt8} {k : Nat} (h : Rdr w g v l k) : w.cell? ⟨g, 1, none⟩ = some (.int .i64 k) := by rw [cell_of_row _ _ _ _ _ _ h.blk]; rfl
theorem Rdr.cell2 {w : World} {g : Nat} {v : Value} {l : List UInt8} {k : Nat} (h : Rdr w g v l k) : w.cell? ⟨g, 2, none⟩ = some (.bool true) := by rw [cell_of_row _ _ _ _ _ _ h.blk]; rfl
theorem Rdr.cell3 {w : World} {g : Nat} {v : Value} {l : List UInt8} {k : Nat} (h : Rdr w g v l k) : w.cell? ⟨g, 3, none⟩ = some (.int .i64 0) := by rw [cell_of_row _ _ _ _ _ _ h.blk]; rfl
theorem Rdr.cell4 {w : World} {g : Nat} {v : Value} {l : List UInt8} {k : Nat} (h : Rdr w g v l k) : w.cell? ⟨g, 4, none⟩ = some (.int .i64 0) := by rw [cell_of_row _ _ _ _ _ _ h.blk]; rfl
theorem Rdr.free {w : World} {g : Nat} {v : Value} {l : List UInt8} {k : Nat} (h : Rdr w g v l k) (i : Nat) : w.frozen? ⟨g, i, none⟩ = false := frozen_of_row _ _ _ _ _ h.blk

/-- Bytes stay readable where their block is as it was. -/
theorem Rd.same {w w' : World} {v : Value} {l : List UInt8} (h : Rd w v l) (hs : ∀ i, i < l.length → w'.heap[(adr v i).block]? = w.heap[(adr v i).block]?) : Rd w' v l :=
  ⟨h.shape, fun i hi => (World.cell?_of_block (hs i hi)).trans (h.cells i hi), h.small⟩

theorem Rdr.same {w w' : World} {g : Nat} {v : Value} {l : List UInt8} {k : Nat} (h : Rdr w g v l k) (hg : w'.heap[g]? = w.heap[g]?) (hs : ∀ i, i < l.length → w'.heap[(adr v i).block]? = w.heap[(adr v i).block]?) : Rdr w' g v l k :=
  ⟨hg.trans h.blk, h.le, h.rd.same hs, h.off⟩

theorem Rdr.set {w : World} {g : Nat} {v : Value} {l : List UInt8} {k : Nat} (h : Rdr w g v l k) {n : Nat} (hn : n ≤ l.length) : Rdr (w.setCell ⟨g, 1, none⟩ (.int .i64 n)) g v l n :=
  ⟨block_setCell h.blk _, hn, h.rd.same fun i hi => Below.heap_setCell _ _ _ _ (h.off i hi), h.off⟩

theorem Rdr.later {w w' : World} {g : Nat} {v : Value} {l : List UInt8} {k B : Nat} (h : Rdr w g v l k) (hb : Below B w w') (hB : w.heap.size ≤ B) : Rdr w' g v l k :=
  h.same (hb.block _ (Nat.lt_of_lt_of_le h.lt hB)) fun i hi => hb.block _ (Nat.lt_of_lt_of_le (h.rd.block hi) hB)

/-- A variable that is neither the reader nor of its bytes is written. -/
theorem Rdr.setVar {w : World} {g : Nat} {v : Value} {l : List UInt8} {k : Nat} (h : Rdr w g v l k) {p : Addr} (hp : p.block ≠ g) (hv : ∀ i, i < l.length → (adr v i).block ≠ p.block) (u : Value) : Rdr (w.setCell p u) g v l k :=
  h.same (Below.heap_setCell _ _ _ _ (fun e => hp e.symm)) fun i hi => Below.heap_setCell _ _ _ _ (hv i hi)

theorem Rdr.alloc {w : World} {g : Nat} {v : Value} {l : List UInt8} {k : Nat} (h : Rdr w g v l k) (o : Obj) : Rdr (w.alloc o) g v l k :=
  h.later ((Below.refl _ _).alloc (Nat.le_refl _) o) (Nat.le_refl _)

/-- Where the reader stands, out of the world alone (for a loop's measure). -/
noncomputable def placeOf (w : World) (g : Nat) (v : Value) (l : List UInt8) : Nat := @dite _ (∃ k, Rdr w g v l k) (Classical.propDecidable _) (fun h => Classical.choose h) (fun _ => 0)
theorem placeOf_eq {w : World} {g : Nat} {v : Value} {l : List UInt8} {k : Nat} (h : Rdr w g v l k) : placeOf w g v l = k := by
  have hx : ∃ k, Rdr w g v l k := ⟨k, h⟩
  unfold placeOf
  rw [dif_pos hx]
  exact (Classical.choose_spec hx).uniq h

/-- What a method does: it answers, and the reader stands at k'; or the reader has ended. -/
def Reads (w : World) (g : Nat) (v : Value) (l : List UInt8) (val : Value) (k' x : Nat) (e : Ending) (w' : World) : Prop :=
  w.grownBy w' (some g) ∧ ((x = 0 ∧ e = .returned val ∧ Rdr w' g v l k') ∨ (x ≠ 0 ∧ e = .panicked [{ v := stopOf g x, recovered := false }] ∧ Ended w' g v l k' x))

theorem Reads.ok {w w' : World} {g : Nat} {v val : Value} {l : List UInt8} {k' x : Nat} {e : Ending} (h : Reads w g v l val k' x e w') (hx : x = 0) : e = .returned val ∧ w.grownBy w' (some g) ∧ Rdr w' g v l k' := by
  rcases h with ⟨h1, ⟨_, h2, h3⟩ | ⟨h2, _⟩⟩
  · exact ⟨h2, h1, h3⟩
  · exact absurd hx h2

theorem Reads.no {w w' : World} {g : Nat} {v val : Value} {l : List UInt8} {k' x : Nat} {e : Ending} (h : Reads w g v l val k' x e w') (hx : x ≠ 0) : e = .panicked [{ v := stopOf g x, recovered := false }] ∧ w.grownBy w' (some g) ∧ Ended w' g v l k' x := by
  rcases h with ⟨h1, ⟨h2, _⟩ | ⟨_, h2, h3⟩⟩
  · exact absurd h2 hx
  · exact ⟨h2, h1, h3⟩

theorem reader_over (g : Nat) (v : Value) (l : List UInt8) (k : Nat) (w : World) (hR : Rdr w g v l k) :
    Calls Tryd.prog 39 #[.pointer (some ⟨g, 0, none⟩)] w fun e w' => e = .returned (.bool false) ∧ w = w' := by
  have c2 := hR.cell2
  clear hR
  go_enter Tryd.func39, Tryd.ntmps39
  go_wp2
  go_ret
  exact ⟨rfl, rfl⟩

theorem reader_stop (g : Nat) (v : Value) (l : List UInt8) (k x : Nat) (w : World) (hR : Rdr w g v l k) :
    Calls Tryd.prog 40 #[.pointer (some ⟨g, 0, none⟩), .int .i64 (x : Int)] w fun e w' => e = .panicked [{ v := stopOf g x, recovered := false }] ∧ w.grownBy w' (some g) ∧ Ended w' g v l k x := by
  have c1 := hR.cell1
  have c3 := hR.cell3
  have c4 := hR.cell4
  have f3 := hR.free 3
  have f4 := hR.free 4
  have HR := Lib.hid hR
  have hG : w.grownBy ((w.setCell ⟨g, 3, none⟩ (.int .i64 (x : Int))).setCell ⟨g, 4, none⟩ (.int .i64 (k : Int))) (some g) := grown_setCell (grown_setCell (World.grownBy.refl _ _) _) _
  have HG := Lib.hid hG
  clear hG
  clear hR
  go_enter Tryd.func40, Tryd.ntmps40
  go_wp2
  exact ⟨rfl, rfl, HG.out, ⟨block_setCell (block_setCell HR.out.blk _) _, HR.out.le⟩⟩

theorem below_grown {w w' : World} (h : Below w.heap.size w w') (r : Option Nat) : w.grownBy w' r := ⟨h.os, h.tape, h.output, h.size, fun j hj _ => h.block j hj⟩
theorem _root_.Go.World.grownBy.trans_drew {w w' : World} {r : Option Nat} (h : w.grownBy w' r) : w.grownBy w'.drew r := ⟨h.os, h.tape, h.output, h.size, h.block⟩
theorem grown_drew (w : World) (r : Option Nat) : w.grownBy w.drew r := ⟨rfl, rfl, rfl, Nat.le_refl _, fun _ _ _ => rfl⟩
theorem Rdr.drew {w : World} {g : Nat} {v : Value} {l : List UInt8} {k : Nat} (h : Rdr w g v l k) : Rdr w.drew g v l k := ⟨h.blk, h.le, h.rd.drew, h.off⟩

theorem reader_Left (g : Nat) (v : Value) (l : List UInt8) (k : Nat) (w : World) (hR : Rdr w g v l k) :
    Calls Tryd.prog 38 #[.pointer (some ⟨g, 0, none⟩)] w fun e w' => e = .returned (.int .i64 ((l.length - k : Nat) : Int)) ∧ Below w.heap.size w w' := by
  have c0 := hR.cell0
  have c1 := hR.cell1
  have hlen := hR.rd.len
  have hsm := hR.rd.small
  have hle := hR.le
  have hsub : (l.length : Int) - k = ((l.length - k : Nat) : Int) := by omega
  go_enter Tryd.func38, Tryd.ntmps38
  go_wp2_with fail
  refine (reader_over _ _ _ _ _ hR).mono ?_
  rintro e w1 ⟨rfl, rfl⟩
  clear hR
  go_wp2
  go_region
  go_wp2
  go_ret
  exact ⟨rfl, (Below.refl _ _).drew⟩

/-- A Must that is fulfilled. -/
theorem reader_Must_ok (p : Value) (w : World) (x : Int) :
    Calls Tryd.prog 22 #[p, .bool true, .int .i64 x] w fun e w' => e = .returned (.tuple #[]) ∧ w = w' := by
  go_enter Tryd.func22, Tryd.ntmps22
  go_wp2
  go_end0
  exact ⟨rfl, rfl⟩

/-- .. and one that ends it. -/
theorem reader_Must_no (g : Nat) (v : Value) (l : List UInt8) (k : Nat) (w : World) (hR : Rdr w g v l k) (x : Nat) (hx : x ≠ 0) :
    Calls Tryd.prog 22 #[.pointer (some ⟨g, 0, none⟩), .bool false, .int .i64 (x : Int)] w fun e w' => e = .panicked [{ v := stopOf g x, recovered := false }] ∧ w.grownBy w' (some g) ∧ Ended w' g v l k x := by
  have hne : ((x : Int) != 0) = true := by simp; omega
  go_enter Tryd.func22, Tryd.ntmps22
  go_wp2_with fail
  refine (reader_over _ _ _ _ _ hR).mono ?_
  rintro e w1 ⟨rfl, rfl⟩
  go_wp2_with fail
  refine (reader_stop g v l k x _ hR).mono ?_
  rintro e w2 ⟨rfl, hg, hE⟩
  clear hR
  go_wp2
  exact ⟨rfl, rfl, hg, hE⟩

theorem reader_Must (g : Nat) (v : Value) (l : List UInt8) (k : Nat) (w : World) (hR : Rdr w g v l k) (ok : Bool) (x : Nat) :
    Calls Tryd.prog 22 #[.pointer (some ⟨g, 0, none⟩), .bool ok, .int .i64 (x : Int)] w (Reads w g v l (.tuple #[]) k (if ok then 0 else x)) := by
  cases ok with
  | true =>
    simp only [if_true]
    refine (reader_Must_ok _ _ _).mono ?_
    rintro e w1 ⟨rfl, rfl⟩
    exact ⟨World.grownBy.refl _ _, .inl ⟨rfl, rfl, hR⟩⟩
  | false =>
    simp only [Bool.false_eq_true, if_false]
    by_cases hx : x = 0
    · subst hx
      go_enter Tryd.func22, Tryd.ntmps22
      go_wp2
      go_end0
      exact ⟨World.grownBy.refl _ _, .inl ⟨rfl, rfl, hR⟩⟩
    · refine (reader_Must_no _ _ _ _ _ hR x hx).mono ?_
      rintro e w1 ⟨rfl, hg, hE⟩
      exact ⟨hg, .inr ⟨hx, rfl, hE⟩⟩

/-- The next byte, if there is one. -/
theorem reader_Byte (g : Nat) (v : Value) (l : List UInt8) (k : Nat) (w : World) (hR : Rdr w g v l k) :
    Calls Tryd.prog 69 #[.pointer (some ⟨g, 0, none⟩)] w (Reads w g v l (.int .u8 (if k < l.length then at8 l k else 0)) (if k < l.length then k + 1 else k) (if k < l.length then 0 else 5)) := by
  have hsm := hR.rd.small
  have hle := hR.le
  by_cases hk : k < l.length
  · simp only [if_pos hk]
    have hz : ((((l.length - k : Nat) : Int) == 0) = false) := by simp; omega
    go_enter Tryd.func69, Tryd.ntmps69
    go_wp2_with fail
    refine (reader_over _ _ _ _ _ hR).mono ?_
    rintro e w1 ⟨rfl, rfl⟩
    go_wp2_with fail
    refine (reader_Left _ _ _ _ _ hR).mono ?_
    rintro e w1 ⟨rfl, hb1⟩
    have hR1 := hR.later hb1 (Nat.le_refl _)
    have c1 := hR1.cell1
    have f1 := hR1.free 1
    have hS := hR1.set (n := k + 1) (by omega)
    have d0 := hS.cell0
    have d1 := hS.cell1
    have hidx := hS.rd.idx k hk
    have hcel := hS.rd.cells k hk
    have hg : w.grownBy (w1.setCell ⟨g, 1, none⟩ (.int .i64 ((k + 1 : Nat) : Int))) (some g) := grown_setCell (below_grown hb1 _) _
    have HS := Lib.hid hS
    have HG := Lib.hid hg
    have hk1 : (k : Int) + 1 - 1 = (k : Int) := by omega
    clear hR hR1 hS hg hb1
    rw [show ((k + 1 : Nat) : Int) = (k : Int) + 1 from by omega] at *
    go_wp2
    go_region
    go_wp2
    go_ret
    exact ⟨HG.out.trans_drew, .inl ⟨rfl, rfl, HS.out.drew⟩⟩
  · simp only [if_neg hk]
    obtain rfl : k = l.length := by omega
    have hz : ((((l.length - l.length : Nat) : Int) == 0) = true) := by simp
    go_enter Tryd.func69, Tryd.ntmps69
    go_wp2_with fail
    refine (reader_over _ _ _ _ _ hR).mono ?_
    rintro e w1 ⟨rfl, rfl⟩
    go_wp2_with fail
    refine (reader_Left _ _ _ _ _ hR).mono ?_
    rintro e w1 ⟨rfl, hb1⟩
    have hR1 := hR.later hb1 (Nat.le_refl _)
    clear hR
    go_wp2_with fail
    refine (reader_stop g v l _ 5 _ hR1).mono ?_
    rintro e w2 ⟨rfl, hg2, hE⟩
    clear hR1
    go_wp2
    exact ⟨rfl, (below_grown hb1 _).trans hg2, .inr ⟨by decide, rfl, hE⟩⟩

/-! ## Numbers and bytes -/

set_option maxHeartbeats 1000000 in
set_option maxRecDepth 1000000 in
theorem reader_Uint (g : Nat) (v : Value) (l : List UInt8) (k : Nat) (w : World) (hR : Rdr w g v l k) (most : Nat) (hm : most < 18446744073709551616) :
    Calls Tryd.prog 23 #[.pointer (some ⟨g, 0, none⟩), .int .u64 (most : Int)] w (Reads w g v l (.int .u64 ((rdU l k most).1 : Int)) (rdU l k most).2.1 (rdU l k most).2.2) := by
  have hsm := hR.rd.small
  have hle := hR.le
  have hR0 := hR.drew
  have c0 : ∀ x : Ord.GW w.drew, x.val.cell? ⟨g, 0, none⟩ = some v := fun x => (hR0.later x.grew (Nat.le_refl _)).cell0
  have c1 : ∀ x : Ord.GW w.drew, x.val.cell? ⟨g, 1, none⟩ = some (.int .i64 k) := fun x => (hR0.later x.grew (Nat.le_refl _)).cell1
  obtain ⟨vb, hsl, hrd⟩ := hR.rd.from k hle
  have hg := getU_good (l.drop k)
  rcases hr : getU (l.drop k) with ⟨x, n, er⟩
  rw [hr] at hg
  dsimp only at hg
  have HU := Lib.hid hr
  by_cases he : er = 0
  · subst he
    obtain ⟨hx, hn1, hn2, hn3⟩ := hg rfl
    simp only [List.length_drop] at hn2
    by_cases hx2 : most < x
    · have hd : rdU l k most = (0, k, 3) := by unfold rdU; rw [hr]; dsimp only; rw [if_neg (by simp), if_pos hx2]
      rw [hd]
      dsimp only
      have hle2 : decide (x ≤ most) = false := by simp; omega
      clear hr hd
      go_enter Tryd.func23, Tryd.ntmps23
      go_wp2_with fail
      refine (reader_over _ _ _ _ _ hR).mono ?_
      rintro e w1 ⟨rfl, rfl⟩
      go_wp2_with fail
      refine Ord.wp_region_ord [(0, false), (1, false), (2, false), (3, false), (4, false), (5, false), (6, false), (7, false), (8, false), (9, true), (10, false), (11, false), (12, false), (13, false), (14, false), (15, false), (16, false)] (by kernel_rfl) rfl (by kernel_rfl) (by kernel_rfl) (fun _ _ _ d _ h => by cases d <;> exact h) ?_
      refine Ord.ord_still rfl rfl (by kernel_rfl) (fun K hK => ?_)
      go_big_quiet_op
      refine hK _ ?_; clear hK K
      refine Ord.ord_still rfl rfl (by kernel_rfl) (fun K hK => ?_)
      go_big_quiet_op
      refine hK _ ?_; clear hK K
      refine Ord.ord_still rfl rfl (by kernel_rfl) (fun K hK => ?_)
      go_big_quiet_op
      refine hK _ ?_; clear hK K
      refine Ord.ord_still rfl rfl (by kernel_rfl) (fun K hK => ?_)
      go_big_quiet_op
      refine hK _ ?_; clear hK K
      refine Ord.ord_still rfl rfl (by kernel_rfl) (fun K hK => ?_)
      go_big_quiet_op
      refine hK _ ?_; clear hK K
      refine Ord.ord_still rfl rfl (by kernel_rfl) (fun K hK => ?_)
      go_big_quiet_op
      refine hK _ ?_; clear hK K
      refine Ord.ord_still rfl rfl (by kernel_rfl) (fun K hK => ?_)
      go_big_quiet_op
      refine hK _ ?_; clear hK K
      refine Ord.ord_still rfl rfl (by kernel_rfl) (fun K hK => ?_)
      go_big_quiet_op
      refine hK _ ?_; clear hK K
      refine Ord.ord_still rfl rfl (by kernel_rfl) (fun K hK => ?_)
      go_big_quiet_op
      refine hK _ ?_; clear hK K
      refine Ord.ord_loud rfl (by kernel_rfl) (fun K hK => ?_)
      go_big_op
      refine (wire_GetUint _ _ _ (hrd _ (hR.rd.drew))).mono ?_
      rintro e w1 ⟨rfl, rfl⟩
      rw [HU.out]
      refine hK _ _ (Ord.Grew.refl _) ?_
      clear hK K
      refine Ord.ord_still rfl rfl (by kernel_rfl) (fun K hK => ?_)
      go_big_quiet_op
      refine hK _ ?_; clear hK K
      refine Ord.ord_still rfl rfl (by kernel_rfl) (fun K hK => ?_)
      go_big_quiet_op
      refine hK _ ?_; clear hK K
      refine Ord.ord_still rfl rfl (by kernel_rfl) (fun K hK => ?_)
      go_big_quiet_op
      refine hK _ ?_; clear hK K
      refine Ord.ord_still rfl rfl (by kernel_rfl) (fun K hK => ?_)
      go_big_quiet_op
      refine hK _ ?_; clear hK K
      refine Ord.ord_still rfl rfl (by kernel_rfl) (fun K hK => ?_)
      go_big_quiet_op
      refine hK _ ?_; clear hK K
      refine Ord.ord_still rfl rfl (by kernel_rfl) (fun K hK => ?_)
      go_big_quiet_op
      refine hK _ ?_; clear hK K
      refine Ord.ord_still rfl rfl (by kernel_rfl) (fun K hK => ?_)
      go_big_quiet_op
      refine hK _ ?_; clear hK K
      refine Ord.ord_nil ?_
      clear c0 c1
      go_wp2_with fail
      refine (reader_Must_ok _ _ _).mono ?_
      rintro e w2 ⟨rfl, rfl⟩
      go_wp2_with fail
      refine (reader_Must_no g v l k _ hR0 3 (by decide)).mono ?_
      rintro e w2 ⟨rfl, hg2, hE⟩
      clear hR hR0
      go_wp2
      exact ⟨rfl, (grown_drew _ _).trans hg2, .inr ⟨by decide, rfl, hE⟩⟩
    · have hd : rdU l k most = (x, k + n, 0) := by unfold rdU; rw [hr]; dsimp only; rw [if_neg (by simp), if_neg hx2]
      rw [hd]
      dsimp only
      have hle2 : decide (x ≤ most) = true := by simp; omega
      clear hr hd
      have hS := hR0.set (n := k + n) (by omega)
      have hgs : w.grownBy (w.drew.setCell ⟨g, 1, none⟩ (.int .i64 ((k + n : Nat) : Int))) (some g) := grown_setCell (grown_drew _ _) _
      have d1 := hR0.cell1
      have f1 := hR0.free 1
      have HS := Lib.hid hS
      have HG := Lib.hid hgs
      clear hS hgs
      rw [show ((k + n : Nat) : Int) = (k : Int) + (n : Int) from by omega] at *
      go_enter Tryd.func23, Tryd.ntmps23
      go_wp2_with fail
      refine (reader_over _ _ _ _ _ hR).mono ?_
      rintro e w1 ⟨rfl, rfl⟩
      go_wp2_with fail
      refine Ord.wp_region_ord [(0, false), (1, false), (2, false), (3, false), (4, false), (5, false), (6, false), (7, false), (8, false), (9, true), (10, false), (11, false), (12, false), (13, false), (14, false), (15, false), (16, false)] (by kernel_rfl) rfl (by kernel_rfl) (by kernel_rfl) (fun _ _ _ d _ h => by cases d <;> exact h) ?_
      refine Ord.ord_still rfl rfl (by kernel_rfl) (fun K hK => ?_)
      go_big_quiet_op
      refine hK _ ?_; clear hK K
      refine Ord.ord_still rfl rfl (by kernel_rfl) (fun K hK => ?_)
      go_big_quiet_op
      refine hK _ ?_; clear hK K
      refine Ord.ord_still rfl rfl (by kernel_rfl) (fun K hK => ?_)
      go_big_quiet_op
      refine hK _ ?_; clear hK K
      refine Ord.ord_still rfl rfl (by kernel_rfl) (fun K hK => ?_)
      go_big_quiet_op
      refine hK _ ?_; clear hK K
      refine Ord.ord_still rfl rfl (by kernel_rfl) (fun K hK => ?_)
      go_big_quiet_op
      refine hK _ ?_; clear hK K
      refine Ord.ord_still rfl rfl (by kernel_rfl) (fun K hK => ?_)
      go_big_quiet_op
      refine hK _ ?_; clear hK K
      refine Ord.ord_still rfl rfl (by kernel_rfl) (fun K hK => ?_)
      go_big_quiet_op
      refine hK _ ?_; clear hK K
      refine Ord.ord_still rfl rfl (by kernel_rfl) (fun K hK => ?_)
      go_big_quiet_op
      refine hK _ ?_; clear hK K
      refine Ord.ord_still rfl rfl (by kernel_rfl) (fun K hK => ?_)
      go_big_quiet_op
      refine hK _ ?_; clear hK K
      refine Ord.ord_loud rfl (by kernel_rfl) (fun K hK => ?_)
      go_big_op
      refine (wire_GetUint _ _ _ (hrd _ (hR.rd.drew))).mono ?_
      rintro e w1 ⟨rfl, rfl⟩
      rw [HU.out]
      refine hK _ _ (Ord.Grew.refl _) ?_
      clear hK K
      refine Ord.ord_still rfl rfl (by kernel_rfl) (fun K hK => ?_)
      go_big_quiet_op
      refine hK _ ?_; clear hK K
      refine Ord.ord_still rfl rfl (by kernel_rfl) (fun K hK => ?_)
      go_big_quiet_op
      refine hK _ ?_; clear hK K
      refine Ord.ord_still rfl rfl (by kernel_rfl) (fun K hK => ?_)
      go_big_quiet_op
      refine hK _ ?_; clear hK K
      refine Ord.ord_still rfl rfl (by kernel_rfl) (fun K hK => ?_)
      go_big_quiet_op
      refine hK _ ?_; clear hK K
      refine Ord.ord_still rfl rfl (by kernel_rfl) (fun K hK => ?_)
      go_big_quiet_op
      refine hK _ ?_; clear hK K
      refine Ord.ord_still rfl rfl (by kernel_rfl) (fun K hK => ?_)
      go_big_quiet_op
      refine hK _ ?_; clear hK K
      refine Ord.ord_still rfl rfl (by kernel_rfl) (fun K hK => ?_)
      go_big_quiet_op
      refine hK _ ?_; clear hK K
      refine Ord.ord_nil ?_
      clear c0 c1
      go_wp2_with fail
      refine (reader_Must_ok _ _ _).mono ?_
      rintro e w2 ⟨rfl, rfl⟩
      go_wp2_with fail
      refine (reader_Must_ok _ _ _).mono ?_
      rintro e w2 ⟨rfl, rfl⟩
      clear hR hR0
      go_wp2
      go_ret
      exact ⟨HG.out, .inl ⟨rfl, rfl, HS.out⟩⟩
  · have hd : rdU l k most = (0, k, er) := by unfold rdU; rw [hr]; dsimp only; rw [if_pos he]
    rw [hd]
    dsimp only
    have hne' : ((er : Int) == 0) = false := by simp; omega
    clear hr hd
    go_enter Tryd.func23, Tryd.ntmps23
    go_wp2_with fail
    refine (reader_over _ _ _ _ _ hR).mono ?_
    rintro e w1 ⟨rfl, rfl⟩
    go_wp2_with fail
    refine Ord.wp_region_ord [(0, false), (1, false), (2, false), (3, false), (4, false), (5, false), (6, false), (7, false), (8, false), (9, true), (10, false), (11, false), (12, false), (13, false), (14, false), (15, false), (16, false)] (by kernel_rfl) rfl (by kernel_rfl) (by kernel_rfl) (fun _ _ _ d _ h => by cases d <;> exact h) ?_
    refine Ord.ord_still rfl rfl (by kernel_rfl) (fun K hK => ?_)
    go_big_quiet_op
    refine hK _ ?_; clear hK K
    refine Ord.ord_still rfl rfl (by kernel_rfl) (fun K hK => ?_)
    go_big_quiet_op
    refine hK _ ?_; clear hK K
    refine Ord.ord_still rfl rfl (by kernel_rfl) (fun K hK => ?_)
    go_big_quiet_op
    refine hK _ ?_; clear hK K
    refine Ord.ord_still rfl rfl (by kernel_rfl) (fun K hK => ?_)
    go_big_quiet_op
    refine hK _ ?_; clear hK K
    refine Ord.ord_still rfl rfl (by kernel_rfl) (fun K hK => ?_)
    go_big_quiet_op
    refine hK _ ?_; clear hK K
    refine Ord.ord_still rfl rfl (by kernel_rfl) (fun K hK => ?_)
    go_big_quiet_op
    refine hK _ ?_; clear hK K
    refine Ord.ord_still rfl rfl (by kernel_rfl) (fun K hK => ?_)
    go_big_quiet_op
    refine hK _ ?_; clear hK K
    refine Ord.ord_still rfl rfl (by kernel_rfl) (fun K hK => ?_)
    go_big_quiet_op
    refine hK _ ?_; clear hK K
    refine Ord.ord_still rfl rfl (by kernel_rfl) (fun K hK => ?_)
    go_big_quiet_op
    refine hK _ ?_; clear hK K
    refine Ord.ord_loud rfl (by kernel_rfl) (fun K hK => ?_)
    go_big_op
    refine (wire_GetUint _ _ _ (hrd _ (hR.rd.drew))).mono ?_
    rintro e w1 ⟨rfl, rfl⟩
    rw [HU.out]
    refine hK _ _ (Ord.Grew.refl _) ?_
    clear hK K
    refine Ord.ord_still rfl rfl (by kernel_rfl) (fun K hK => ?_)
    go_big_quiet_op
    refine hK _ ?_; clear hK K
    refine Ord.ord_still rfl rfl (by kernel_rfl) (fun K hK => ?_)
    go_big_quiet_op
    refine hK _ ?_; clear hK K
    refine Ord.ord_still rfl rfl (by kernel_rfl) (fun K hK => ?_)
    go_big_quiet_op
    refine hK _ ?_; clear hK K
    refine Ord.ord_still rfl rfl (by kernel_rfl) (fun K hK => ?_)
    go_big_quiet_op
    refine hK _ ?_; clear hK K
    refine Ord.ord_still rfl rfl (by kernel_rfl) (fun K hK => ?_)
    go_big_quiet_op
    refine hK _ ?_; clear hK K
    refine Ord.ord_still rfl rfl (by kernel_rfl) (fun K hK => ?_)
    go_big_quiet_op
    refine hK _ ?_; clear hK K
    refine Ord.ord_still rfl rfl (by kernel_rfl) (fun K hK => ?_)
    go_big_quiet_op
    refine hK _ ?_; clear hK K
    refine Ord.ord_nil ?_
    clear c0 c1
    go_wp2_with fail
    refine (reader_Must_no g v l k _ hR0 er he).mono ?_
    rintro e w2 ⟨rfl, hg2, hE⟩
    clear hR hR0
    go_wp2
    exact ⟨rfl, (grown_drew _ _).trans hg2, .inr ⟨he, rfl, hE⟩⟩

theorem rdInt {l : List UInt8} {k : Nat} : (rdU l k 18446744073709551615).1 < 2 ^ 64 := by
  unfold rdU
  split
  · simp
  · split
    · simp
    · rename_i h _
      exact (getU_good _ (Decidable.of_not_not h)).1

theorem reader_Int (g : Nat) (v : Value) (l : List UInt8) (k : Nat) (w : World) (hR : Rdr w g v l k) :
    Calls Tryd.prog 26 #[.pointer (some ⟨g, 0, none⟩)] w (Reads w g v l (.int .i64 (zag (rdU l k 18446744073709551615).1)) (rdU l k 18446744073709551615).2.1 (rdU l k 18446744073709551615).2.2) := by
  have hx := rdInt (l := l) (k := k)
  rcases hr : rdU l k 18446744073709551615 with ⟨x, n, er⟩
  rw [hr] at hx
  dsimp only at hx ⊢
  have HR := Lib.hid hr
  clear hr
  go_enter Tryd.func26, Tryd.ntmps26
  go_wp2_with fail
  refine (reader_Uint g v l k _ hR 18446744073709551615 (by decide)).mono ?_
  rw [HR.out]
  dsimp only
  rintro e w1 h
  by_cases he : er = 0
  · obtain ⟨rfl, hg1, hR1⟩ := h.ok he
    go_wp2_with fail
    refine (wire_Zag (x : Int) (by omega) (by omega) _).mono ?_
    rintro e w2 ⟨rfl, rfl⟩
    go_wp2
    go_ret
    exact ⟨hg1, .inl ⟨he, rfl, hR1⟩⟩
  · obtain ⟨rfl, hg1, hR1⟩ := h.no he
    go_wp2
    exact ⟨rfl, hg1, .inr ⟨he, rfl, hR1⟩⟩

/-- .. and bytes of the call's own. -/
def ReadsB (w : World) (g : Nat) (v : Value) (l : List UInt8) (r : List UInt8 × Nat × Nat) (e : Ending) (w' : World) : Prop :=
  ∃ val, Reads w g v l val r.2.1 r.2.2 e w' ∧ (r.2.2 = 0 → Own w' w.heap.size val r.1)

set_option maxHeartbeats 1000000 in
set_option maxRecDepth 1000000 in
theorem reader_Bytes (g : Nat) (v : Value) (l : List UInt8) (k : Nat) (w : World) (hR : Rdr w g v l k) (most : Int) (hm : -9223372036854775808 ≤ most ∧ most ≤ 9223372036854775807) :
    Calls Tryd.prog 88 #[.pointer (some ⟨g, 0, none⟩), .int .i64 most] w (ReadsB w g v l (rdB l k most)) := by
  have hsm := hR.rd.small
  have hle := hR.le
  have hR0 := hR.drew
  have c0 : ∀ x : Ord.GW w.drew, x.val.cell? ⟨g, 0, none⟩ = some v := fun x => (hR0.later x.grew (Nat.le_refl _)).cell0
  have c1 : ∀ x : Ord.GW w.drew, x.val.cell? ⟨g, 1, none⟩ = some (.int .i64 k) := fun x => (hR0.later x.grew (Nat.le_refl _)).cell1
  obtain ⟨vb, hsl, hrd⟩ := hR.rd.from k hle
  have hg := getB_good (l.drop k) most
  rcases hr : getB (l.drop k) most with ⟨x, n, er⟩
  rw [hr] at hg
  dsimp only at hg
  obtain ⟨hn2, hn3, _⟩ := hg
  simp only [List.length_drop] at hn2
  have HU := Lib.hid hr
  by_cases he : er = 0
  · subst he
    have hd : rdB l k most = (x, k + n, 0) := by unfold rdB; rw [hr]; dsimp only; rw [if_neg (by simp)]
    rw [hd]
    clear hr hd
    go_enter Tryd.func88, Tryd.ntmps88
    go_wp2_with fail
    refine (reader_over _ _ _ _ _ hR).mono ?_
    rintro e w1 ⟨rfl, rfl⟩
    go_wp2_with fail
    refine Ord.wp_region_ord [(0, false), (1, false), (2, false), (3, false), (4, false), (5, false), (6, false), (7, false), (8, false), (9, false), (10, true), (11, false), (12, false), (13, false), (14, false), (15, false), (16, false), (17, false)] (by kernel_rfl) rfl (by kernel_rfl) (by kernel_rfl) (fun _ _ _ d _ h => by cases d <;> exact h) ?_
    refine Ord.ord_still rfl rfl (by kernel_rfl) (fun K hK => ?_)
    go_big_quiet_op
    refine hK _ ?_; clear hK K
    refine Ord.ord_still rfl rfl (by kernel_rfl) (fun K hK => ?_)
    go_big_quiet_op
    refine hK _ ?_; clear hK K
    refine Ord.ord_still rfl rfl (by kernel_rfl) (fun K hK => ?_)
    go_big_quiet_op
    refine hK _ ?_; clear hK K
    refine Ord.ord_still rfl rfl (by kernel_rfl) (fun K hK => ?_)
    go_big_quiet_op
    refine hK _ ?_; clear hK K
    refine Ord.ord_still rfl rfl (by kernel_rfl) (fun K hK => ?_)
    go_big_quiet_op
    refine hK _ ?_; clear hK K
    refine Ord.ord_still rfl rfl (by kernel_rfl) (fun K hK => ?_)
    go_big_quiet_op
    refine hK _ ?_; clear hK K
    refine Ord.ord_still rfl rfl (by kernel_rfl) (fun K hK => ?_)
    go_big_quiet_op
    refine hK _ ?_; clear hK K
    refine Ord.ord_still rfl rfl (by kernel_rfl) (fun K hK => ?_)
    go_big_quiet_op
    refine hK _ ?_; clear hK K
    refine Ord.ord_still rfl rfl (by kernel_rfl) (fun K hK => ?_)
    go_big_quiet_op
    refine hK _ ?_; clear hK K
    refine Ord.ord_still rfl rfl (by kernel_rfl) (fun K hK => ?_)
    go_big_quiet_op
    refine hK _ ?_; clear hK K
    refine Ord.ord_loud rfl (by kernel_rfl) (fun K hK => ?_)
    go_big_op
    refine (wire_GetBytes _ _ most hm.1 hm.2 _ (hrd _ (hR.rd.drew))).mono ?_
    rintro e w1 ⟨v1, rfl, ho1, hb1⟩
    rw [HU.out] at ho1 ⊢
    dsimp only at ho1 ⊢
    refine hK _ _ hb1 ?_
    clear hK K
    refine Ord.ord_still rfl rfl (by kernel_rfl) (fun K hK => ?_)
    go_big_quiet_op
    refine hK _ ?_; clear hK K
    refine Ord.ord_still rfl rfl (by kernel_rfl) (fun K hK => ?_)
    go_big_quiet_op
    refine hK _ ?_; clear hK K
    refine Ord.ord_still rfl rfl (by kernel_rfl) (fun K hK => ?_)
    go_big_quiet_op
    refine hK _ ?_; clear hK K
    refine Ord.ord_still rfl rfl (by kernel_rfl) (fun K hK => ?_)
    go_big_quiet_op
    refine hK _ ?_; clear hK K
    refine Ord.ord_still rfl rfl (by kernel_rfl) (fun K hK => ?_)
    go_big_quiet_op
    refine hK _ ?_; clear hK K
    refine Ord.ord_still rfl rfl (by kernel_rfl) (fun K hK => ?_)
    go_big_quiet_op
    refine hK _ ?_; clear hK K
    refine Ord.ord_still rfl rfl (by kernel_rfl) (fun K hK => ?_)
    go_big_quiet_op
    refine hK _ ?_; clear hK K
    refine Ord.ord_nil ?_
    clear c0 c1
    go_wp2_with fail
    refine (reader_Must_ok _ _ _).mono ?_
    rintro e w2 ⟨rfl, rfl⟩
    have hR1 := hR0.later hb1 (Nat.le_refl _)
    have hS := hR1.set (n := k + n) (by omega)
    have hgs : w.grownBy (w1.setCell ⟨g, 1, none⟩ (.int .i64 ((k + n : Nat) : Int))) (some g) := grown_setCell ((grown_drew w _).trans (below_grown hb1 _)) _
    have hO : Own (w1.setCell ⟨g, 1, none⟩ (.int .i64 ((k + n : Nat) : Int))) w.heap.size v1 x := ownsRow_setCell_below ho1 (a := ⟨g, 1, none⟩) hR.lt _
    have d1 := hR1.cell1
    have f1 := hR1.free 1
    have HS := Lib.hid hS
    have HG := Lib.hid hgs
    clear hS hgs hR hR0 hR1 ho1 hb1
    rw [show ((k + n : Nat) : Int) = (k : Int) + (n : Int) from by omega] at *
    go_wp2
    go_ret
    exact ⟨_, ⟨HG.out, .inl ⟨rfl, rfl, HS.out⟩⟩, fun _ => hO⟩
  · have hd : rdB l k most = ([], k, er) := by unfold rdB; rw [hr]; dsimp only; rw [if_pos he]
    rw [hd]
    have hne : ((er : Int) == 0) = false := by simp; omega
    clear hr hd
    go_enter Tryd.func88, Tryd.ntmps88
    go_wp2_with fail
    refine (reader_over _ _ _ _ _ hR).mono ?_
    rintro e w1 ⟨rfl, rfl⟩
    go_wp2_with fail
    refine Ord.wp_region_ord [(0, false), (1, false), (2, false), (3, false), (4, false), (5, false), (6, false), (7, false), (8, false), (9, false), (10, true), (11, false), (12, false), (13, false), (14, false), (15, false), (16, false), (17, false)] (by kernel_rfl) rfl (by kernel_rfl) (by kernel_rfl) (fun _ _ _ d _ h => by cases d <;> exact h) ?_
    refine Ord.ord_still rfl rfl (by kernel_rfl) (fun K hK => ?_)
    go_big_quiet_op
    refine hK _ ?_; clear hK K
    refine Ord.ord_still rfl rfl (by kernel_rfl) (fun K hK => ?_)
    go_big_quiet_op
    refine hK _ ?_; clear hK K
    refine Ord.ord_still rfl rfl (by kernel_rfl) (fun K hK => ?_)
    go_big_quiet_op
    refine hK _ ?_; clear hK K
    refine Ord.ord_still rfl rfl (by kernel_rfl) (fun K hK => ?_)
    go_big_quiet_op
    refine hK _ ?_; clear hK K
    refine Ord.ord_still rfl rfl (by kernel_rfl) (fun K hK => ?_)
    go_big_quiet_op
    refine hK _ ?_; clear hK K
    refine Ord.ord_still rfl rfl (by kernel_rfl) (fun K hK => ?_)
    go_big_quiet_op
    refine hK _ ?_; clear hK K
    refine Ord.ord_still rfl rfl (by kernel_rfl) (fun K hK => ?_)
    go_big_quiet_op
    refine hK _ ?_; clear hK K
    refine Ord.ord_still rfl rfl (by kernel_rfl) (fun K hK => ?_)
    go_big_quiet_op
    refine hK _ ?_; clear hK K
    refine Ord.ord_still rfl rfl (by kernel_rfl) (fun K hK => ?_)
    go_big_quiet_op
    refine hK _ ?_; clear hK K
    refine Ord.ord_still rfl rfl (by kernel_rfl) (fun K hK => ?_)
    go_big_quiet_op
    refine hK _ ?_; clear hK K
    refine Ord.ord_loud rfl (by kernel_rfl) (fun K hK => ?_)
    go_big_op
    refine (wire_GetBytes _ _ most hm.1 hm.2 _ (hrd _ (hR.rd.drew))).mono ?_
    rintro e w1 ⟨v1, rfl, ho1, hb1⟩
    rw [HU.out] at ho1 ⊢
    dsimp only at ho1 ⊢
    refine hK _ _ hb1 ?_
    clear hK K
    refine Ord.ord_still rfl rfl (by kernel_rfl) (fun K hK => ?_)
    go_big_quiet_op
    refine hK _ ?_; clear hK K
    refine Ord.ord_still rfl rfl (by kernel_rfl) (fun K hK => ?_)
    go_big_quiet_op
    refine hK _ ?_; clear hK K
    refine Ord.ord_still rfl rfl (by kernel_rfl) (fun K hK => ?_)
    go_big_quiet_op
    refine hK _ ?_; clear hK K
    refine Ord.ord_still rfl rfl (by kernel_rfl) (fun K hK => ?_)
    go_big_quiet_op
    refine hK _ ?_; clear hK K
    refine Ord.ord_still rfl rfl (by kernel_rfl) (fun K hK => ?_)
    go_big_quiet_op
    refine hK _ ?_; clear hK K
    refine Ord.ord_still rfl rfl (by kernel_rfl) (fun K hK => ?_)
    go_big_quiet_op
    refine hK _ ?_; clear hK K
    refine Ord.ord_still rfl rfl (by kernel_rfl) (fun K hK => ?_)
    go_big_quiet_op
    refine hK _ ?_; clear hK K
    refine Ord.ord_nil ?_
    clear c0 c1
    go_wp2_with fail
    refine (reader_Must_no g v l k _ (hR0.later hb1 (Nat.le_refl _)) er he).mono ?_
    rintro e w2 ⟨rfl, hg2, hE⟩
    clear hR hR0
    go_wp2
    exact ⟨rfl, .slice none 0 0, ⟨((grown_drew w _).trans (below_grown hb1 _)).trans hg2, .inr ⟨he, rfl, hE⟩⟩, fun h => absurd h he⟩

end Go.Proofs.YtedfcnlhdicipaaDoor
