/-
  Byte slices: how a slice value reads as a list of bytes (Rd), and how a call owns one that it has made (Own); what the operations on them do.
-/
import Derived.Test.YtokpphhmmcoeaaaGreatDoorProg
import Derived.WalkKit
import Derived.WalkSpells
import Derived.WalkLawsBesides
import Derived.Laws.CopyOwn
import Derived.Laws.AppendOwnNone
import Derived.Lib.Hide
import Derived.BigQuiet
import Derived.Test.YtokpphhmmcoeaaaGreatDoorRows
import Derived.ProofKit
import Derived.OpenShut
import Derived.ShutString
import Derived.ChangeOld
import Derived.SizedLaws
import Derived.Lib.Strings
import Derived.Below
set_option linter.unusedVariables false
set_option linter.unusedSimpArgs false
set_option maxRecDepth 1000000
namespace Go.Proofs.YtokpphhmmcoeaaaGreatDoor
open Go.RowKit

/-- The cell of a byte. -/
def cellB (b : UInt8) : Value := .int .u8 (b.toNat : Int)
/-- The cells of a list of bytes. -/
def cellsB (l : List UInt8) : List Value := l.map cellB
/-- The number at place i of a list of bytes. -/
def at8 (l : List UInt8) (i : Nat) : Int := ((l.getD i 0).toNat : Int)
/-- The address of a slice value's place i. -/
def adr : Value → Nat → Addr
  | .slice (some a) _ _, i => a.add i
  | _, _ => default

theorem at8_lo (l : List UInt8) (i : Nat) : 0 ≤ at8 l i := by unfold at8; omega
theorem at8_hi (l : List UInt8) (i : Nat) : at8 l i ≤ 255 := by
  unfold at8; have := (l.getD i 0).toNat_lt; omega
theorem at8_eq {l : List UInt8} {i : Nat} (h : i < l.length) : at8 l i = (l[i].toNat : Int) := by
  unfold at8; simp [List.getD, h]
theorem cellsB_length (l : List UInt8) : (cellsB l).length = l.length := by simp [cellsB]
theorem cellsB_append (l m : List UInt8) : cellsB (l ++ m) = cellsB l ++ cellsB m := by simp [cellsB]
theorem cellsB_one (l : List UInt8) : ∀ u ∈ cellsB l, u.oneCell' = true := by
  intro u hu
  obtain ⟨_, _, rfl⟩ := List.mem_map.1 hu
  rfl
theorem cellsB_get {l : List UInt8} {i : Nat} {u : Value} (h : (cellsB l)[i]? = some u) : i < l.length ∧ u = .int .u8 (at8 l i) := by
  have hi : i < l.length := by
    have := (List.getElem?_eq_some_iff.1 h).1
    simpa [cellsB] using this
  refine ⟨hi, ?_⟩
  rw [at8_eq hi]
  simp [cellsB, hi] at h
  exact h.symm
theorem cellsB_at {l : List UInt8} {i : Nat} (hi : i < l.length) : (cellsB l)[i]? = some (.int .u8 (at8 l i)) := by
  rw [at8_eq hi]; simp [cellsB, hi, cellB]

/-- The slice value v reads as the bytes l in the world w. -/
structure Rd (w : World) (v : Value) (l : List UInt8) : Prop where
  shape : ∃ ao cap, v = .slice ao l.length cap ∧ l.length ≤ cap ∧ (ao = none → cap = 0) ∧ (0 < l.length → ∃ b o, ao = some ⟨b, o, none⟩)
  cells : ∀ i, i < l.length → w.cell? (adr v i) = some (.int .u8 (at8 l i))
  small : l.length ≤ 140737488351232

/-- The slice value v is one that was made from block number base on: nobody else writes to it; it reads as l. -/
def Own (w : World) (base : Nat) (v : Value) (l : List UInt8) : Prop := w.ownsRow base 5 1 v l.length (cellsB l)

theorem Rd.block {w : World} {v : Value} {l : List UInt8} (h : Rd w v l) {i : Nat} (hi : i < l.length) : (adr v i).block < w.heap.size :=
  World.block_lt_of_cell? w _ (h.cells i hi)

theorem adr_block {w : World} {v : Value} {l : List UInt8} (h : Rd w v l) (i j : Nat) (hj : j < l.length) : (adr v i).block = (adr v j).block := by
  obtain ⟨⟨ao, cap, rfl, _, _, hp⟩, _, _⟩ := h
  obtain ⟨b, o, rfl⟩ := hp (by omega)
  simp [adr, Addr.add]; split <;> split <;> rfl

/-- What reads in an elder world reads in one that has grown. -/
theorem Rd.later {w w' : World} {v : Value} {l : List UInt8} (h : Rd w v l) {B : Nat} (hb : Below B w w') (hB : w.heap.size ≤ B) : Rd w' v l :=
  ⟨h.shape, fun i hi => by rw [hb.cell (Nat.lt_of_lt_of_le (h.block hi) hB)]; exact h.cells i hi, h.small⟩

theorem Rd.drew {w : World} {v : Value} {l : List UInt8} (h : Rd w v l) : Rd w.drew v l := ⟨h.shape, h.cells, h.small⟩

theorem Rd.alloc {w : World} {v : Value} {l : List UInt8} (h : Rd w v l) (o : Obj) : Rd (w.alloc o) v l :=
  h.later ((Below.refl w.heap.size w).alloc (Nat.le_refl _) o) (Nat.le_refl _)

theorem Rd.nil (w : World) : Rd w (.slice none 0 0) [] :=
  ⟨⟨none, 0, rfl, Nat.le_refl _, fun _ => rfl, fun h => absurd h (by simp)⟩, fun i hi => absurd hi (by simp), by simp⟩

/-- What is owned is read. -/
theorem Own.rd {w : World} {base : Nat} {v : Value} {l : List UInt8} (h : Own w base v l) (hs : l.length ≤ 140737488351232) : Rd w v l := by
  have hc := fun g => World.ownsRow.cells (g := g) h
  obtain ⟨_, h2⟩ := h
  rcases h2 with ⟨rfl, hn⟩ | ⟨g, cap, cur, rfl, _, hg, hn, hm, _⟩
  · have : l = [] := List.eq_nil_of_length_eq_zero hn
    subst this; exact Rd.nil w
  · refine ⟨⟨_, cap, rfl, hn, (by intro h; cases h), fun _ => ⟨g, 0, rfl⟩⟩, fun i hi => ?_, hs⟩
    exact hc g rfl i _ (cellsB_at hi)

theorem Own.later {w w' : World} {base B : Nat} {v : Value} {l : List UInt8} (h : Own w base v l) (hb : Below B w w') (hB : w.heap.size ≤ B) : Own w' base v l := by
  refine ⟨h.1, ?_⟩
  rcases h.2 with h2 | ⟨g, cap, cur, rfl, hbg, hg, r⟩
  · exact .inl h2
  · refine .inr ⟨g, cap, cur, rfl, hbg, ?_, r⟩
    rw [hb.block g (Nat.lt_of_lt_of_le (Array.getElem?_eq_some_iff.1 hg).1 hB)]; exact hg

theorem Own.base {w : World} {base base' : Nat} {v : Value} {l : List UInt8} (h : Own w base v l) (hb : base' ≤ base) : Own w base' v l := by
  refine ⟨h.1, ?_⟩
  rcases h.2 with h2 | ⟨g, cap, cur, rfl, hbg, r⟩
  · exact .inl h2
  · exact .inr ⟨g, cap, cur, rfl, Nat.le_trans hb hbg, r⟩

/-- The length of a slice that reads. -/
theorem Rd.len {w : World} {v : Value} {l : List UInt8} (h : Rd w v l) : ∀ u, (Builtin.len_ #[84] 3 #[v]).run Tryz.prog u = .ok (.int .i64 (l.length : Int)) u := by
  intro u
  obtain ⟨⟨ao, cap, rfl, _⟩, _, _⟩ := h
  exact run_len_slice u _ _ ao _ _ Tryz.underlying84

/-- The address of a place of a slice that reads. -/
theorem Rd.idx {w : World} {v : Value} {l : List UInt8} (h : Rd w v l) (i : Nat) (hi : i < l.length) : ∀ u, (Instr.indexAt 84 v (.int .i64 (i : Int))).run Tryz.prog u = .ok (.pointer (some (adr v i))) u := by
  intro u
  obtain ⟨⟨ao, cap, rfl, _, _, hp⟩, _, _⟩ := h
  obtain ⟨b, o, rfl⟩ := hp (by omega)
  have := run_indexAt_slice (P := Tryz.prog) u 84 ⟨b, o, none⟩ l.length cap .i64 i Tryz.underlying84
  rw [this, if_pos ⟨by omega, by omega⟩]
  simp [go_sem, Result.andThen, adr]

theorem size_u8 : (Tryz.prog.info? 5).map (·.size) = some 1 := by kernel_rfl
theorem info_u8 : (Tryz.prog.info? 5).map (fun i => (i.zero, i.size, i.bytes)) = some (some (.int .u8 0), 1, 1) := by kernel_rfl

theorem splice_cellsB (cur l : List UInt8) (off : Nat) : splice (cellsB cur) off (cellsB l) = cellsB (splice cur off l) := by
  simp [splice, cellsB]

/-- 'copy(d, s)': all of s, which reads as l, over the bytes of a block that is known whole. -/
theorem wpl_copy {ops : Array Oper} {Q : Exit → Act → World → Prop} {rest : List Oper} {a : Act} {w : World} {dst : Option Tmp} {ty : TypeId} {pos : String} {aft : Array Edge} {d s : Operand}
    (dp : Option Addr) (dLen dCap : Nat) (hd : a.eval d = .slice dp dLen dCap) (sv : Value) (l : List UInt8) (hs : a.eval s = sv) (hR : Rd w sv l) (hn : l.length ≤ dLen)
    (g off : Nat) (cur : List UInt8) (hg : w.heap[g]? = some (.cells (cellsB cur).toArray 5 (0, 0))) (hdp : 0 < l.length → dp = some ⟨g, off, none⟩) (hfit : off + l.length ≤ cur.length)
    (B : Nat) (w0 : World) (hb : Below B w0 w) (hBg : B ≤ g)
    (h : ∀ w', Hid (w'.heap[g]? = some (.cells (cellsB (splice cur off l)).toArray 5 (0, 0))) → Below B w0 w' → wpList Tryz.prog ops Q rest (a.put dst (.int .i64 (l.length : Int))) w') :
    wpList Tryz.prog ops Q (⟨dst, .call ⟨.builtin .copy, #[d, s], #[84, 84]⟩, ty, pos, aft, none⟩ :: rest) a w := by
  obtain ⟨⟨ao, cap, rfl, hcap, hnil, hsome⟩, hcel, _⟩ := hR
  refine wpList_copy_splice rfl d s 84 84 rfl 5 Tryz.underlying84 size_u8 dp ao dLen dCap l.length cap hd hs g off (cellsB cur) 5 hg (cellsB l) ?_ ?_ ?_ (cellsB_one l) B w0 hb hBg ?_
  · rw [cellsB_length]; exact (Nat.min_eq_left hn).symm
  · intro hp
    rw [cellsB_length] at hp
    obtain ⟨b, o, rfl⟩ := hsome hp
    refine ⟨hdp hp, _, rfl, fun j u hj => ?_⟩
    obtain ⟨hj1, rfl⟩ := cellsB_get hj
    exact hcel j hj1
  · simpa [cellsB_length] using hfit
  · intro w' hg' hb'
    rw [splice_cellsB] at hg'
    have := h w' hg' hb'
    simpa [goInt, cellsB_length] using this

/-- 'copy(d, s)' where d may be the shorter one. -/
theorem wpl_copy_part {ops : Array Oper} {Q : Exit → Act → World → Prop} {rest : List Oper} {a : Act} {w : World} {dst : Option Tmp} {ty : TypeId} {pos : String} {aft : Array Edge} {d s : Operand}
    (dp : Option Addr) (dLen dCap : Nat) (hd : a.eval d = .slice dp dLen dCap) (sv : Value) (l : List UInt8) (hs : a.eval s = sv) (hR : Rd w sv l) (hn : dLen ≤ l.length)
    (g off : Nat) (cur : List UInt8) (hg : w.heap[g]? = some (.cells (cellsB cur).toArray 5 (0, 0))) (hdp : 0 < dLen → dp = some ⟨g, off, none⟩) (hfit : off + dLen ≤ cur.length)
    (B : Nat) (w0 : World) (hb : Below B w0 w) (hBg : B ≤ g)
    (h : ∀ w', Hid (w'.heap[g]? = some (.cells (cellsB (splice cur off (l.take dLen))).toArray 5 (0, 0))) → Below B w0 w' → wpList Tryz.prog ops Q rest (a.put dst (.int .i64 (dLen : Int))) w') :
    wpList Tryz.prog ops Q (⟨dst, .call ⟨.builtin .copy, #[d, s], #[84, 84]⟩, ty, pos, aft, none⟩ :: rest) a w := by
  obtain ⟨⟨ao, cap, rfl, hcap, hnil, hsome⟩, hcel, _⟩ := hR
  have hlen : (l.take dLen).length = dLen := by simp; omega
  refine wpList_copy_splice rfl d s 84 84 rfl 5 Tryz.underlying84 size_u8 dp ao dLen dCap l.length cap hd hs g off (cellsB cur) 5 hg (cellsB (l.take dLen)) ?_ ?_ ?_ (cellsB_one _) B w0 hb hBg ?_
  · rw [cellsB_length, hlen]; exact (Nat.min_eq_right hn).symm
  · intro hp
    rw [cellsB_length, hlen] at hp
    obtain ⟨b, o, rfl⟩ := hsome (by omega)
    refine ⟨hdp hp, _, rfl, fun j u hj => ?_⟩
    obtain ⟨hj1, rfl⟩ := cellsB_get hj
    rw [hlen] at hj1
    have e : at8 (l.take dLen) j = at8 l j := by
      unfold at8; simp only [List.getD]; rw [List.getElem?_take_of_lt hj1]
    rw [e]
    exact hcel j (by omega)
  · rw [cellsB_length, cellsB_length, hlen]; exact hfit
  · intro w' hg' hb'
    rw [splice_cellsB] at hg'
    have := h w' hg' hb'
    rw [cellsB_length, hlen]
    exact this

/-- 'append(s, x...)': s the call's own, x any that reads. -/
theorem wpl_append {ops : Array Oper} {Q : Exit → Act → World → Prop} {rest : List Oper} {a : Act} {w : World} {dst : Option Tmp} {ty : TypeId} {pos : String} {aft : Array Edge} {s x : Operand}
    (base : Nat) (sv : Value) (m : List UInt8) (hs : a.eval s = sv) (ho : Own w base sv m) (xv : Value) (l : List UInt8) (hx : a.eval x = xv) (hR : Rd w xv l) (hn : m.length + l.length ≤ 140737488355328) (hbase : base ≤ w.heap.size)
    (B : Nat) (w0 : World) (hb : Below B w0 w) (hBb : B ≤ base)
    (h : ∀ v' w', Own w' base v' (m ++ l) → Below B w0 w' → w.grownBy w' sv.ownBlock → wpList Tryz.prog ops Q rest (a.put dst v') w') :
    wpList Tryz.prog ops Q (⟨dst, .call ⟨.builtin .append, #[s, x], #[84, 84]⟩, ty, pos, aft, none⟩ :: rest) a w := by
  obtain ⟨i0, hi, hz0, hz1, hz2⟩ := info_parts info_u8
  obtain ⟨⟨ao, cap, rfl, hcap, hnil, hsome⟩, hcel, _⟩ := hR
  cases ao with
  | none =>
    obtain rfl : cap = 0 := hnil rfl
    obtain rfl : l = [] := List.eq_nil_of_length_eq_zero (by omega)
    refine wpList_append_own_none rfl s x 84 rfl base 5 i0 1 Tryz.underlying84 hi sv m.length (cellsB m) hs ho (by simpa using hx) ?_
    exact h sv w (by simpa using ho) hb (World.grownBy.refl _ _)
  | some ad =>
    refine wpList_append_own w rfl s x 84 rfl base 5 i0 (.int .u8 0) 1 1 Tryz.underlying84 hi hz0 hz1 hz2 rfl (by decide) sv m.length (cellsB m) hs ho ad l.length cap (cellsB l) hx (by simp [cellsB_length]) ?_ (cellsB_one l) (by unfold maxLen; omega) (by omega) hbase ?_
    · intro j u hj
      obtain ⟨hj1, rfl⟩ := cellsB_get hj
      exact hcel j hj1
    · intro v' w' h1 h2 _
      refine h v' w' ?_ (hb.grown h2 (by omega) fun k hk => ?_) h2
      · rw [← cellsB_append] at h1; unfold Own; rw [List.length_append]; exact h1
      · exact Nat.le_trans hBb (World.ownsRow.lt ho k hk).1

/-- One byte, as the slice that append is handed. -/
theorem rd_one (w : World) (c : Int) (h0 : 0 ≤ c) (h1 : c ≤ 255) : Rd (w.alloc (.cells #[.int .u8 c] 5)) (.slice (some ⟨w.heap.size, 0, none⟩) 1 1) [UInt8.ofNat c.toNat] := by
  refine ⟨⟨_, 1, rfl, Nat.le_refl _, (by intro h; cases h), fun _ => ⟨_, _, rfl⟩⟩, fun i hi => ?_, by simp⟩
  obtain rfl : i = 0 := by simpa using hi
  have e : at8 [UInt8.ofNat c.toNat] 0 = c := by
    simp [at8]; omega
  rw [e]
  simp [adr, Addr.add]

/-- 's[lo:]': where it lies hangs on whether anything is left; the address under a name of its own. -/
theorem slice_from (ao : Option Addr) (n c lo : Nat) (h : lo ≤ n) (hc : n ≤ c) : ∃ dp, (∀ u, (Instr.slice 84 (.slice ao n c) (some (.int .i64 (lo : Int))) none none).run Tryz.prog u = .ok (.slice dp (n - lo) (c - lo)) u) ∧
    (∀ b o, ao = some ⟨b, o, none⟩ → lo < c → dp = some ⟨b, o + lo, none⟩) ∧ (ao = none → dp = none) := by
  refine ⟨if c = lo then ao else ao.map (·.add lo), fun u => ?_, fun b o h1 h2 => ?_, fun h1 => ?_⟩
  · rw [run_slice_l (P := Tryz.prog) u 84 ao n c Tryz.underlying84 .i64 lo (by omega) (by omega)]
    simp [go_sem, Result.andThen, sliced]
  · subst h1
    rw [if_neg (by omega)]
    simp [Addr.add]
  · subst h1; simp

/-- 's[lo:hi]' of a slice that reads. -/
theorem Rd.cut {w : World} {v : Value} {l : List UInt8} (h : Rd w v l) (lo hi : Nat) (h1 : lo ≤ hi) (h2 : hi ≤ l.length) :
    ∃ v', (∀ u, (Instr.slice 84 v (some (.int .i64 (lo : Int))) (some (.int .i64 (hi : Int))) none).run Tryz.prog u = .ok v' u) ∧ ∀ w', Rd w' v l → Rd w' v' ((l.take hi).drop lo) := by
  obtain ⟨⟨ao, cap, rfl, hcap, hnil, hsome⟩, hcel, hsm⟩ := h
  refine ⟨.slice (if cap = lo then ao else ao.map (·.add lo)) (hi - lo) (cap - lo), fun u => ?_, fun w' h' => ?_⟩
  · rw [run_slice_lh (P := Tryz.prog) u 84 ao l.length cap Tryz.underlying84 .i64 .i64 lo hi (by omega) (by omega) (by omega)]
    simp [go_sem, Result.andThen, sliced]
  · have hlen : ((l.take hi).drop lo).length = hi - lo := by simp; omega
    have hadr : ∀ b o, 0 < hi - lo → ao = some ⟨b, o, none⟩ → (if cap = lo then ao else ao.map (·.add lo)) = some ⟨b, o + lo, none⟩ := by
      intro b o hp he
      subst he
      rw [if_neg (by omega)]
      simp [Addr.add]
    refine ⟨⟨_, _, by rw [hlen], by rw [hlen]; omega, ?_, ?_⟩, ?_, by rw [hlen]; omega⟩
    · intro hn
      by_cases hc : cap = lo
      · omega
      · rw [if_neg hc] at hn
        have : ao = none := by cases ao <;> simp_all
        have := hnil this
        omega
    · intro hp
      rw [hlen] at hp
      obtain ⟨b, o, he⟩ := hsome (by omega)
      exact ⟨b, o + lo, hadr b o hp he⟩
    · intro i hi'
      rw [hlen] at hi'
      obtain ⟨b, o, he⟩ := hsome (by omega)
      have hc := h'.cells (lo + i) (by omega)
      rw [hadr b o (by omega) he]
      subst he
      have e1 : adr (.slice (some ⟨b, o + lo, none⟩) (hi - lo) (cap - lo)) i = adr (.slice (some ⟨b, o, none⟩) l.length cap) (lo + i) := by
        simp only [adr, Addr.add]
        split <;> split <;> simp_all <;> omega
      rw [e1, hc]
      congr 2
      unfold at8
      simp [List.getD]
      rw [List.getElem?_take_of_lt (by omega)]

/-- 's[lo:]' of a slice that reads. -/
theorem Rd.from {w : World} {v : Value} {l : List UInt8} (h : Rd w v l) (lo : Nat) (h1 : lo ≤ l.length) :
    ∃ v', (∀ u, (Instr.slice 84 v (some (.int .i64 (lo : Int))) none none).run Tryz.prog u = .ok v' u) ∧ ∀ w', Rd w' v l → Rd w' v' (l.drop lo) := by
  obtain ⟨v', hr, hd⟩ := h.cut lo l.length h1 (Nat.le_refl _)
  refine ⟨v', fun u => ?_, fun w' h' => by have := hd w' h'; rwa [List.take_length] at this⟩
  obtain ⟨⟨ao, cap, rfl, hcap, hnil, hsome⟩, hcel, hsm⟩ := h
  rw [← hr u, run_slice_lh (P := Tryz.prog) u 84 ao l.length cap Tryz.underlying84 .i64 .i64 lo l.length (by omega) (by omega) (by omega),
    run_slice_l (P := Tryz.prog) u 84 ao l.length cap Tryz.underlying84 .i64 lo (by omega) (by omega)]
  simp

/-- 's[:hi]' of a slice that reads. -/
theorem Rd.upto {w : World} {v : Value} {l : List UInt8} (h : Rd w v l) (hi : Nat) (h1 : hi ≤ l.length) :
    ∃ v', (∀ u, (Instr.slice 84 v none (some (.int .i64 (hi : Int))) none).run Tryz.prog u = .ok v' u) ∧ ∀ w', Rd w' v l → Rd w' v' (l.take hi) := by
  obtain ⟨v', hr, hd⟩ := h.cut 0 hi (Nat.zero_le _) h1
  refine ⟨v', fun u => ?_, fun w' h' => by have := hd w' h'; rwa [List.drop_zero] at this⟩
  obtain ⟨⟨ao, cap, rfl, hcap, hnil, hsome⟩, hcel, hsm⟩ := h
  rw [← hr u, run_slice_lh (P := Tryz.prog) u 84 ao l.length cap Tryz.underlying84 .i64 .i64 ((0 : Nat) : Int) hi (by omega) (by omega) (by omega),
    run_slice_h (P := Tryz.prog) u 84 ao l.length cap Tryz.underlying84 .i64 hi (by omega) (by omega)]
  simp

/-- A literal of bytes, as it is laid. -/
theorem rd_lit (w : World) (l : List UInt8) (hs : l.length ≤ 140737488351232) (z : Nat × Nat) : Rd (w.alloc (.cells (cellsB l).toArray 5 z)) (.slice (some ⟨w.heap.size, 0, none⟩) l.length l.length) l := by
  refine ⟨⟨_, _, rfl, Nat.le_refl _, (by intro h; cases h), fun _ => ⟨_, _, rfl⟩⟩, fun i hi => ?_, hs⟩
  have e : adr (.slice (some ⟨w.heap.size, 0, none⟩) l.length l.length) i = ⟨w.heap.size, i, none⟩ := by
    simp only [adr, Addr.add]; split <;> simp_all
  rw [e, cell_of_row _ _ _ _ _ z (heap_alloc_new w _)]
  rw [List.getElem?_toArray]
  exact cellsB_at hi

/-- '[]byte{}'. -/
theorem own_empty (w : World) (base : Nat) (hb : base ≤ w.heap.size) : Own (w.alloc (.cells #[] 5)) base (.slice (some ⟨w.heap.size, 0, none⟩) 0 0) [] :=
  World.ownsRow_made w #[] 0 hb (Nat.zero_le _) (by simp)

/-- 'string(s)'. -/
theorem Rd.str {w : World} {v : Value} {l : List UInt8} (h : Rd w v l) : (convert 84 9 v).run Tryz.prog w = .ok (.string ⟨l.toArray⟩) w := by
  obtain ⟨⟨ao, cap, rfl, hcap, hnil, hsome⟩, hcel, hsm⟩ := h
  by_cases h0 : l.length = 0
  · obtain rfl : l = [] := List.eq_nil_of_length_eq_zero h0
    cases ao with
    | none => exact run_convert_bytes_nil (P := Tryz.prog) w 84 5 Tryz.underlying84 Tryz.underlying5 0 cap 9 Tryz.underlying9
    | some a =>
      rw [run_convert_bytes_string w 84 9 5 (some a) _ cap Tryz.underlying84 Tryz.underlying5 Tryz.underlying9]
      rw [run_bytesToString w a _ cap [] (by simpa using run_loadCells_list (P := Tryz.prog) w a [] (by simp))]
      rfl
  · obtain ⟨b, o, rfl⟩ := hsome (by omega)
    rw [run_convert_bytes_arg (P := Tryz.prog) w 84 5 Tryz.underlying84 Tryz.underlying5 b o l.length cap (l.map fun c => (c.toNat : Int)) (by simp) ?_ 9 Tryz.underlying9]
    · congr 3
      simp [strOfNums]
      have e : ((fun n : Int => UInt8.ofNat n.toNat) ∘ fun c : UInt8 => (c.toNat : Int)) = id := by funext c; simp
      rw [e, List.map_id]
    · intro i hi
      have := hcel i hi
      have e : adr (.slice (some ⟨b, o, none⟩) l.length cap) i = ⟨b, o + i, none⟩ := by
        simp only [adr, Addr.add]; split <;> simp_all
      rw [e] at this
      rw [this, at8_eq hi]
      simp [List.getD, hi]

theorem own_nil (w : World) (base : Nat) : Own w base (.slice none 0 0) [] := World.ownsRow_nil w base _ _

theorem block_setCell {w : World} {g k : Nat} {c : Array Value} {e : TypeId} {z : Nat × Nat} (h : w.heap[g]? = some (.cells c e z)) (u : Value) :
    (w.setCell ⟨g, k, none⟩ u).heap[g]? = some (.cells (c.setIfInBounds k u) e z) := by
  simp [World.setCell, Array.getElem?_modify, h]

theorem grown_setCell {w w' : World} {g k : Nat} (h : w.grownBy w' (some g)) (u : Value) : w.grownBy (w'.setCell ⟨g, k, none⟩ u) (some g) :=
  ⟨h.os, h.tape, h.output, by simpa using h.size, fun i hi hne => by
    rw [Below.heap_setCell _ _ _ _ (by intro e; exact hne (by rw [e]))]; exact h.block i hi hne⟩

theorem set_at {α : Type} (l m : List α) (u : α) (k : Nat) (hl : l.length = k) (hm : 0 < m.length) : (l ++ m).toArray.setIfInBounds k u = (l ++ [u] ++ m.drop 1).toArray := by
  subst hl
  cases m with
  | nil => simp at hm
  | cons b m => simp

theorem cell_mid {w : World} {g k : Nat} {l m : List Value} {e : TypeId} {z : Nat × Nat} (h : w.heap[g]? = some (.cells (l ++ m).toArray e z)) (hk : k < l.length) : w.cell? ⟨g, k, none⟩ = l[k]? := by
  rw [cell_of_row w g k _ e z h, List.getElem?_toArray, List.getElem?_append_left hk]

/-- How a value that the call has made is owned, out of its block. -/
theorem own_of_block {w : World} {base g n cap : Nat} {l : List UInt8} {cur : List Value} (hb : base ≤ g) (hg : w.heap[g]? = some (.cells cur.toArray 5 (0, 0))) (hn : n = l.length) (hc : n ≤ cap) (hm : cap ≤ maxLen)
    (hs : cur.length = cap) (ht : cur.take n = cellsB l) : Own w base (.slice (some ⟨g, 0, none⟩) n cap) l := by
  subst hn
  refine ⟨by simp [cellsB_length], .inr ⟨g, cap, _, rfl, hb, hg, hc, hm, by simpa using hs, ?_⟩⟩
  simpa using ht

/-- 'make([]byte, n)', n a variable. -/
theorem make_bytes (n : Int) (h0 : 0 ≤ n) (h1 : n ≤ 281474976710656) (u : World) : (Instr.makeSlice 84 (.int .i64 n) (.int .i64 n)).run Tryz.prog u =
    .ok (.slice (some ⟨u.heap.size, 0, none⟩) n.toNat n.toNat) (u.alloc (.cells (cellsB (List.replicate n.toNat 0)).toArray 5)) := by
  obtain ⟨i0, hi, hz0, hz1, hz2⟩ := info_parts info_u8
  have h := run_make (P := Tryz.prog) u 84 5 i0 (.int .u8 0) Tryz.underlying84 hi hz0 .i64 .i64 n n h0 (Int.le_refl _) (by rw [hz2]; omega) (by omega)
  rw [h, hz1]
  congr 3
  simp [madeCells, cellsB, cellB, Value.cells]
  apply Array.ext
  · simp
  · intro i h1 h2
    simp [Nat.mod_one]

/-- What a call that makes bytes answers. -/
def RetB (w : World) (l : List UInt8) (e : Ending) (w' : World) : Prop := ∃ v, e = .returned v ∧ Own w' w.heap.size v l ∧ Below w.heap.size w w'

theorem Own.alloc {w : World} {base : Nat} {v : Value} {l : List UInt8} (h : Own w base v l) (o : Obj) : Own (w.alloc o) base v l := World.ownsRow.alloc h o

/-- A literal of bytes, as the call's own. -/
theorem own_lit (w : World) (base : Nat) (hb : base ≤ w.heap.size) (l : List UInt8) (hs : l.length ≤ maxLen) : Own (w.alloc (.cells (cellsB l).toArray 5 (0, 0))) base (.slice (some ⟨w.heap.size, 0, none⟩) l.length l.length) l :=
  own_of_block hb (heap_alloc_new w _) rfl (Nat.le_refl _) hs (by simp [cellsB_length]) (List.take_of_length_le (by simp [cellsB_length]))

/-- A byte of a slice of the call's own is turned. -/
theorem Own.set {w : World} {base : Nat} {v : Value} {l : List UInt8} (h : Own w base v l) {i : Nat} (hi : i < l.length) (b : UInt8) :
    Own (w.setCell (adr v i) (cellB b)) base v (l.set i b) ∧ w.frozen? (adr v i) = false ∧ base ≤ (adr v i).block := by
  obtain ⟨h0, h2⟩ := h
  rcases h2 with ⟨rfl, hn⟩ | ⟨g, cap, cur, rfl, hbg, hg, hn, hm, hs, ht⟩
  · exact absurd hi (by omega)
  · have e : adr (.slice (some ⟨g, 0, none⟩) l.length cap) i = ⟨g, i, none⟩ := by
      simp only [adr, Addr.add]; split <;> simp_all
    rw [e]
    refine ⟨⟨by simp [cellsB_length], .inr ⟨g, cap, _, by simp, hbg, block_setCell hg _, by simp; exact hn, hm, by simpa using hs, ?_⟩⟩, frozen_of_row _ _ _ _ _ hg, hbg⟩
    simp only [List.length_set]
    rw [Array.toList_setIfInBounds, List.take_set, ht]
    simp [cellsB, List.map_set]

theorem Own.drew {w : World} {base : Nat} {v : Value} {l : List UInt8} (h : Own w base v l) : Own w.drew base v l := h.later ((Below.refl w.heap.size w).drew) (Nat.le_refl _)

end Go.Proofs.YtokpphhmmcoeaaaGreatDoor


/-
  Slices whose elements have one cell or more (structs of plain cells, strings): how they read (RdG), how a call owns one that it has made (OwnG), what the operations on them do.
-/
namespace Go.Proofs.YtokpphhmmcoeaaaGreatDoor
open Go.RowKit

/-- What a slice's elements are: the slice's type, theirs, how many cells each has. -/
structure Elt where
  S : TypeId
  T : TypeId
  n : Nat
  bytes : Nat
  zero : Value

structure Elt.Ok (E : Elt) : Prop where
  hS : Tryz.prog.underlying E.S = some (.slice E.T)
  hel : Tryz.prog.elem E.S = E.T
  info : (Tryz.prog.info? E.T).map (fun i => (i.zero, i.size, i.bytes)) = some (some E.zero, E.n, E.bytes)
  hz : E.zero.cells.size = E.n
  hn : 0 < E.n

theorem adr_lit (b o : Nat) (n c k : Nat) : adr (.slice (some ⟨b, o, none⟩) n c) k = ⟨b, o + k, none⟩ := by simp only [adr, Addr.add]; split <;> simp_all

/-- The slice value v reads as the elements vs, each a list of its cells. -/
structure RdG (E : Elt) (w : World) (v : Value) (vs : List (List Value)) : Prop where
  shape : ∃ ao cap, v = .slice ao vs.length cap ∧ vs.length ≤ cap ∧ (ao = none → cap = 0) ∧ (0 < vs.length → ∃ b o, ao = some ⟨b, o, none⟩)
  cells : ∀ i, i < vs.length → ∀ j u, (vs.getD i [])[j]? = some u → w.cell? (adr v (i * E.n + j)) = some u
  wid : ∀ x ∈ vs, x.length = E.n
  small : vs.length ≤ 140737488351232

section
variable {E : Elt} {w w' : World} {v : Value} {vs : List (List Value)}

theorem RdG.get (h : RdG E w v vs) {i : Nat} (hi : i < vs.length) : (vs.getD i []).length = E.n := by
  have e : vs.getD i [] = vs[i] := by simp [List.getD, hi]
  rw [e]; exact h.wid _ (List.getElem_mem _)

theorem RdG.block (h : RdG E w v vs) (hE : E.Ok) {i : Nat} (hi : i < vs.length) : (adr v (i * E.n)).block < w.heap.size := by
  have hl := h.get hi
  have hn := hE.hn
  have h0 : (vs.getD i [])[0]? = some ((vs.getD i [])[0]'(by omega)) := List.getElem?_eq_getElem _
  have := h.cells i hi 0 _ h0
  rw [Nat.add_zero] at this
  exact World.block_lt_of_cell? w _ this

theorem RdG.blk (h : RdG E w v vs) {i : Nat} (hi : i < vs.length) (j k : Nat) : (adr v j).block = (adr v k).block := by
  obtain ⟨ao, cap, rfl, _, _, hp⟩ := h.shape
  obtain ⟨b, o, rfl⟩ := hp (by omega)
  rw [adr_lit, adr_lit]

theorem RdG.same (h : RdG E w v vs) (hs : ∀ i, i < vs.length → w'.heap[(adr v (i * E.n)).block]? = w.heap[(adr v (i * E.n)).block]?) : RdG E w' v vs :=
  ⟨h.shape, fun i hi j u hu => (World.cell?_of_block (by rw [h.blk hi (i * E.n + j) (i * E.n)]; exact hs i hi)).trans (h.cells i hi j u hu), h.wid, h.small⟩

theorem RdG.later (h : RdG E w v vs) (hE : E.Ok) {B : Nat} (hb : Below B w w') (hB : w.heap.size ≤ B) : RdG E w' v vs :=
  h.same fun i hi => hb.block _ (Nat.lt_of_lt_of_le (h.block hE hi) hB)

theorem RdG.drew (h : RdG E w v vs) : RdG E w.drew v vs := ⟨h.shape, h.cells, h.wid, h.small⟩

theorem RdG.nil (E : Elt) (w : World) : RdG E w (.slice none 0 0) [] :=
  ⟨⟨none, 0, rfl, Nat.le_refl _, fun _ => rfl, fun h => absurd h (by simp)⟩, fun i hi => absurd hi (by simp), fun x hx => absurd hx (by simp), by simp⟩

theorem RdG.len (h : RdG E w v vs) (hE : E.Ok) : ∀ u, (Builtin.len_ #[E.S] 3 #[v]).run Tryz.prog u = .ok (.int .i64 (vs.length : Int)) u := by
  intro u
  obtain ⟨⟨ao, cap, rfl, _⟩, _, _, _⟩ := h
  exact run_len_slice u _ _ ao _ _ (by rw [hE.hel]; exact hE.hS)

theorem RdG.idx (h : RdG E w v vs) (hE : E.Ok) (i : Nat) (hi : i < vs.length) :
    ∀ u, (Instr.indexAt E.S v (.int .i64 (i : Int))).run Tryz.prog u = .ok (.pointer (some (adr v (i * E.n)))) u := by
  intro u
  obtain ⟨⟨ao, cap, rfl, _, _, hp⟩, _, _, _⟩ := h
  obtain ⟨b, o, rfl⟩ := hp (by omega)
  have := run_indexAt_slice (P := Tryz.prog) u E.S ⟨b, o, none⟩ vs.length cap .i64 i (by rw [hE.hel]; exact hE.hS)
  rw [this, if_pos ⟨by omega, by omega⟩]
  obtain ⟨inf, hi1, hi2⟩ := Option.map_eq_some_iff.1 hE.info
  have hsz : inf.size = E.n := by
    have := congrArg (fun x => x.2.1) hi2
    exact this
  have hi1' : Tryz.prog.info? (Tryz.prog.elem E.S) = some inf := by rw [hE.hel]; exact hi1
  simp [sizeOf, typeInfo, hi1', hsz, Result.andThen, adr]

/-- Where an element's cells lie. -/
theorem RdG.at (h : RdG E w v vs) {i : Nat} (hi : i < vs.length) : ∃ b o, adr v (i * E.n) = ⟨b, o, none⟩ ∧ ∀ j u, (vs.getD i [])[j]? = some u → w.cell? ⟨b, o + j, none⟩ = some u := by
  obtain ⟨ao, cap, rfl, _, _, hp⟩ := id h.shape
  obtain ⟨b, o, rfl⟩ := hp (by omega)
  refine ⟨b, o + i * E.n, adr_lit _ _ _ _ _, fun j u hu => ?_⟩
  have := h.cells i hi j u hu
  rw [adr_lit, ← Nat.add_assoc] at this
  exact this

/-- The slice value v is the call's own: made from block base on. -/
def OwnG (E : Elt) (w : World) (base : Nat) (v : Value) (vs : List (List Value)) : Prop :=
  w.ownsRow base E.T E.n v vs.length vs.flatten ∧ (∀ x ∈ vs, x.length = E.n) ∧ ∀ x ∈ vs, ∀ u ∈ x, u.oneCell' = true

theorem flatten_at {n : Nat} : ∀ (vs : List (List Value)), (∀ x ∈ vs, x.length = n) → ∀ i j u, i < vs.length → (vs.getD i [])[j]? = some u → vs.flatten[i * n + j]? = some u
  | [], _, i, j, u, hi, _ => absurd hi (by simp)
  | x :: r, hw, 0, j, u, _, h => by
    have hx := hw x (by simp)
    have hj : j < x.length := by
      have : ((x :: r).getD 0 []) = x := rfl
      rw [this] at h
      exact (List.getElem?_eq_some_iff.1 h).1
    rw [Nat.zero_mul, Nat.zero_add, List.flatten_cons, List.getElem?_append_left hj]
    exact h
  | x :: r, hw, i + 1, j, u, hi, h => by
    have hx := hw x (by simp)
    have ih := flatten_at r (fun y hy => hw y (by simp [hy])) i j u (by simp at hi; omega) h
    rw [List.flatten_cons, List.getElem?_append_right (by rw [hx, Nat.add_mul]; omega), hx, show (i + 1) * n + j - n = i * n + j from by rw [Nat.add_mul]; omega]
    exact ih

theorem OwnG.rd {base : Nat} (h : OwnG E w base v vs) (hs : vs.length ≤ 140737488351232) : RdG E w v vs := by
  obtain ⟨h1, hw, _⟩ := h
  have hc := fun g => World.ownsRow.cells (g := g) h1
  obtain ⟨_, h2⟩ := h1
  rcases h2 with ⟨rfl, hn⟩ | ⟨g, cap, cur, rfl, _, hg, hn, hm, _⟩
  · have : vs = [] := List.eq_nil_of_length_eq_zero hn
    subst this; exact RdG.nil E w
  · refine ⟨⟨_, cap, rfl, hn, (by intro h; cases h), fun _ => ⟨g, 0, rfl⟩⟩, fun i hi j u hu => ?_, hw, hs⟩
    exact hc g rfl (i * E.n + j) u (flatten_at vs hw i j u hi hu)

theorem OwnG.later {base B : Nat} (h : OwnG E w base v vs) (hb : Below B w w') (hB : w.heap.size ≤ B) : OwnG E w' base v vs := by
  refine ⟨⟨h.1.1, ?_⟩, h.2⟩
  rcases h.1.2 with h2 | ⟨g, cap, cur, rfl, hbg, hg, r⟩
  · exact .inl h2
  · refine .inr ⟨g, cap, cur, rfl, hbg, ?_, r⟩
    rw [hb.block g (Nat.lt_of_lt_of_le (Array.getElem?_eq_some_iff.1 hg).1 hB)]; exact hg

/-- .. while another block turns. -/
theorem OwnG.grown {base : Nat} (h : OwnG E w base v vs) {r : Option Nat} (hg : w.grownBy w' r) (hne : ∀ k, v.ownBlock = some k → some k ≠ r) : OwnG E w' base v vs := by
  refine ⟨⟨h.1.1, ?_⟩, h.2⟩
  rcases h.1.2 with h2 | ⟨g, cap, cur, rfl, hbg, hgg, q⟩
  · exact .inl h2
  · refine .inr ⟨g, cap, cur, rfl, hbg, ?_, q⟩
    rw [hg.block g (Array.getElem?_eq_some_iff.1 hgg).1 (hne g rfl)]; exact hgg

theorem OwnG.alloc {base : Nat} (h : OwnG E w base v vs) (o : Obj) : OwnG E (w.alloc o) base v vs := ⟨World.ownsRow.alloc h.1 o, h.2⟩
theorem OwnG.drew {base : Nat} (h : OwnG E w base v vs) : OwnG E w.drew base v vs := h.later ((Below.refl w.heap.size w).drew) (Nat.le_refl _)
theorem OwnG.nil (E : Elt) (w : World) (base : Nat) : OwnG E w base (.slice none 0 0) [] := ⟨World.ownsRow_nil w base _ _, by simp, by simp⟩
theorem OwnG.base {base base' : Nat} (h : OwnG E w base v vs) (hb : base' ≤ base) : OwnG E w base' v vs := by
  refine ⟨⟨h.1.1, ?_⟩, h.2⟩
  rcases h.1.2 with h2 | ⟨g, cap, cur, rfl, hbg, r⟩
  · exact .inl h2
  · exact .inr ⟨g, cap, cur, rfl, Nat.le_trans hb hbg, r⟩
theorem OwnG.lt {base : Nat} (h : OwnG E w base v vs) {k : Nat} (hk : v.ownBlock = some k) : base ≤ k ∧ k < w.heap.size := World.ownsRow.lt h.1 k hk

/-- 'append(s, x)': s the call's own, x one element. -/
theorem wplG_append (hE : E.Ok) {ops : Array Oper} {Q : Exit → Act → World → Prop} {rest : List Oper} {a : Act} {dst : Option Tmp} {ty : TypeId} {pos : String} {aft : Array Edge} {s x : Operand}
    (base : Nat) (sv : Value) (hs : a.eval s = sv) (ho : OwnG E w base sv vs) (ad : Addr) (u : List Value) (hx : a.eval x = .slice (some ad) 1 1) (hu : u.length = E.n) (h1 : ∀ z ∈ u, z.oneCell' = true)
    (hc : ∀ j z, u[j]? = some z → w.cell? (ad.add j) = some z) (hn : (vs.length + 1) * E.bytes ≤ 140737488355328) (hn2 : vs.length + 1 ≤ 140737488355328) (hbase : base ≤ w.heap.size)
    (B : Nat) (w0 : World) (hb : Below B w0 w) (hBb : B ≤ base)
    (h : ∀ v' w', OwnG E w' base v' (vs ++ [u]) → Below B w0 w' → w.grownBy w' sv.ownBlock → wpList Tryz.prog ops Q rest (a.put dst v') w') :
    wpList Tryz.prog ops Q (⟨dst, .call ⟨.builtin .append, #[s, x], #[E.S, E.S]⟩, ty, pos, aft, none⟩ :: rest) a w := by
  obtain ⟨i0, hi, hz0, hz1, hz2⟩ := info_parts hE.info
  refine wpList_append_own w rfl s x E.S rfl base E.T i0 E.zero E.n E.bytes hE.hS hi hz0 hz1 hz2 hE.hz hE.hn sv vs.length vs.flatten hs ho.1 ad 1 1 u hx (by rw [hu]; omega) hc h1 (by unfold maxLen; omega) hn hbase ?_
  intro v' w' h1' h2 _
  refine h v' w' ⟨?_, ?_, ?_⟩ (hb.grown h2 (by omega) fun k hk => ?_) h2
  · rw [List.length_append, List.flatten_append, List.flatten_singleton]; exact h1'
  · intro y hy
    rcases List.mem_append.1 hy with hy | hy
    · exact ho.2.1 y hy
    · rw [List.mem_singleton.1 hy]; exact hu
  · intro y hy
    rcases List.mem_append.1 hy with hy | hy
    · exact ho.2.2 y hy
    · rw [List.mem_singleton.1 hy]; exact h1
  · exact Nat.le_trans hBb (World.ownsRow.lt ho.1 k hk).1
end

end Go.Proofs.YtokpphhmmcoeaaaGreatDoor


/-
  A region whose order is open, walked in ONE order: an operation that yields the same value in every world that comes by R may be taken first; a call is taken where it alone may come up, and leaves a world that comes by R; one operation (z), that comes up behind all others, may turn whatever it does
-/
namespace Go.Proofs.YtokpphhmmcoeaaaGreatDoor.OrdR
open Go.RowKit

/-- What worlds come to one another by. -/
structure Way (R : World → World → Prop) : Prop where
  refl : ∀ w, R w w
  trans : ∀ a b c, R a b → R b c → R a c
/-- The worlds that come out of w. -/
structure GW (R : World → World → Prop) (w : World) where
  val : World
  grew : R w val

section
variable {R : World → World → Prop} {P : Program} {ops : Array Oper} {Q : Exit → Act → World → Prop} {md : Region.Mode} {z : Option Nat} {C : Array Bool → Prop}

/-- The operations that yield a value, or halt: no call of a function among them. -/
def plainOp : Op → Bool
  | .move _ | .assign _ | .pick .. | .load .. | .binOp .. | .unOp .. | .convert .. | .slice .. | .fieldAddr .. | .field .. | .indexAddr .. | .index .. | .lookup .. | .extract .. | .makeInterface .. | .makeFunc .. | .typeAssert .. | .nilCheck _ => true
  | .call { callee := .builtin .len, .. } | .call { callee := .builtin .cap, .. } | .call { callee := .builtin .min, .. } | .call { callee := .builtin .max, .. } => true
  | _ => false

theorem plain_v {s : Sem Value} {w w' : World} {r : Next} (h : (do pure (Next.value (← s)) : Sem Next).run P w = .ok r w') : ∃ u, r = .value u := by
  simp only [Sem.run_bind] at h
  cases hs : s.run P w with
  | ok a w1 => rw [hs] at h; simp only [Result.andThen, Sem.run_pure] at h; exact ⟨a, by injection h with h1 h2; exact h1.symm⟩
  | halt x w1 => rw [hs] at h; simp [Result.andThen] at h

theorem plain_value {o : Oper} (h : plainOp o.op = true) {ρ : Operand → Value} {w w' : World} {r : Next} (hr : (execOp ρ o).run P w = .ok r w') : ∃ u, r = .value u := by
  obtain ⟨dst, op, ty, pos, aft, gd⟩ := o
  cases op <;> simp only [plainOp] at h <;> try (exact absurd h (by decide))
  case call c =>
    obtain ⟨callee, args, tys⟩ := c
    cases callee with
    | value f => simp at h
    | invoke r m => simp at h
    | builtin b =>
      cases b <;> simp at h
      all_goals
        rw [BigFrame.execOp_builtin] at hr
        first | rw [BigFrame.builtin_len] at hr | rw [BigFrame.builtin_cap] at hr | rw [BigFrame.builtin_min] at hr | rw [BigFrame.builtin_max] at hr
        exact plain_v hr
  case nilCheck x =>
    simp only [execOp] at hr
    split at hr
    · exact absurd hr (by simp [runtimePanic, goPanic])
    · exact absurd hr (by simp [runtimePanic, goPanic])
    · exact absurd hr (by simp [runtimePanic, goPanic])
    · split at hr
      · exact absurd hr (by simp [runtimePanic, goPanic])
      · simp only [Sem.run_bind] at hr
        cases h1 : Sem.run P program w with
        | halt x w1 => rw [h1] at hr; simp [Result.andThen] at hr
        | ok a w1 =>
          rw [h1] at hr
          simp only [Result.andThen] at hr
          split at hr
          · rename_i b w2 h2
            split at hr
            · exact absurd hr (by simp [unsupported])
            · simp only [Sem.run_pure] at hr; injection hr with h1 h2; exact ⟨_, h1.symm⟩
          · exact absurd hr (by simp)
      · simp only [Sem.run_pure] at hr; injection hr with h1 h2; exact ⟨_, h1.symm⟩
    · simp only [Sem.run_pure] at hr; injection hr with h1 h2; exact ⟨_, h1.symm⟩
  case move x => simp only [execOp, Sem.run_pure] at hr; injection hr with h1 h2; exact ⟨_, h1.symm⟩
  case assign x => simp only [execOp, Sem.run_pure] at hr; injection hr with h1 h2; exact ⟨_, h1.symm⟩
  case pick c a b =>
    simp only [execOp, Sem.run_bind] at hr
    cases hs : (asBool (ρ c)).run P w with
    | ok a w1 => rw [hs] at hr; simp only [Result.andThen] at hr; split at hr <;> (simp only [Sem.run_pure] at hr; injection hr with h1 h2; exact ⟨_, h1.symm⟩)
    | halt x w1 => rw [hs] at hr; simp [Result.andThen] at hr
  all_goals exact plain_v (by simpa only [execOp] using hr)

/-- Whatever order is picked from here on, each operation but z leaving a world that comes by R. -/
def wpAnyG (R : World → World → Prop) (z : Option Nat) (P : Program) (md : Region.Mode) (ops : Array Oper) (Q : Exit → Act → World → Prop) : Nat → Array Bool → Act → World → Prop
  | 0, listed, a, w => Region.ready md ops listed = [] ∧ Q .normal a w
  | fuel + 1, listed, a, w =>
    (Region.ready md ops listed = [] → Q .normal a w) ∧
    ∀ i ∈ Region.ready md ops listed, wpOp P ops Q i (fun a' w' => (some i ≠ z → R w w') ∧ wpAnyG R z P md ops Q fuel (listed.setIfInBounds i true) a' w') a w

theorem wpAny_of_G : ∀ (fuel : Nat) (listed : Array Bool) (a : Act) (w : World), wpAnyG R z P md ops Q fuel listed a w → wpAny P md ops Q fuel listed a w
  | 0, _, _, _, h => h
  | fuel + 1, _, _, _, h => ⟨h.1, fun i hi => wpOp_mono (fun a' w' h' => wpAny_of_G fuel _ a' w' h'.2) (h.2 i hi)⟩

/-- C stays, and where z may come up it is alone. -/
structure Last (md : Region.Mode) (ops : Array Oper) (z : Option Nat) (C : Array Bool → Prop) : Prop where
  set : ∀ s j, C s → j ∈ Region.ready md ops s → C (s.setIfInBounds j true)
  alone : ∀ s i k, C s → i ∈ Region.ready md ops s → k ∈ Region.ready md ops s → some k = z → i = k

/-- In state 'a' the operation yields v, in the world w and in all that have grown out of it. -/
def YieldsG (R : World → World → Prop) (P : Program) (ops : Array Oper) (o : Oper) (v : Value) (a : Act) (w : World) : Prop :=
  (Region.wanted o (yielded ops a.tmps) = true ∧ ∀ w', R w w' → (execOp a.eval o).run P w' = .ok (.value v) w') ∨
  (Region.wanted o (yielded ops a.tmps) = false ∧ v = undef)

theorem YieldsG.later (hR : Way R) {o : Oper} {v : Value} {a : Act} {w w' : World} (h : YieldsG R P ops o v a w) (hg : R w w') : YieldsG R P ops o v a w' :=
  h.imp (fun ⟨h1, h2⟩ => ⟨h1, fun w'' h' => h2 w'' (hR.trans _ _ _ hg h')⟩) id

theorem YieldsG.wpOp (hR : Way R) {i : Nat} {o : Oper} {v : Value} {a : Act} {w : World} (hi : ops[i]? = some o) (hy : YieldsG R P ops o v a w)
    {K : Act → World → Prop} (h : K (a.put o.dst v) w) : wpOp P ops Q i K a w := by
  unfold Go.wpOp
  simp only [hi]
  rcases hy with ⟨hw, hv⟩ | ⟨hw, rfl⟩
  · simp only [hw, if_true, Oper.wp, hv w (hR.refl w), Oper.upon]; exact .inl h
  · simp only [hw, Bool.false_eq_true, if_false]; exact h

theorem YieldsG.of_same {o : Oper} {v : Value} {a a' : Act} {w : World} (hy : YieldsG R P ops o v a w) (he : execOp a'.eval o = execOp a.eval o)
    (hw : Region.wanted o (yielded ops a'.tmps) = Region.wanted o (yielded ops a.tmps)) : YieldsG R P ops o v a' w := by
  unfold YieldsG at *
  rw [he, hw]
  exact hy

theorem wpOpG_put (hR : Way R) {j : Nat} {oi oj : Oper} {v : Value} (hj : ops[j]? = some oj) (hap : oi.apart ops oj = true)
    (hsi : ∀ cs b, oi.op ≠ .select cs b) (hsj : ∀ cs b, oj.op ≠ .select cs b)
    (hQ : ∀ c a w, Q (.panic c) (a.put oi.dst v) w → Q (.panic c) a w) {K : Act → World → Prop} {a : Act} {w : World}
    (hy : YieldsG R P ops oi v a w) (h : wpOp P ops Q j (fun a' w' => R w w' ∧ K a' w') (a.put oi.dst v) w) :
    wpOp P ops Q j (fun a' w' => R w w' ∧ YieldsG R P ops oi v a' w' ∧ K (a'.put oi.dst v) w') a w := by
  obtain ⟨h1, h2, h3⟩ := Oper.apart_spec hap
  have keep : ∀ (a : Act) w', R w w' → YieldsG R P ops oi v a w → ∀ u, YieldsG R P ops oi v (a.put oj.dst u) w' := fun a w' hg hy u =>
    (YieldsG.later hR hy hg).of_same (execOp_put oi hsi a oj.dst u h3) (wanted_put oi a oj.dst u h3)
  have keepD : ∀ d, YieldsG R P ops oi v { a with defers := d :: a.defers } w := fun d => hy.of_same rfl rfl
  unfold wpOp at *
  simp only [hj] at *
  rw [wanted_put oj a oi.dst v h1] at h
  split
  · rename_i hw
    simp only [hw, if_true] at h
    rcases h with h | ⟨hasks, hlets⟩
    case inr => exact .inr ⟨by unfold Oper.asks at *; rw [execOp_put oj hsj a oi.dst v h1] at hasks; exact hasks, hlets⟩
    refine .inl ?_
    unfold Oper.wp at *
    rw [execOp_put oj hsj a oi.dst v h1] at h
    generalize (execOp a.eval oj).run P w = r at *
    cases r with
    | ok n w' =>
      cases n <;> simp only [Oper.upon] at h ⊢
      case value u => exact ⟨h.1, keep a _ h.1 hy u, by rw [← Act.put_comm a v u h2]; exact h.2⟩
      case skip => exact ⟨h.1, keep a _ h.1 hy _, by rw [← Act.put_comm a v undef h2]; exact h.2⟩
      case defer d =>
        refine ⟨h.1, keep _ _ h.1 (keepD d) _, ?_⟩
        rw [← Act.put_comm _ v undef h2, ← Act.put_defers]
        exact h.2
      case enter f args =>
        refine Calls.mono h fun e w'' he => ?_
        cases e with
        | returned u => exact ⟨he.1, keep a _ he.1 hy u, by rw [← Act.put_comm a v u h2]; exact he.2⟩
        | panicked c => exact hQ _ _ _ he
        | outgrown => exact he
      case row row args => exact Rows.mono h fun u w'' he => ⟨he.1, keep a _ he.1 hy u, by rw [← Act.put_comm a v u h2]; exact he.2⟩
    | halt x w' =>
      cases x <;> simp only [Oper.upon] at h ⊢
      case panic u => exact hQ _ _ _ h
  · rename_i hw
    simp only [hw] at h
    exact ⟨h.1, keep a _ h.1 hy _, by rw [← Act.put_comm a v undef h2]; exact h.2⟩

/-- An operation that may come up now, and yields its value whatever comes ahead of it, may be taken first. -/
theorem wpAnyG_first (hR : Way R) (hB : Last md ops z C) {i : Nat} {oi : Oper} {v : Value} (hi : ops[i]? = some oi) (hiz : some i ≠ z) (hsel : ∀ (j : Nat) (o : Oper) cs b, ops[j]? = some o → o.op ≠ .select cs b)
    (hQ : ∀ c a w, Q (.panic c) (a.put oi.dst v) w → Q (.panic c) a w) :
    ∀ (fuel : Nat) (listed : Array Bool) (a : Act) (w : World), C listed →
      (∀ j oj, ops[j]? = some oj → j ≠ i → listed.getD j true = false → (∀ e ∈ oj.after, Region.binds md e = true → e.on ≠ i) → oi.apart ops oj = true) →
      i ∈ Region.ready md ops listed → YieldsG R P ops oi v a w →
      wpAnyG R z P md ops Q fuel (listed.setIfInBounds i true) (a.put oi.dst v) w → wpAnyG R z P md ops Q (fuel + 1) listed a w := by
  intro fuel
  induction fuel with
  | zero =>
    intro listed a w _ _ hr hy H
    refine ⟨fun h => (by rw [h] at hr; cases hr), fun j hj => ?_⟩
    by_cases hji : j = i
    · subst hji; exact YieldsG.wpOp hR hi hy ⟨fun _ => hR.refl _, H⟩
    · have := ready_mono hj hji
      rw [H.1] at this
      cases this
  | succ fuel ih =>
    intro listed a w hcl hfree hr hy H
    refine ⟨fun h => (by rw [h] at hr; cases hr), fun j hj => ?_⟩
    by_cases hji : j = i
    · subst hji; exact YieldsG.wpOp hR hi hy ⟨fun _ => hR.refl _, H⟩
    · have hjz : some j ≠ z := fun e => hji (hB.alone _ _ _ hcl hr hj e).symm
      have h1 := H.2 j (ready_mono hj hji)
      obtain ⟨hjun, oj, hoj, hall⟩ := mem_ready.1 hj
      have hnot : ∀ e ∈ oj.after, Region.binds md e = true → e.on ≠ i := fun e he hb heq => by
        have h1 := hall e he hb
        have h0 := (mem_ready.1 hr).1
        rw [heq] at h1
        rcases Nat.lt_or_ge i listed.size with h' | h'
        · simp [h'] at h0 h1; rw [h0] at h1; cases h1
        · simp [Array.getElem?_eq_none h'] at h1
      have h2 := wpOpG_put hR hoj (hfree j oj hoj hji hjun hnot) (fun cs b => hsel i oi cs b hi) (fun cs b => hsel j oj cs b hoj) hQ hy (wpOp_mono (fun a' w' h' => ⟨h'.1 hjz, h'.2⟩) h1)
      have hfree' : ∀ k ok, ops[k]? = some ok → k ≠ i → (listed.setIfInBounds j true).getD k true = false →
          (∀ e ∈ ok.after, Region.binds md e = true → e.on ≠ i) → oi.apart ops ok = true := fun k ok hk hki hun hno => by
        refine hfree k ok hk hki ?_ hno
        by_cases hjk : j = k
        · subst hjk; exact hjun
        · rw [getD_set_ne true hjk] at hun; exact hun
      refine wpOp_mono (fun a' w' h3 => ⟨fun _ => h3.1, ih (listed.setIfInBounds j true) a' w' (hB.set _ _ hcl hj) hfree' (ready_mono hr (Ne.symm hji)) h3.2.1 ?_⟩) h2
      rw [Array.setIfInBounds_comm _ _ hji]
      exact h3.2.2

/-- The walk in one order: a number, and whether the operation is a call ('loud': it alone may come up there). -/
def wpOrd (R : World → World → Prop) (z : Option Nat) (P : Program) (ops : Array Oper) (Q : Exit → Act → World → Prop) : List (Nat × Bool) → Act → World → Prop
  | [], a, w => Q .normal a w
  | (i, loud) :: rest, a, w =>
    match ops[i]? with
    | none => False
    | some o =>
      if Region.wanted o (yielded ops a.tmps) then
        if loud then o.wp P a w (fun a' w' => (some i ≠ z → R w w') ∧ wpOrd R z P ops Q rest a' w') Q
        else some i ≠ z ∧ ∃ v, (∀ w', R w w' → (execOp a.eval o).run P w' = .ok (.value v) w') ∧ wpOrd R z P ops Q rest (a.put o.dst v) w
      else some i ≠ z ∧ wpOrd R z P ops Q rest (a.put o.dst undef) w

/-- The order fits: each operation may come up at its turn; a still one is apart from all that could come up else; a call is alone. -/
def ordB (md : Region.Mode) (ops : Array Oper) : List (Nat × Bool) → Array Bool → Bool
  | [], listed => (Region.ready md ops listed).isEmpty
  | (i, loud) :: rest, listed =>
    (if loud then Region.ready md ops listed == [i] else (Region.ready md ops listed).contains i && Region.free md ops listed i) && ordB md ops rest (listed.setIfInBounds i true)

theorem wpAnyG_ord (hR : Way R) (hL : Last md ops z C) (hs : Region.noSelect ops = true) (hQ : ∀ c a w d v, Q (.panic c) (Act.put a d v) w → Q (.panic c) a w) : ∀ (l : List (Nat × Bool)) (listed : Array Bool) (a : Act) (w : World), C listed →
    ordB md ops l listed = true → wpOrd R z P ops Q l a w → wpAnyG R z P md ops Q l.length listed a w
  | [], listed, a, w, _, hB, h => ⟨by simpa [ordB] using hB, h⟩
  | (i, loud) :: l, listed, a, w, hC, hB, h => by
    simp only [ordB, Bool.and_eq_true] at hB
    obtain ⟨h1, h2⟩ := hB
    simp only [wpOrd] at h
    cases ho : ops[i]? with
    | none => simp only [ho] at h
    | some o =>
      simp only [ho] at h
      cases loud with
      | true =>
        simp only [if_true, beq_iff_eq] at h1
        have hi : i ∈ Region.ready md ops listed := by rw [h1]; exact List.mem_singleton.2 rfl
        refine ⟨fun h0 => (by rw [h1] at h0; cases h0), fun j hj => ?_⟩
        rw [h1] at hj
        obtain rfl : j = i := by simpa using hj
        unfold wpOp
        simp only [ho]
        split
        · rename_i hw
          simp only [hw, if_true] at h
          exact .inl (Oper.wp_mono (fun a' w' h' => ⟨h'.1, wpAnyG_ord hR hL hs hQ l _ a' w' (hL.set _ _ hC hi) h2 h'.2⟩) h)
        · rename_i hw
          simp only [hw, Bool.false_eq_true, if_false] at h
          exact ⟨fun _ => hR.refl _, wpAnyG_ord hR hL hs hQ l _ _ w (hL.set _ _ hC hi) h2 h.2⟩
      | false =>
        simp only [Bool.false_eq_true, if_false, Bool.and_eq_true] at h1 h
        have hi : i ∈ Region.ready md ops listed := by simpa using h1.1
        by_cases hw : Region.wanted o (yielded ops a.tmps) = true
        · simp only [hw, if_true] at h
          obtain ⟨hz, v, hv, hk⟩ := h
          exact wpAnyG_first hR hL ho hz (Region.noSelect_spec hs) (fun c a w => hQ c a w o.dst v) l.length listed a w hC (Region.free_spec ho h1.2) hi (.inl ⟨hw, hv⟩) (wpAnyG_ord hR hL hs hQ l _ _ w (hL.set _ _ hC hi) h2 hk)
        · simp only [hw, Bool.false_eq_true, if_false] at h
          exact wpAnyG_first hR hL ho h.1 (Region.noSelect_spec hs) (fun c a w => hQ c a w o.dst undef) l.length listed a w hC (Region.free_spec ho h1.2) hi (.inr ⟨by simpa using hw, rfl⟩) (wpAnyG_ord hR hL hs hQ l _ _ w (hL.set _ _ hC hi) h2 h.2)

/-- A region that draws its order, walked in one. -/
theorem wp_region_of (hR : Way R) {id : Nat} {l : List Oper} {a : Act} {w : World} (ord : List (Nat × Bool)) (hL : Last .any l.toArray z C) (hC : C (Array.replicate l.toArray.size false)) (hm : P.follows .mixedOrders = true) (hlen : ord.length = l.length) (hs : Region.noSelect l.toArray = true)
    (hB : ordB .any l.toArray ord (Array.replicate l.toArray.size false) = true) (hQ : ∀ c a w d v, Q (.panic c) (Act.put a d v) w → Q (.panic c) a w)
    (h : wpOrd R z P l.toArray Q ord a w.drew) : (Code.region id l.toArray true).wp P Q a w := by
  refine wp_region_any hm (wpAny_of_G (R := R) (z := z) _ _ _ _ ?_)
  have := wpAnyG_ord (md := .any) hR hL hs hQ ord _ a w.drew hC hB h
  rw [hlen] at this
  simpa using this
theorem wp_region_ord (hR : Way R) {id : Nat} {l : List Oper} {a : Act} {w : World} (ord : List (Nat × Bool)) (hm : P.follows .mixedOrders = true) (hlen : ord.length = l.length) (hs : Region.noSelect l.toArray = true)
    (hB : ordB .any l.toArray ord (Array.replicate l.toArray.size false) = true) (hQ : ∀ c a w d v, Q (.panic c) (Act.put a d v) w → Q (.panic c) a w)
    (h : wpOrd R none P l.toArray Q ord a w.drew) : (Code.region id l.toArray true).wp P Q a w :=
  wp_region_of (C := fun _ => True) hR ord ⟨fun _ _ _ _ => trivial, fun _ _ _ _ _ _ h => by cases h⟩ trivial hm hlen hs hB hQ h

/-- A still operation, at its turn: one value in every world that has grown. -/
theorem ord_still {i : Nat} {rest : List (Nat × Bool)} {a : Act} {w : World} {o : Oper} {l : List Oper} (hl : l[i]? = some o) (hp : plainOp o.op = true) (hg : Region.wanted o (yielded l.toArray a.tmps) = true)
    (h : ∀ K : Act → Prop, (∀ a, wpOrd R z P l.toArray Q rest a w → K a) → o.quiet P a (fun w' => ∃ x : GW R w, w' = x.val) K) (hz : some i ≠ z := by decide) : wpOrd R z P l.toArray Q ((i, false) :: rest) a w := by
  have ho : l.toArray[i]? = some o := by simpa using hl
  simp only [wpOrd, ho, hg, if_true, Bool.false_eq_true, if_false]
  obtain ⟨v, h1, h2⟩ := h _ (fun _ h => h)
  refine ⟨hz, v, fun w' hw' => ?_, h2⟩
  have h3 := h1 w' ⟨⟨w', hw'⟩, rfl⟩
  unfold Oper.quietAt at h3
  cases hr : (execOp a.eval o).run P w' with
  | halt x w1 => rw [hr] at h3; exact h3.elim
  | ok r w1 =>
    obtain ⟨u, rfl⟩ := plain_value hp hr
    rw [hr] at h3
    obtain ⟨rfl, rfl⟩ := h3
    rfl

/-- A call, at its turn. -/
theorem ord_loud {i : Nat} {rest : List (Nat × Bool)} {a : Act} {w : World} {o : Oper} {l : List Oper} (hl : l[i]? = some o) (hg : Region.wanted o (yielded l.toArray a.tmps) = true)
    (h : ∀ K : Act → World → Prop, (∀ a' w', R w w' → wpOrd R z P l.toArray Q rest a' w' → K a' w') → o.wp P a w K Q) : wpOrd R z P l.toArray Q ((i, true) :: rest) a w := by
  have ho : l.toArray[i]? = some o := by simpa using hl
  simp only [wpOrd, ho, hg, if_true]
  exact h _ (fun _ _ h1 h2 => ⟨fun _ => h1, h2⟩)

/-- An operation whose guard says no: its slot holds nothing. -/
theorem ord_skip (hR : Way R) {i : Nat} {loud : Bool} {rest : List (Nat × Bool)} {a : Act} {w : World} {dst : Option Tmp} {op : Op} {ty : TypeId} {pos : String} {aft : Array Edge} {gd : Option (Nat × Bool)} {l : List Oper}
    (hl : l[i]? = some ⟨dst, op, ty, pos, aft, gd⟩) (hg : Region.wanted ⟨dst, op, ty, pos, aft, gd⟩ (yielded l.toArray a.tmps) = false)
    (h : ∀ K : Act → Prop, (∀ a, wpOrd R z P l.toArray Q rest a w → K a) → Oper.quiet P ⟨dst, .move (.const undef), ty, pos, aft, none⟩ a (fun w' => ∃ x : GW R w, w' = x.val) K) (hz : some i ≠ z := by decide) : wpOrd R z P l.toArray Q ((i, loud) :: rest) a w := by
  have ho : l.toArray[i]? = some ⟨dst, op, ty, pos, aft, gd⟩ := by simpa using hl
  simp only [wpOrd, ho, hg, Bool.false_eq_true, if_false]
  obtain ⟨v, h1, h2⟩ := h _ (fun _ h => h)
  have h3 := h1 w ⟨⟨w, hR.refl w⟩, rfl⟩
  unfold Oper.quietAt at h3
  rw [BigFrame.run_move (.const undef) rfl] at h3
  obtain ⟨_, rfl⟩ := h3
  exact ⟨hz, h2⟩

/-- The walk's end. -/
theorem ord_nil {a : Act} {w : World} (h : Q .normal a w) : wpOrd R z P ops Q [] a w := h
/-- The last one. -/
theorem ord_last {i : Nat} {a : Act} {w : World} {o : Oper} {l : List Oper} (hl : l[i]? = some o) (hg : Region.wanted o (yielded l.toArray a.tmps) = true)
    (h : ∀ K : Act → World → Prop, (∀ a' w', Q .normal a' w' → K a' w') → o.wp P a w K Q) : wpOrd R (some i) P l.toArray Q [(i, true)] a w := by
  have ho : l.toArray[i]? = some o := by simpa using hl
  simp only [wpOrd, ho, hg, if_true]
  exact h _ (fun _ _ h2 => ⟨fun h => absurd rfl h, h2⟩)

attribute [irreducible] wpOrd
end
end Go.Proofs.YtokpphhmmcoeaaaGreatDoor.OrdR


/-
  A region whose order is open, walked in one order over worlds that have grown.
-/
namespace Go.Proofs.YtokpphhmmcoeaaaGreatDoor.Ord
open Go.RowKit

/-- w' is w with new blocks (and draws): of what was there nothing has turned. -/
def Grew (w w' : World) : Prop := Below w.heap.size w w'
theorem Grew.refl (w : World) : Grew w w := Below.refl _ _
theorem Grew.trans {a b c : World} (h : Grew a b) (k : Grew b c) : Grew a c := Below.trans h (Below.mono k h.size)
theorem Grew.drew {a w : World} (h : Grew a w) : Grew a w.drew := Below.drew h
theorem way : OrdR.Way Grew := ⟨Grew.refl, fun _ _ _ h k => h.trans k⟩
/-- The worlds that have grown out of w. -/
abbrev GW (w : World) := OrdR.GW Grew w
instance (w : World) : Nonempty (GW w) := ⟨⟨w, Grew.refl w⟩⟩

end Go.Proofs.YtokpphhmmcoeaaaGreatDoor.Ord


/-
  What stays true of byte slices in every world that has grown.
-/
namespace Go.Proofs.YtokpphhmmcoeaaaGreatDoor
open Go.RowKit

theorem Rd.grew {w w' : World} {v : Value} {l : List UInt8} (h : Rd w v l) (hg : Ord.Grew w w') : Rd w' v l := h.later hg (Nat.le_refl _)

theorem Rd.str_later {w : World} {v : Value} {l : List UInt8} (h : Rd w v l) : ∀ x : Ord.GW w, (convert 84 9 v).run Tryz.prog x.val = .ok (.string ⟨l.toArray⟩) x.val := fun x => (h.grew x.grew).str

theorem str_later {w : World} {base : Nat} {v : Value} {l : List UInt8} (h : Own w base v l) (hs : l.length ≤ 140737488351232) : ∀ x : Ord.GW w, (convert 84 9 v).run Tryz.prog x.val = .ok (.string ⟨l.toArray⟩) x.val := (h.rd hs).str_later

theorem len_own {w : World} {base : Nat} {v : Value} {l : List UInt8} (h : Own w base v l) (hs : l.length ≤ 140737488351232) : ∀ u, (Builtin.len_ #[84] 3 #[v]).run Tryz.prog u = .ok (.int .i64 (l.length : Int)) u := (h.rd hs).len

end Go.Proofs.YtokpphhmmcoeaaaGreatDoor


/-
  What every law's frame wants: an argument's reading, as the walks take it.
-/
namespace Go.Proofs.YtokpphhmmcoeaaaGreatDoor
open Go.ChangeShapes Go.WideShapes Go.ChangeAt Go.RowKit

theorem own : ownKnob Tryz.prog.godebug = none := by kernel_rfl
theorem laidOut : laidOutB Tryz.prog = true := by kernel_rfl

theorem bd_i64 {x : Int} (h : (Lit.int .i64 x).wf = true) : -9223372036854775808 ≤ x ∧ x ≤ 9223372036854775807 := by
  simpa [Lit.wf, IntKind.min, IntKind.max, IntKind.signed, IntKind.bits] using h
theorem bd_u64 {x : Int} (h : (Lit.int .u64 x).wf = true) : 0 ≤ x ∧ x ≤ 18446744073709551615 := by
  simpa [Lit.wf, IntKind.min, IntKind.max, IntKind.signed, IntKind.bits] using h
theorem bd_u32 {x : Int} (h : (Lit.int .u32 x).wf = true) : 0 ≤ x ∧ x ≤ 4294967295 := by
  simpa [Lit.wf, IntKind.min, IntKind.max, IntKind.signed, IntKind.bits] using h
theorem bd_u16 {x : Int} (h : (Lit.int .u16 x).wf = true) : 0 ≤ x ∧ x ≤ 65535 := by
  simpa [Lit.wf, IntKind.min, IntKind.max, IntKind.signed, IntKind.bits] using h
theorem bd_u8 {x : Int} (h : (Lit.int .u8 x).wf = true) : 0 ≤ x ∧ x ≤ 255 := by
  simpa [Lit.wf, IntKind.min, IntKind.max, IntKind.signed, IntKind.bits] using h
theorem bd_i32 {x : Int} (h : (Lit.int .i32 x).wf = true) : -2147483648 ≤ x ∧ x ≤ 2147483647 := by
  simpa [Lit.wf, IntKind.min, IntKind.max, IntKind.signed, IntKind.bits] using h

theorem cells_u8 : Tryz.prog.cellsOf 5 = 1 := by kernel_rfl
theorem bytes_u8 : Tryz.prog.bytesOf 5 = 1 := by kernel_rfl

section
variable {H : Type} {enc : TypeId × Value → H} {W : World}

/-- A slice of bytes that came in, as the walks read it. -/
theorem rd_open {base : Nat} {v : Value} {d : DataW H} {ps : List MemPlace} {ts : List TypeId} {ds : List (DataW H)} {j : Nat} (hval : Value.okWide Tryz.prog W .any base 84 v)
    (h : DataW.Trod enc Tryz.prog W 0 (fun _ => true) true 84 v d ps) (hz : (DataW.weightsEach Tryz.prog ts ds).all (· ≤ reachBytes) = true) (ht : ts[j]? = some 84) (hd : ds[j]? = some d) : ∃ l, Rd W v l := by
  obtain ⟨a0, len, cap, rfl⟩ := okWide_slice Tryz.underlying84 hval
  obtain ⟨fuel, hf⟩ := h
  rcases open_ints Tryz.underlying84 Tryz.underlying5 cells_u8 hf with ⟨hcs, _⟩ | ⟨x, l, c, zs, hcs, _, hl, hm, hzl, hx, hcell, hwz⟩
  · simp [Value.cells] at hcs
    obtain ⟨rfl, rfl, rfl⟩ := hcs
    exact ⟨[], Rd.nil W⟩
  · simp [Value.cells] at hcs
    obtain ⟨rfl, rfl, rfl⟩ := hcs
    simp only [Prod.mk.injEq] at hx
    obtain ⟨rfl, _⟩ := hx
    simp only [if_true] at hzl
    have hs := sized_slice hz ht hd Tryz.underlying84
    rw [bytes_u8] at hs
    simp only [lits, List.length_map, List.length_take, List.length_drop, reachBytes] at hs
    have hbnd : ∀ n ∈ zs, 0 ≤ n ∧ n ≤ 255 := fun n hn => bd_u8 (hwz n hn)
    refine ⟨(zs.take len).map fun n => UInt8.ofNat n.toNat, ⟨some x, cap, ?_, ?_, (by intro h; cases h), ?_⟩, ?_, ?_⟩
    · simp; omega
    · simp; omega
    · intro hp
      simp at hp
      have h0 := hcell 0 (by omega)
      obtain ⟨b, o, sp⟩ := x
      cases sp with
      | none => exact ⟨b, o, rfl⟩
      | some s =>
        exfalso
        simp only [Addr.add, if_true, World.cell?] at h0
        split at h0 <;> simp at h0
    · intro i hi
      simp at hi
      have h0 := hcell i (by omega)
      have e : at8 ((zs.take len).map fun n => UInt8.ofNat n.toNat) i = zs.getD i 0 := by
        have hz' := hbnd (zs[i]'(by omega)) (List.getElem_mem _)
        rw [at8_eq (by simp; omega)]
        simp [List.getD, show i < zs.length by omega]
        omega
      rw [e]
      exact h0
    · simp; omega
end

end Go.Proofs.YtokpphhmmcoeaaaGreatDoor


/-
  Slices of numbers of any kind that came in: how they read, and what the operations on them do.
-/
namespace Go.Proofs.YtokpphhmmcoeaaaGreatDoor
open Go.ChangeShapes Go.WideShapes Go.ChangeAt Go.RowKit

/-- The number at place i of a list. -/
def atI (l : List Int) (i : Nat) : Int := l.getD i 0

/-- The slice value v reads as the numbers l of kind k in the world w. -/
structure RdI (k : IntKind) (w : World) (v : Value) (l : List Int) : Prop where
  shape : ∃ ao cap, v = .slice ao l.length cap ∧ l.length ≤ cap ∧ (ao = none → cap = 0) ∧ (0 < l.length → ∃ b o, ao = some ⟨b, o, none⟩)
  cells : ∀ i, i < l.length → w.cell? (adr v i) = some (.int k (atI l i))
  wf : ∀ n ∈ l, (Lit.int k n).wf = true
  small : l.length ≤ 140737488351232

theorem RdI.block {k : IntKind} {w : World} {v : Value} {l : List Int} (h : RdI k w v l) {i : Nat} (hi : i < l.length) : (adr v i).block < w.heap.size :=
  World.block_lt_of_cell? w _ (h.cells i hi)
theorem RdI.later {k : IntKind} {w w' : World} {v : Value} {l : List Int} (h : RdI k w v l) {B : Nat} (hb : Below B w w') (hB : w.heap.size ≤ B) : RdI k w' v l :=
  ⟨h.shape, fun i hi => by rw [hb.cell (Nat.lt_of_lt_of_le (h.block hi) hB)]; exact h.cells i hi, h.wf, h.small⟩
theorem RdI.drew {k : IntKind} {w : World} {v : Value} {l : List Int} (h : RdI k w v l) : RdI k w.drew v l := ⟨h.shape, h.cells, h.wf, h.small⟩
theorem RdI.nil (k : IntKind) (w : World) : RdI k w (.slice none 0 0) [] :=
  ⟨⟨none, 0, rfl, Nat.le_refl _, fun _ => rfl, fun h => absurd h (by simp)⟩, fun i hi => absurd hi (by simp), by simp, by simp⟩

theorem RdI.len {k : IntKind} {w : World} {v : Value} {l : List Int} (h : RdI k w v l) {t : TypeId} (ht : Tryz.prog.underlying t = some (.slice (Tryz.prog.elem t))) :
    ∀ u, (Builtin.len_ #[t] 3 #[v]).run Tryz.prog u = .ok (.int .i64 (l.length : Int)) u := by
  intro u
  obtain ⟨⟨ao, cap, rfl, _⟩, _, _, _⟩ := h
  exact run_len_slice u _ _ ao _ _ ht

theorem RdI.idx {k : IntKind} {w : World} {v : Value} {l : List Int} (h : RdI k w v l) {t : TypeId} (ht : Tryz.prog.underlying t = some (.slice (Tryz.prog.elem t))) (h1 : (Tryz.prog.info? (Tryz.prog.elem t)).map (·.size) = some 1) (i : Nat) (hi : i < l.length) :
    ∀ u, (Instr.indexAt t v (.int .i64 (i : Int))).run Tryz.prog u = .ok (.pointer (some (adr v i))) u := by
  intro u
  obtain ⟨⟨ao, cap, rfl, _, _, hp⟩, _, _, _⟩ := h
  obtain ⟨b, o, rfl⟩ := hp (by omega)
  have := run_indexAt_slice (P := Tryz.prog) u t ⟨b, o, none⟩ l.length cap .i64 i ht
  rw [this, if_pos ⟨by omega, by omega⟩]
  obtain ⟨inf, hi1, hi2⟩ := Option.map_eq_some_iff.1 h1
  simp [sizeOf, typeInfo, hi1, hi2, Result.andThen, adr]

theorem RdI.mem {k : IntKind} {w : World} {v : Value} {l : List Int} (h : RdI k w v l) {i : Nat} (hi : i < l.length) : (Lit.int k (atI l i)).wf = true := by
  refine h.wf _ ?_
  simp [atI, List.getD, hi]

section
variable {H : Type} {enc : TypeId × Value → H} {W : World}

/-- A slice of numbers that came in, as the walks read it. -/
theorem ints_open {k : IntKind} {t e : TypeId} (hu : Tryz.prog.underlying t = some (.slice e)) (he : Tryz.prog.underlying e = some (.int k)) (hc : Tryz.prog.cellsOf e = 1) (hby : 1 ≤ Tryz.prog.bytesOf e)
    {base : Nat} {v : Value} {d : DataW H} {ps : List MemPlace} {ts : List TypeId} {ds : List (DataW H)} {j : Nat} (hval : Value.okWide Tryz.prog W .any base t v)
    (h : DataW.Trod enc Tryz.prog W 0 (fun _ => true) true t v d ps) (hz : (DataW.weightsEach Tryz.prog ts ds).all (· ≤ reachBytes) = true) (ht : ts[j]? = some t) (hd : ds[j]? = some d) : ∃ l, RdI k W v l := by
  obtain ⟨a0, len, cap, rfl⟩ := okWide_slice hu hval
  obtain ⟨fuel, hf⟩ := h
  rcases open_ints hu he hc hf with ⟨hcs, _⟩ | ⟨x, l, c, zs, hcs, _, hl, hm, hzl, hx, hcell, hwz⟩
  · simp [Value.cells] at hcs
    obtain ⟨rfl, rfl, rfl⟩ := hcs
    exact ⟨[], RdI.nil k W⟩
  · simp [Value.cells] at hcs
    obtain ⟨rfl, rfl, rfl⟩ := hcs
    simp only [Prod.mk.injEq] at hx
    obtain ⟨rfl, _⟩ := hx
    simp only [if_true] at hzl
    have hs := sized_slice hz ht hd hu
    simp only [lits, List.length_map, List.length_take, List.length_drop, reachBytes] at hs
    have hs2 : len ≤ 140737488351232 := by
      have : (min len zs.length + (zs.length - len)) * 1 ≤ (min len zs.length + (zs.length - len)) * Tryz.prog.bytesOf e := Nat.mul_le_mul_left _ hby
      omega
    have hlen : (zs.take len).length = len := by simp; omega
    refine ⟨zs.take len, ⟨some x, cap, by rw [hlen], by omega, (by intro h; cases h), ?_⟩, ?_, fun n hn => hwz n (List.mem_of_mem_take hn), by omega⟩
    · intro hp
      rw [hlen] at hp
      have h0 := hcell 0 (by omega)
      obtain ⟨b, o, sp⟩ := x
      cases sp with
      | none => exact ⟨b, o, rfl⟩
      | some s =>
        exfalso
        simp only [Addr.add, if_true, World.cell?] at h0
        split at h0 <;> simp at h0
    · intro i hi
      rw [hlen] at hi
      have h0 := hcell i (by omega)
      have e : atI (zs.take len) i = zs.getD i 0 := by simp only [atI, List.getD]; rw [List.getElem?_take_of_lt hi]
      rw [e]
      exact h0
end

end Go.Proofs.YtokpphhmmcoeaaaGreatDoor


/-
  UTF-8 as the document's own answer for layer 4 tells it: the mathematics, and the walk of deckleref04.UTF8.
-/
namespace Go.Proofs.YtokpphhmmcoeaaaGreatDoor
open Go.RowKit

/-- What n bytes more make of c: nothing, if one is lacking, or is no such byte. -/
def utf8V : Nat → Nat → List UInt8 → Option Nat
  | 0, c, _ => some c
  | _ + 1, _, [] => none
  | n + 1, c, b :: r => if b.toNat / 64 = 2 then utf8V n (64 * c + b.toNat % 64) r else none

/-- May it be a rune, with as many bytes? -/
def runeOK (least v : Nat) : Bool := !(decide (v < least) || decide (1114111 < v) || (decide (55296 ≤ v) && decide (v < 57344)))

/-- The first byte: how many come behind, what it holds, and the least that may be. -/
def leadOf (c : Nat) : Option (Nat × Nat × Nat) :=
  if 194 ≤ c ∧ c < 224 then some (1, c % 32, 128)
  else if 224 ≤ c ∧ c < 240 then some (2, c % 16, 2048)
  else if 240 ≤ c ∧ c < 245 then some (3, c % 8, 65536)
  else none

def utf8 : List UInt8 → Bool
  | [] => true
  | c :: r =>
    if c.toNat < 128 then utf8 r
    else match leadOf c.toNat with
      | none => false
      | some (n, m, least) => match utf8V n m r with
        | none => false
        | some v => runeOK least v && utf8 (r.drop n)
  termination_by l => l.length
  decreasing_by all_goals (simp; try omega)

theorem utf8_nil : utf8 [] = true := by rw [utf8]
theorem utf8_low {c : UInt8} {r : List UInt8} (h : c.toNat < 128) : utf8 (c :: r) = utf8 r := by rw [utf8, if_pos h]
theorem utf8_none {c : UInt8} {r : List UInt8} (h : ¬ c.toNat < 128) (hl : leadOf c.toNat = none) : utf8 (c :: r) = false := by rw [utf8, if_neg h, hl]
theorem utf8_lead {c : UInt8} {r : List UInt8} {n m least : Nat} (h : ¬ c.toNat < 128) (hl : leadOf c.toNat = some (n, m, least)) : utf8 (c :: r) = (match utf8V n m r with
        | none => false
        | some v => runeOK least v && utf8 (r.drop n)) := by rw [utf8, if_neg h, hl]

theorem drop_cons8 {l : List UInt8} {i : Nat} (h : i < l.length) : l.drop i = l.getD i 0 :: l.drop (i + 1) := by
  rw [List.drop_eq_getElem_cons h]
  simp [List.getD, h]

theorem utf8V_next {n c i : Nat} {l : List UInt8} (h : i < l.length) : utf8V (n + 1) c (l.drop i) = if (l.getD i 0).toNat / 64 = 2 then utf8V n (64 * c + (l.getD i 0).toNat % 64) (l.drop (i + 1)) else none := by
  rw [drop_cons8 h, utf8V]
theorem utf8V_end {n c i : Nat} {l : List UInt8} (h : l.length ≤ i) : utf8V (n + 1) c (l.drop i) = none := by
  rw [List.drop_eq_nil_of_le h, utf8V]

/-- A string, as the walks read it. -/
structure RdS (s : ByteArray) (l : List UInt8) : Prop where
  eq : s = ⟨l.toArray⟩
  small : l.length ≤ 140737488351232

theorem RdS.len {s : ByteArray} {l : List UInt8} (h : RdS s l) : ∀ u, (Builtin.len_ #[9] 3 #[.string s]).run Tryz.prog u = .ok (.int .i64 (l.length : Int)) u := by
  intro u
  have e := run_len_string (P := Tryz.prog) (w := u) 9 3 (⟨l.toArray⟩ : ByteArray) Tryz.underlying9
  have hs : (⟨l.toArray⟩ : ByteArray).size = l.length := by simp [ByteArray.size]
  rw [hs] at e
  rw [h.eq]
  exact e

theorem RdS.idx {s : ByteArray} {l : List UInt8} (h : RdS s l) (i : Nat) (hi : i < l.length) : ∀ u, (Instr.index 9 (.string s) (.int .i64 (i : Int))).run Tryz.prog u = .ok (.int .u8 (at8 l i)) u := by
  intro u
  rw [h.eq]
  have hs : (⟨l.toArray⟩ : ByteArray).size = l.length := by simp [ByteArray.size]
  rw [run_index_string (P := Tryz.prog) u 9 ⟨l.toArray⟩ .i64 i Tryz.underlying9, dif_pos ⟨by omega, by rw [hs]; omega⟩, at8_eq hi]
  rfl

set_option maxHeartbeats 4000000 in
set_option maxRecDepth 1000000 in
theorem ref_UTF8 (s : ByteArray) (l : List UInt8) (w : World) (h : RdS s l) :
    Calls Tryz.prog 99 #[.string s] w fun e w' => e = .returned (.bool (utf8 l)) ∧ w = w' := by
  have hlen := h.len
  have hidx := h.idx
  have hsm := h.small
  go_enter Tryz.func99, Tryz.ntmps99
  go_wp2
  go_loop [3] (fun i => ∃ k : Nat, k ≤ l.length ∧ i = .int .i64 k ∧ Hid (utf8 l = utf8 (l.drop k))) (fun i => l.length - (intOf i).toNat)
  case atStart => exact ⟨0, by omega, rfl, Lib.hid (by rw [List.drop_zero])⟩
  case round =>
    obtain ⟨k, hk, rfl, HK⟩ := hrel
    by_cases hlt : k < l.length
    · obtain ⟨c, hc⟩ : ∃ c : Nat, at8 l k = (c : Int) := ⟨(l.getD k 0).toNat, rfl⟩
      have hc1 := at8_hi l k
      have hcc : (l.getD k 0).toNat = c := by unfold at8 at hc; omega
      have HC := Lib.hid hcc
      have hx := hidx k hlt
      rw [hc] at hc1
      clear hcc
      by_cases h1 : c < 128
      · go_wp2
        go_round
        case rel => exact ⟨k + 1, by omega, by go_num, Lib.hid (by rw [HK.out, drop_cons8 hlt, utf8_low (by rw [HC.out]; exact h1)])⟩
        case measure => simp [intOf]; omega
      · by_cases h2 : 194 ≤ c ∧ c < 224
        · obtain ⟨h2a, h2b⟩ := h2
          have hd1 : decide ((c : Int) ≥ 194) = true := decide_eq_true (by omega)
          have hd2 : decide ((c : Int) < 224) = true := decide_eq_true (by omega)
          have hl : leadOf c = some (1, c % 32, 128) := by unfold leadOf; rw [if_pos (by omega)]
          have HK2 := Lib.hid (show utf8 l = (match utf8V 1 (c % 32) (l.drop (k + 1)) with
                  | none => false
                  | some v => runeOK 128 v && utf8 ((l.drop (k + 1)).drop 1)) by rw [HK.out, drop_cons8 hlt]; exact utf8_lead (by rw [HC.out]; omega) (by rw [HC.out]; exact hl))
          have hm : (c : Int) % 32 = ((c % 32 : Nat) : Int) := by omega
          have hmlt : c % 32 < 32 := by omega
          obtain ⟨m, hmm⟩ : ∃ m, m = c % 32 := ⟨_, rfl⟩
          rw [← hmm] at hm hmlt HK2
          clear hl hmm HK
          go_wp2
          go_loop [4, 7] (fun cc qq => ∃ q cv : Nat, 1 ≤ q ∧ q ≤ 2 ∧ k + q ≤ l.length ∧ qq = .int .i64 q ∧ cc = .int .i64 cv ∧ Hid ((q = 1 ∧ cv ≤ 31) ∨ (q = 2 ∧ cv ≤ 2047) ∨ (q = 3 ∧ cv ≤ 131071) ∨ (q = 4 ∧ cv ≤ 8388607)) ∧ Hid (utf8V 1 m (l.drop (k + 1)) = utf8V (2 - q) cv (l.drop (k + q)))) (fun _ qq => 2 - (intOf qq).toNat)
          case atStart => exact ⟨1, m, by omega, by omega, by omega, rfl, rfl, Lib.hid (.inl ⟨rfl, by omega⟩), Lib.hid rfl⟩
          case round =>
            obtain ⟨q, cv, hq1, hq2, hq3, rfl, rfl, HBD, HV⟩ := hrel
            have hcv : cv ≤ 8388607 := by have := HBD.out; omega
            by_cases hqn : q ≤ 1
            · by_cases hlq : k + q < l.length
              · have hx2 := hidx (k + q) hlq
                rw [show ((k + q : Nat) : Int) = (k : Int) + (q : Int) from by omega] at hx2
                obtain ⟨d, hd⟩ : ∃ d : Nat, at8 l (k + q) = (d : Int) := ⟨(l.getD (k + q) 0).toNat, rfl⟩
                have hd2 : (l.getD (k + q) 0).toNat = d := by unfold at8 at hd; omega
                have hd3 := at8_hi l (k + q)
                rw [hd] at hx2 hd3
                have hnx := utf8V_next (n := 1 - q) (c := cv) hlq
                rw [hd2] at hnx
                have HN := Lib.hid hnx
                clear hd hd2 hnx
                have hge : ¬ (k : Int) + (q : Int) ≥ (l.length : Int) := by omega
                by_cases h2 : d / 64 = 2
                · have h2' : (((d : Int) / 64) != 2) = false := by simp; omega
                  have h2'' : ((d : Int) / 64) = 2 := by omega
                  obtain ⟨r, hr⟩ : ∃ r, r = d % 64 := ⟨_, rfl⟩
                  have hdm : (d : Int) % 64 = (r : Int) := by omega
                  have hr64 : r < 64 := by omega
                  have HRR := Lib.hid hr
                  clear hr
                  go_wp2
                  go_round
                  case rel => exact ⟨q + 1, 64 * cv + r, by omega, by omega, by omega, by go_num, by go_num, Lib.hid (by have := HBD.out; omega), Lib.hid (by rw [HV.out, show 2 - q = (1 - q) + 1 from by omega, HN.out, if_pos h2, ← HRR.out, show 2 - (q + 1) = 1 - q from by omega, Nat.add_assoc])⟩
                  case measure => simp [intOf]; omega
                · have h2' : (((d : Int) / 64) != 2) = true := by simp; omega
                  have hf : utf8 l = false := by rw [HK2.out, HV.out, show 2 - q = (1 - q) + 1 from by omega, HN.out, if_neg h2]
                  have HF := Lib.hid hf
                  clear hf
                  go_wp2
                  go_ret
                  refine ⟨?_, rfl⟩
                  rw [HF.out]
                  rfl
              · have hge : (k : Int) + (q : Int) ≥ (l.length : Int) := by omega
                have hf : utf8 l = false := by rw [HK2.out, HV.out, show 2 - q = (1 - q) + 1 from by omega, utf8V_end (by omega)]
                have HF := Lib.hid hf
                clear hf
                go_wp2
                go_ret
                refine ⟨?_, rfl⟩
                rw [HF.out]
                rfl
            · obtain rfl : q = 2 := by omega
              have hv : utf8V 1 m (l.drop (k + 1)) = some cv := by rw [HV.out]; rfl
              have hu : utf8 l = (runeOK 128 cv && utf8 (l.drop (k + 2))) := by rw [HK2.out, hv, List.drop_drop]
              have HU := Lib.hid hu
              clear hv hu
              by_cases ho : runeOK 128 cv = true
              · have HO := Lib.hid ho
                have ho2 := ho
                simp only [runeOK, Bool.not_eq_true', Bool.or_eq_false_iff, Bool.and_eq_false_iff, decide_eq_false_iff_not] at ho2
                obtain ⟨⟨o1, o2⟩, o3⟩ := ho2
                clear ho
                have e1 : decide ((cv : Int) < 128) = false := decide_eq_false (by omega)
                have e2 : decide ((cv : Int) > 1114111) = false := decide_eq_false (by omega)
                by_cases o4 : 55296 ≤ cv
                · have o5 : ¬ cv < 57344 := by omega
                  have e3 : decide ((cv : Int) ≥ 55296) = true := decide_eq_true (by omega)
                  have e4 : decide ((cv : Int) < 57344) = false := decide_eq_false (by omega)
                  go_wp2
                  go_round
                  case rel => exact ⟨k + 2, by omega, by go_num, Lib.hid (by rw [HU.out, HO.out]; rfl)⟩
                  case measure => simp [intOf]; omega
                · have e3 : decide ((cv : Int) ≥ 55296) = false := decide_eq_false (by omega)
                  go_wp2
                  go_round
                  case rel => exact ⟨k + 2, by omega, by go_num, Lib.hid (by rw [HU.out, HO.out]; rfl)⟩
                  case measure => simp [intOf]; omega
              · have hf : utf8 l = false := by rw [HU.out, Bool.eq_false_iff.2 ho]; rfl
                have HF := Lib.hid hf
                clear hf
                by_cases o1 : cv < 128
                · have e1 : decide ((cv : Int) < 128) = true := decide_eq_true (by omega)
                  go_wp2
                  go_ret
                  refine ⟨?_, rfl⟩
                  rw [HF.out]
                  rfl
                · have e1 : decide ((cv : Int) < 128) = false := decide_eq_false (by omega)
                  by_cases o2 : 1114111 < cv
                  · have e2 : decide ((cv : Int) > 1114111) = true := decide_eq_true (by omega)
                    go_wp2
                    go_ret
                    refine ⟨?_, rfl⟩
                    rw [HF.out]
                    rfl
                  · have o3 : 55296 ≤ cv ∧ cv < 57344 := by
                      refine Decidable.of_not_not fun o3 => ho ?_
                      simp only [runeOK, Bool.not_eq_true', Bool.or_eq_false_iff, Bool.and_eq_false_iff, decide_eq_false_iff_not]
                      omega
                    obtain ⟨o4, o5⟩ := o3
                    have e2 : decide ((cv : Int) > 1114111) = false := decide_eq_false (by omega)
                    have e3 : decide ((cv : Int) ≥ 55296) = true := decide_eq_true (by omega)
                    have e4 : decide ((cv : Int) < 57344) = true := decide_eq_true (by omega)
                    go_wp2
                    go_ret
                    refine ⟨?_, rfl⟩
                    rw [HF.out]
                    rfl
        · have hd1 : (decide ((c : Int) ≥ 194) && decide ((c : Int) < 224)) = false := by simp; omega
          by_cases h3 : 224 ≤ c ∧ c < 240
          · obtain ⟨h3a, h3b⟩ := h3
            have hd3 : decide ((c : Int) ≥ 194) = true := decide_eq_true (by omega)
            have hd4 : decide ((c : Int) < 224) = false := decide_eq_false (by omega)
            have hd5 : decide ((c : Int) ≥ 224) = true := decide_eq_true (by omega)
            have hd6 : decide ((c : Int) < 240) = true := decide_eq_true (by omega)
            have hl : leadOf c = some (2, c % 16, 2048) := by unfold leadOf; rw [if_neg (by omega), if_pos (by omega)]
            have HK2 := Lib.hid (show utf8 l = (match utf8V 2 (c % 16) (l.drop (k + 1)) with
                    | none => false
                    | some v => runeOK 2048 v && utf8 ((l.drop (k + 1)).drop 2)) by rw [HK.out, drop_cons8 hlt]; exact utf8_lead (by rw [HC.out]; omega) (by rw [HC.out]; exact hl))
            have hm : (c : Int) % 16 = ((c % 16 : Nat) : Int) := by omega
            have hmlt : c % 16 < 32 := by omega
            obtain ⟨m, hmm⟩ : ∃ m, m = c % 16 := ⟨_, rfl⟩
            rw [← hmm] at hm hmlt HK2
            clear hl hmm HK
            go_wp2
            go_loop [4, 7] (fun cc qq => ∃ q cv : Nat, 1 ≤ q ∧ q ≤ 3 ∧ k + q ≤ l.length ∧ qq = .int .i64 q ∧ cc = .int .i64 cv ∧ Hid ((q = 1 ∧ cv ≤ 31) ∨ (q = 2 ∧ cv ≤ 2047) ∨ (q = 3 ∧ cv ≤ 131071) ∨ (q = 4 ∧ cv ≤ 8388607)) ∧ Hid (utf8V 2 m (l.drop (k + 1)) = utf8V (3 - q) cv (l.drop (k + q)))) (fun _ qq => 3 - (intOf qq).toNat)
            case atStart => exact ⟨1, m, by omega, by omega, by omega, rfl, rfl, Lib.hid (.inl ⟨rfl, by omega⟩), Lib.hid rfl⟩
            case round =>
              obtain ⟨q, cv, hq1, hq2, hq3, rfl, rfl, HBD, HV⟩ := hrel
              have hcv : cv ≤ 8388607 := by have := HBD.out; omega
              by_cases hqn : q ≤ 2
              · by_cases hlq : k + q < l.length
                · have hx2 := hidx (k + q) hlq
                  rw [show ((k + q : Nat) : Int) = (k : Int) + (q : Int) from by omega] at hx2
                  obtain ⟨d, hd⟩ : ∃ d : Nat, at8 l (k + q) = (d : Int) := ⟨(l.getD (k + q) 0).toNat, rfl⟩
                  have hd2 : (l.getD (k + q) 0).toNat = d := by unfold at8 at hd; omega
                  have hd3 := at8_hi l (k + q)
                  rw [hd] at hx2 hd3
                  have hnx := utf8V_next (n := 2 - q) (c := cv) hlq
                  rw [hd2] at hnx
                  have HN := Lib.hid hnx
                  clear hd hd2 hnx
                  have hge : ¬ (k : Int) + (q : Int) ≥ (l.length : Int) := by omega
                  by_cases h2 : d / 64 = 2
                  · have h2' : (((d : Int) / 64) != 2) = false := by simp; omega
                    have h2'' : ((d : Int) / 64) = 2 := by omega
                    obtain ⟨r, hr⟩ : ∃ r, r = d % 64 := ⟨_, rfl⟩
                    have hdm : (d : Int) % 64 = (r : Int) := by omega
                    have hr64 : r < 64 := by omega
                    have HRR := Lib.hid hr
                    clear hr
                    go_wp2
                    go_round
                    case rel => exact ⟨q + 1, 64 * cv + r, by omega, by omega, by omega, by go_num, by go_num, Lib.hid (by have := HBD.out; omega), Lib.hid (by rw [HV.out, show 3 - q = (2 - q) + 1 from by omega, HN.out, if_pos h2, ← HRR.out, show 3 - (q + 1) = 2 - q from by omega, Nat.add_assoc])⟩
                    case measure => simp [intOf]; omega
                  · have h2' : (((d : Int) / 64) != 2) = true := by simp; omega
                    have hf : utf8 l = false := by rw [HK2.out, HV.out, show 3 - q = (2 - q) + 1 from by omega, HN.out, if_neg h2]
                    have HF := Lib.hid hf
                    clear hf
                    go_wp2
                    go_ret
                    refine ⟨?_, rfl⟩
                    rw [HF.out]
                    rfl
                · have hge : (k : Int) + (q : Int) ≥ (l.length : Int) := by omega
                  have hf : utf8 l = false := by rw [HK2.out, HV.out, show 3 - q = (2 - q) + 1 from by omega, utf8V_end (by omega)]
                  have HF := Lib.hid hf
                  clear hf
                  go_wp2
                  go_ret
                  refine ⟨?_, rfl⟩
                  rw [HF.out]
                  rfl
              · obtain rfl : q = 3 := by omega
                have hv : utf8V 2 m (l.drop (k + 1)) = some cv := by rw [HV.out]; rfl
                have hu : utf8 l = (runeOK 2048 cv && utf8 (l.drop (k + 3))) := by rw [HK2.out, hv, List.drop_drop]
                have HU := Lib.hid hu
                clear hv hu
                by_cases ho : runeOK 2048 cv = true
                · have HO := Lib.hid ho
                  have ho2 := ho
                  simp only [runeOK, Bool.not_eq_true', Bool.or_eq_false_iff, Bool.and_eq_false_iff, decide_eq_false_iff_not] at ho2
                  obtain ⟨⟨o1, o2⟩, o3⟩ := ho2
                  clear ho
                  have e1 : decide ((cv : Int) < 2048) = false := decide_eq_false (by omega)
                  have e2 : decide ((cv : Int) > 1114111) = false := decide_eq_false (by omega)
                  by_cases o4 : 55296 ≤ cv
                  · have o5 : ¬ cv < 57344 := by omega
                    have e3 : decide ((cv : Int) ≥ 55296) = true := decide_eq_true (by omega)
                    have e4 : decide ((cv : Int) < 57344) = false := decide_eq_false (by omega)
                    go_wp2
                    go_round
                    case rel => exact ⟨k + 3, by omega, by go_num, Lib.hid (by rw [HU.out, HO.out]; rfl)⟩
                    case measure => simp [intOf]; omega
                  · have e3 : decide ((cv : Int) ≥ 55296) = false := decide_eq_false (by omega)
                    go_wp2
                    go_round
                    case rel => exact ⟨k + 3, by omega, by go_num, Lib.hid (by rw [HU.out, HO.out]; rfl)⟩
                    case measure => simp [intOf]; omega
                · have hf : utf8 l = false := by rw [HU.out, Bool.eq_false_iff.2 ho]; rfl
                  have HF := Lib.hid hf
                  clear hf
                  by_cases o1 : cv < 2048
                  · have e1 : decide ((cv : Int) < 2048) = true := decide_eq_true (by omega)
                    go_wp2
                    go_ret
                    refine ⟨?_, rfl⟩
                    rw [HF.out]
                    rfl
                  · have e1 : decide ((cv : Int) < 2048) = false := decide_eq_false (by omega)
                    by_cases o2 : 1114111 < cv
                    · have e2 : decide ((cv : Int) > 1114111) = true := decide_eq_true (by omega)
                      go_wp2
                      go_ret
                      refine ⟨?_, rfl⟩
                      rw [HF.out]
                      rfl
                    · have o3 : 55296 ≤ cv ∧ cv < 57344 := by
                        refine Decidable.of_not_not fun o3 => ho ?_
                        simp only [runeOK, Bool.not_eq_true', Bool.or_eq_false_iff, Bool.and_eq_false_iff, decide_eq_false_iff_not]
                        omega
                      obtain ⟨o4, o5⟩ := o3
                      have e2 : decide ((cv : Int) > 1114111) = false := decide_eq_false (by omega)
                      have e3 : decide ((cv : Int) ≥ 55296) = true := decide_eq_true (by omega)
                      have e4 : decide ((cv : Int) < 57344) = true := decide_eq_true (by omega)
                      go_wp2
                      go_ret
                      refine ⟨?_, rfl⟩
                      rw [HF.out]
                      rfl
          · by_cases h4 : 240 ≤ c ∧ c < 245
            · obtain ⟨h4a, h4b⟩ := h4
              have hd3 : decide ((c : Int) ≥ 194) = true := decide_eq_true (by omega)
              have hd4 : decide ((c : Int) < 224) = false := decide_eq_false (by omega)
              have hd5 : decide ((c : Int) ≥ 224) = true := decide_eq_true (by omega)
              have hd6 : decide ((c : Int) < 240) = false := decide_eq_false (by omega)
              have hd7 : decide ((c : Int) ≥ 240) = true := decide_eq_true (by omega)
              have hd8 : decide ((c : Int) < 245) = true := decide_eq_true (by omega)
              have hl : leadOf c = some (3, c % 8, 65536) := by unfold leadOf; rw [if_neg (by omega), if_neg (by omega), if_pos (by omega)]
              have HK2 := Lib.hid (show utf8 l = (match utf8V 3 (c % 8) (l.drop (k + 1)) with
                      | none => false
                      | some v => runeOK 65536 v && utf8 ((l.drop (k + 1)).drop 3)) by rw [HK.out, drop_cons8 hlt]; exact utf8_lead (by rw [HC.out]; omega) (by rw [HC.out]; exact hl))
              have hm : (c : Int) % 8 = ((c % 8 : Nat) : Int) := by omega
              have hmlt : c % 8 < 32 := by omega
              obtain ⟨m, hmm⟩ : ∃ m, m = c % 8 := ⟨_, rfl⟩
              rw [← hmm] at hm hmlt HK2
              clear hl hmm HK
              go_wp2
              go_loop [4, 7] (fun cc qq => ∃ q cv : Nat, 1 ≤ q ∧ q ≤ 4 ∧ k + q ≤ l.length ∧ qq = .int .i64 q ∧ cc = .int .i64 cv ∧ Hid ((q = 1 ∧ cv ≤ 31) ∨ (q = 2 ∧ cv ≤ 2047) ∨ (q = 3 ∧ cv ≤ 131071) ∨ (q = 4 ∧ cv ≤ 8388607)) ∧ Hid (utf8V 3 m (l.drop (k + 1)) = utf8V (4 - q) cv (l.drop (k + q)))) (fun _ qq => 4 - (intOf qq).toNat)
              case atStart => exact ⟨1, m, by omega, by omega, by omega, rfl, rfl, Lib.hid (.inl ⟨rfl, by omega⟩), Lib.hid rfl⟩
              case round =>
                obtain ⟨q, cv, hq1, hq2, hq3, rfl, rfl, HBD, HV⟩ := hrel
                have hcv : cv ≤ 8388607 := by have := HBD.out; omega
                by_cases hqn : q ≤ 3
                · by_cases hlq : k + q < l.length
                  · have hx2 := hidx (k + q) hlq
                    rw [show ((k + q : Nat) : Int) = (k : Int) + (q : Int) from by omega] at hx2
                    obtain ⟨d, hd⟩ : ∃ d : Nat, at8 l (k + q) = (d : Int) := ⟨(l.getD (k + q) 0).toNat, rfl⟩
                    have hd2 : (l.getD (k + q) 0).toNat = d := by unfold at8 at hd; omega
                    have hd3 := at8_hi l (k + q)
                    rw [hd] at hx2 hd3
                    have hnx := utf8V_next (n := 3 - q) (c := cv) hlq
                    rw [hd2] at hnx
                    have HN := Lib.hid hnx
                    clear hd hd2 hnx
                    have hge : ¬ (k : Int) + (q : Int) ≥ (l.length : Int) := by omega
                    by_cases h2 : d / 64 = 2
                    · have h2' : (((d : Int) / 64) != 2) = false := by simp; omega
                      have h2'' : ((d : Int) / 64) = 2 := by omega
                      obtain ⟨r, hr⟩ : ∃ r, r = d % 64 := ⟨_, rfl⟩
                      have hdm : (d : Int) % 64 = (r : Int) := by omega
                      have hr64 : r < 64 := by omega
                      have HRR := Lib.hid hr
                      clear hr
                      go_wp2
                      go_round
                      case rel => exact ⟨q + 1, 64 * cv + r, by omega, by omega, by omega, by go_num, by go_num, Lib.hid (by have := HBD.out; omega), Lib.hid (by rw [HV.out, show 4 - q = (3 - q) + 1 from by omega, HN.out, if_pos h2, ← HRR.out, show 4 - (q + 1) = 3 - q from by omega, Nat.add_assoc])⟩
                      case measure => simp [intOf]; omega
                    · have h2' : (((d : Int) / 64) != 2) = true := by simp; omega
                      have hf : utf8 l = false := by rw [HK2.out, HV.out, show 4 - q = (3 - q) + 1 from by omega, HN.out, if_neg h2]
                      have HF := Lib.hid hf
                      clear hf
                      go_wp2
                      go_ret
                      refine ⟨?_, rfl⟩
                      rw [HF.out]
                      rfl
                  · have hge : (k : Int) + (q : Int) ≥ (l.length : Int) := by omega
                    have hf : utf8 l = false := by rw [HK2.out, HV.out, show 4 - q = (3 - q) + 1 from by omega, utf8V_end (by omega)]
                    have HF := Lib.hid hf
                    clear hf
                    go_wp2
                    go_ret
                    refine ⟨?_, rfl⟩
                    rw [HF.out]
                    rfl
                · obtain rfl : q = 4 := by omega
                  have hv : utf8V 3 m (l.drop (k + 1)) = some cv := by rw [HV.out]; rfl
                  have hu : utf8 l = (runeOK 65536 cv && utf8 (l.drop (k + 4))) := by rw [HK2.out, hv, List.drop_drop]
                  have HU := Lib.hid hu
                  clear hv hu
                  by_cases ho : runeOK 65536 cv = true
                  · have HO := Lib.hid ho
                    have ho2 := ho
                    simp only [runeOK, Bool.not_eq_true', Bool.or_eq_false_iff, Bool.and_eq_false_iff, decide_eq_false_iff_not] at ho2
                    obtain ⟨⟨o1, o2⟩, o3⟩ := ho2
                    clear ho
                    have e1 : decide ((cv : Int) < 65536) = false := decide_eq_false (by omega)
                    have e2 : decide ((cv : Int) > 1114111) = false := decide_eq_false (by omega)
                    by_cases o4 : 55296 ≤ cv
                    · have o5 : ¬ cv < 57344 := by omega
                      have e3 : decide ((cv : Int) ≥ 55296) = true := decide_eq_true (by omega)
                      have e4 : decide ((cv : Int) < 57344) = false := decide_eq_false (by omega)
                      go_wp2
                      go_round
                      case rel => exact ⟨k + 4, by omega, by go_num, Lib.hid (by rw [HU.out, HO.out]; rfl)⟩
                      case measure => simp [intOf]; omega
                    · have e3 : decide ((cv : Int) ≥ 55296) = false := decide_eq_false (by omega)
                      go_wp2
                      go_round
                      case rel => exact ⟨k + 4, by omega, by go_num, Lib.hid (by rw [HU.out, HO.out]; rfl)⟩
                      case measure => simp [intOf]; omega
                  · have hf : utf8 l = false := by rw [HU.out, Bool.eq_false_iff.2 ho]; rfl
                    have HF := Lib.hid hf
                    clear hf
                    by_cases o1 : cv < 65536
                    · have e1 : decide ((cv : Int) < 65536) = true := decide_eq_true (by omega)
                      go_wp2
                      go_ret
                      refine ⟨?_, rfl⟩
                      rw [HF.out]
                      rfl
                    · have e1 : decide ((cv : Int) < 65536) = false := decide_eq_false (by omega)
                      by_cases o2 : 1114111 < cv
                      · have e2 : decide ((cv : Int) > 1114111) = true := decide_eq_true (by omega)
                        go_wp2
                        go_ret
                        refine ⟨?_, rfl⟩
                        rw [HF.out]
                        rfl
                      · have o3 : 55296 ≤ cv ∧ cv < 57344 := by
                          refine Decidable.of_not_not fun o3 => ho ?_
                          simp only [runeOK, Bool.not_eq_true', Bool.or_eq_false_iff, Bool.and_eq_false_iff, decide_eq_false_iff_not]
                          omega
                        obtain ⟨o4, o5⟩ := o3
                        have e2 : decide ((cv : Int) > 1114111) = false := decide_eq_false (by omega)
                        have e3 : decide ((cv : Int) ≥ 55296) = true := decide_eq_true (by omega)
                        have e4 : decide ((cv : Int) < 57344) = true := decide_eq_true (by omega)
                        go_wp2
                        go_ret
                        refine ⟨?_, rfl⟩
                        rw [HF.out]
                        rfl
            · have hl : leadOf c = none := by unfold leadOf; rw [if_neg h2, if_neg h3, if_neg h4]
              have HF := Lib.hid (show utf8 l = false by rw [HK.out, drop_cons8 hlt]; exact utf8_none (by rw [HC.out]; omega) (by rw [HC.out]; exact hl))
              clear hl
              by_cases h5 : c < 194
              · have hd3 : decide ((c : Int) ≥ 194) = false := decide_eq_false (by omega)
                have hd5 : decide ((c : Int) ≥ 224) = false := decide_eq_false (by omega)
                have hd7 : decide ((c : Int) ≥ 240) = false := decide_eq_false (by omega)
                go_wp2
                go_ret
                refine ⟨?_, rfl⟩
                rw [HF.out]
                rfl
              · have hd3 : decide ((c : Int) ≥ 194) = true := decide_eq_true (by omega)
                have hd4 : decide ((c : Int) < 224) = false := decide_eq_false (by omega)
                have hd5 : decide ((c : Int) ≥ 224) = true := decide_eq_true (by omega)
                have hd6 : decide ((c : Int) < 240) = false := decide_eq_false (by omega)
                have hd7 : decide ((c : Int) ≥ 240) = true := decide_eq_true (by omega)
                have hd8 : decide ((c : Int) < 245) = false := decide_eq_false (by omega)
                go_wp2
                go_ret
                refine ⟨?_, rfl⟩
                rw [HF.out]
                rfl
    · obtain rfl : k = l.length := by omega
      have HF := Lib.hid (show utf8 l = true by rw [HK.out, List.drop_length, utf8_nil])
      go_wp2
      go_ret
      refine ⟨?_, rfl⟩
      rw [HF.out]
      rfl

end Go.Proofs.YtokpphhmmcoeaaaGreatDoor


/-
  The document's own answers for layer 4 (deckleref04): Check, the order.
-/
namespace Go.Proofs.YtokpphhmmcoeaaaGreatDoor
open Go.RowKit

/-- A cell's value. -/
def cellV (num : Nat) (s : ByteArray) : Value := .agg #[.int .u64 (num : Int), .string s]

theorem RdS.toList {s : ByteArray} {l : List UInt8} (h : RdS s l) : s.toList = l := by
  rw [h.eq, Lib.toList_data]

/-- What is wrong with a cell. -/
def checkC (kind : Int) (num : Nat) (l : List UInt8) : Nat :=
  if kind < 0 ∨ 5 < kind then 10
  else if ((kind = 3 ∨ kind = 4) ∧ num ≠ 0) ∨ (¬ (kind = 3 ∨ kind = 4) ∧ l ≠ []) ∨ (kind = 2 ∧ 1 < num) ∨ (kind = 4 ∧ utf8 l = false) then 11
  else if 256 < l.length then 7 else 0

set_option maxHeartbeats 2000000 in
set_option maxRecDepth 1000000 in
theorem ref_Check (kind : Int) (num : Nat) (s : ByteArray) (l : List UInt8) (w : World) (h : RdS s l) (hk : -9223372036854775808 ≤ kind ∧ kind ≤ 9223372036854775807) (hn : num < 18446744073709551616) :
    Calls Tryz.prog 71 #[.int .i64 kind, cellV num s] w fun e w' => e = .returned (.int .i64 (checkC kind num l : Nat)) ∧ Below w.heap.size w w' := by
  have hlen := h.len
  have hne := Lib.hid h.toList
  unfold cellV
  by_cases h0 : kind < 0
  · have hd1 : decide (kind < 0) = true := decide_eq_true h0
    rw [show checkC _ num l = 10 from by unfold checkC; rw [if_pos (.inl h0)]]
    go_enter Tryz.func71, Tryz.ntmps71
    go_wp2
    go_ret
    exact ⟨rfl, (Below.refl _ _).alloc (Nat.le_refl _) _⟩
  · have hd1 : decide (kind < 0) = false := decide_eq_false h0
    by_cases h5 : 5 < kind
    · have hd2 : decide (kind > 5) = true := decide_eq_true h5
      rw [show checkC _ num l = 10 from by unfold checkC; rw [if_pos (.inr h5)]]
      go_enter Tryz.func71, Tryz.ntmps71
      go_wp2
      go_ret
      exact ⟨rfl, (Below.refl _ _).alloc (Nat.le_refl _) _⟩
    · clear hd1
      obtain rfl | rfl | rfl | rfl | rfl | rfl : kind = 0 ∨ kind = 1 ∨ kind = 2 ∨ kind = 3 ∨ kind = 4 ∨ kind = 5 := by omega
      · by_cases hl : l = []
        · have hdl : s.toList.isEmpty = true := by rw [hne.out, hl]; rfl
          have hlz : ¬ (l.length : Int) > 256 := by rw [hl]; decide
          rw [show checkC _ num l = 0 from by unfold checkC; rw [if_neg (by omega), if_neg (by simp [hl]), if_neg (by simp [hl])]]
          go_enter Tryz.func71, Tryz.ntmps71
          go_wp2
          go_ret
          exact ⟨rfl, (Below.refl _ _).alloc (Nat.le_refl _) _⟩
        · have hdl : s.toList.isEmpty = false := by rw [hne.out]; cases l <;> simp_all
          rw [show checkC _ num l = 11 from by unfold checkC; rw [if_neg (by omega), if_pos (.inr (.inl ⟨by omega, hl⟩))]]
          go_enter Tryz.func71, Tryz.ntmps71
          go_wp2
          go_ret
          exact ⟨rfl, (Below.refl _ _).alloc (Nat.le_refl _) _⟩
      · by_cases hl : l = []
        · have hdl : s.toList.isEmpty = true := by rw [hne.out, hl]; rfl
          have hlz : ¬ (l.length : Int) > 256 := by rw [hl]; decide
          rw [show checkC _ num l = 0 from by unfold checkC; rw [if_neg (by omega), if_neg (by simp [hl]), if_neg (by simp [hl])]]
          go_enter Tryz.func71, Tryz.ntmps71
          go_wp2
          go_ret
          exact ⟨rfl, (Below.refl _ _).alloc (Nat.le_refl _) _⟩
        · have hdl : s.toList.isEmpty = false := by rw [hne.out]; cases l <;> simp_all
          rw [show checkC _ num l = 11 from by unfold checkC; rw [if_neg (by omega), if_pos (.inr (.inl ⟨by omega, hl⟩))]]
          go_enter Tryz.func71, Tryz.ntmps71
          go_wp2
          go_ret
          exact ⟨rfl, (Below.refl _ _).alloc (Nat.le_refl _) _⟩
      · by_cases hl : l = []
        · by_cases hb : 1 < num
          · have hdl : s.toList.isEmpty = true := by rw [hne.out, hl]; rfl
            have hlz : ¬ (l.length : Int) > 256 := by rw [hl]; decide
            have hb2 : decide ((num : Int) > 1) = true := decide_eq_true (by omega)
            rw [show checkC _ num l = 11 from by unfold checkC; rw [if_neg (by omega), if_pos (.inr (.inr (.inl ⟨rfl, hb⟩)))]]
            go_enter Tryz.func71, Tryz.ntmps71
            go_wp2
            go_ret
            exact ⟨rfl, (Below.refl _ _).alloc (Nat.le_refl _) _⟩
          · have hdl : s.toList.isEmpty = true := by rw [hne.out, hl]; rfl
            have hlz : ¬ (l.length : Int) > 256 := by rw [hl]; decide
            have hb2 : decide ((num : Int) > 1) = false := decide_eq_false (by omega)
            rw [show checkC _ num l = 0 from by unfold checkC; rw [if_neg (by omega), if_neg (by simp [hl]; omega), if_neg (by simp [hl])]]
            go_enter Tryz.func71, Tryz.ntmps71
            go_wp2
            go_ret
            exact ⟨rfl, (Below.refl _ _).alloc (Nat.le_refl _) _⟩
        · have hdl : s.toList.isEmpty = false := by rw [hne.out]; cases l <;> simp_all
          rw [show checkC _ num l = 11 from by unfold checkC; rw [if_neg (by omega), if_pos (.inr (.inl ⟨by omega, hl⟩))]]
          go_enter Tryz.func71, Tryz.ntmps71
          go_wp2
          go_ret
          exact ⟨rfl, (Below.refl _ _).alloc (Nat.le_refl _) _⟩
      · by_cases hz : num = 0
        · by_cases hg : 256 < l.length
          · have hnz : ((num : Int) != 0) = false := by simp; omega
            have hgg : (l.length : Int) > 256 := by omega
            rw [show checkC _ num l = 7 from by unfold checkC; rw [if_neg (by omega), if_neg (by simp [hz]), if_pos hg]]
            go_enter Tryz.func71, Tryz.ntmps71
            go_wp2
            go_ret
            exact ⟨rfl, (Below.refl _ _).alloc (Nat.le_refl _) _⟩
          · have hnz : ((num : Int) != 0) = false := by simp; omega
            have hgg : ¬ (l.length : Int) > 256 := by omega
            rw [show checkC _ num l = 0 from by unfold checkC; rw [if_neg (by omega), if_neg (by simp [hz]), if_neg hg]]
            go_enter Tryz.func71, Tryz.ntmps71
            go_wp2
            go_ret
            exact ⟨rfl, (Below.refl _ _).alloc (Nat.le_refl _) _⟩
        · have hnz : ((num : Int) != 0) = true := by simp; omega
          rw [show checkC _ num l = 11 from by unfold checkC; rw [if_neg (by omega), if_pos (.inl ⟨.inl rfl, hz⟩)]]
          go_enter Tryz.func71, Tryz.ntmps71
          go_wp2
          go_ret
          exact ⟨rfl, (Below.refl _ _).alloc (Nat.le_refl _) _⟩
      · by_cases hz : num = 0
        · cases hu : utf8 l with
          | false =>
            have hnz : ((num : Int) != 0) = false := by simp; omega
            rw [show checkC _ num l = 11 from by unfold checkC; rw [if_neg (by omega), if_pos (.inr (.inr (.inr ⟨rfl, hu⟩)))]]
            go_enter Tryz.func71, Tryz.ntmps71
            go_wp2_with fail
            refine (ref_UTF8 _ _ _ h).mono ?_
            rintro e w1 ⟨rfl, rfl⟩
            rw [hu]
            go_wp2
            go_ret
            exact ⟨rfl, (Below.refl _ _).alloc (Nat.le_refl _) _⟩
          | true =>
            by_cases hg : 256 < l.length
            · have hnz : ((num : Int) != 0) = false := by simp; omega
              have hgg : (l.length : Int) > 256 := by omega
              rw [show checkC _ num l = 7 from by unfold checkC; rw [if_neg (by omega), if_neg (by simp [hz, hu]), if_pos hg]]
              go_enter Tryz.func71, Tryz.ntmps71
              go_wp2_with fail
              refine (ref_UTF8 _ _ _ h).mono ?_
              rintro e w1 ⟨rfl, rfl⟩
              rw [hu]
              go_wp2
              go_ret
              exact ⟨rfl, (Below.refl _ _).alloc (Nat.le_refl _) _⟩
            · have hnz : ((num : Int) != 0) = false := by simp; omega
              have hgg : ¬ (l.length : Int) > 256 := by omega
              rw [show checkC _ num l = 0 from by unfold checkC; rw [if_neg (by omega), if_neg (by simp [hz, hu]), if_neg hg]]
              go_enter Tryz.func71, Tryz.ntmps71
              go_wp2_with fail
              refine (ref_UTF8 _ _ _ h).mono ?_
              rintro e w1 ⟨rfl, rfl⟩
              rw [hu]
              go_wp2
              go_ret
              exact ⟨rfl, (Below.refl _ _).alloc (Nat.le_refl _) _⟩
        · have hnz : ((num : Int) != 0) = true := by simp; omega
          rw [show checkC _ num l = 11 from by unfold checkC; rw [if_neg (by omega), if_pos (.inl ⟨.inr rfl, hz⟩)]]
          go_enter Tryz.func71, Tryz.ntmps71
          go_wp2
          go_ret
          exact ⟨rfl, (Below.refl _ _).alloc (Nat.le_refl _) _⟩
      · by_cases hl : l = []
        · have hdl : s.toList.isEmpty = true := by rw [hne.out, hl]; rfl
          have hlz : ¬ (l.length : Int) > 256 := by rw [hl]; decide
          rw [show checkC _ num l = 0 from by unfold checkC; rw [if_neg (by omega), if_neg (by simp [hl]), if_neg (by simp [hl])]]
          go_enter Tryz.func71, Tryz.ntmps71
          go_wp2
          go_ret
          exact ⟨rfl, (Below.refl _ _).alloc (Nat.le_refl _) _⟩
        · have hdl : s.toList.isEmpty = false := by rw [hne.out]; cases l <;> simp_all
          rw [show checkC _ num l = 11 from by unfold checkC; rw [if_neg (by omega), if_pos (.inr (.inl ⟨by omega, hl⟩))]]
          go_enter Tryz.func71, Tryz.ntmps71
          go_wp2
          go_ret
          exact ⟨rfl, (Below.refl _ _).alloc (Nat.le_refl _) _⟩

end Go.Proofs.YtokpphhmmcoeaaaGreatDoor


/-
  Strings and lists: small facts that the walks want.
-/
namespace Go.Proofs.YtokpphhmmcoeaaaGreatDoor
open Go.RowKit

theorem rdS_of {s : ByteArray} (h : s.size ≤ 140737488351232) : RdS s s.data.toList := ⟨by cases s; rfl, by simpa using h⟩
theorem getD_map {α : Type} (f : α → List Value) (l : List α) (i : Nat) (hi : i < l.length) (d : α) : (l.map f).getD i [] = f (l.getD i d) := by
  simp [List.getD, hi]
theorem str_ne {s t : ByteArray} (h : s ≠ t) : (s.toList == t.toList) = false ∧ (s.toList != t.toList) = true := by
  have : s.toList ≠ t.toList := by
    rw [Lib.toList_data, Lib.toList_data]
    intro e
    exact h (by cases s; cases t; simp at e; rw [e])
  exact ⟨by simpa using this, by simpa using this⟩
theorem take_succD {α : Type} {l : List α} {k : Nat} (h : k < l.length) (d : α) : l.take (k + 1) = l.take k ++ [l.getD k d] := by
  rw [List.take_succ_eq_append_getElem h]; simp [List.getD, h]

end Go.Proofs.YtokpphhmmcoeaaaGreatDoor


/-
  Blocks that a call makes, and old blocks of which some alone may turn. No program.
-/
namespace Go.Proofs.YtokpphhmmcoeaaaGreatDoor
open Go.RowKit

/-- Blocks from lo on, but g, are as they were. -/
structure Kept (lo g : Nat) (w w' : World) : Prop where
  size : w.heap.size ≤ w'.heap.size
  block : ∀ j, lo ≤ j → j < w.heap.size → j ≠ g → w'.heap[j]? = w.heap[j]?

theorem Kept.refl (lo g : Nat) (w : World) : Kept lo g w w := ⟨Nat.le_refl _, fun _ _ _ _ => rfl⟩
theorem Kept.trans {lo g : Nat} {a b c : World} (h : Kept lo g a b) (k : Kept lo g b c) : Kept lo g a c :=
  ⟨Nat.le_trans h.size k.size, fun j h1 h2 h3 => (k.block j h1 (Nat.lt_of_lt_of_le h2 h.size) h3).trans (h.block j h1 h2 h3)⟩
theorem Kept.grown {lo g : Nat} {a b c : World} (h : Kept lo g a b) (k : b.grownBy c (some g)) : Kept lo g a c :=
  h.trans ⟨k.size, fun j _ h2 h3 => k.block j h2 (fun e => h3 (by injection e))⟩
theorem Kept.below {lo g B : Nat} {a b c : World} (h : Kept lo g a b) (k : Below B b c) (hB : b.heap.size ≤ B) : Kept lo g a c :=
  h.trans ⟨k.size, fun j _ h2 _ => k.block j (by omega)⟩
theorem Kept.setCell {lo g : Nat} {a b : World} (h : Kept lo g a b) {p : Addr} (hp : p.block < lo) (u : Value) : Kept lo g a (b.setCell p u) :=
  h.trans ⟨by simp [World.setCell], fun j h1 _ _ => Below.heap_setCell _ _ _ _ (by omega)⟩
theorem Kept.alloc {lo g : Nat} {a b : World} (h : Kept lo g a b) (o : Obj) : Kept lo g a (b.alloc o) :=
  h.trans ⟨by simp, fun j _ h2 _ => Below.heap_alloc _ _ _ h2⟩
theorem Kept.drew {lo g : Nat} {a b : World} (h : Kept lo g a b) : Kept lo g a b.drew := ⟨h.size, h.block⟩

/-- Of what was there, blocks of S alone may have turned. -/
structure Only (S : Nat → Prop) (w w' : World) : Prop where
  os : w'.os = w.os
  tape : w'.tape = w.tape
  output : w'.output = w.output
  size : w.heap.size ≤ w'.heap.size
  block : ∀ j, j < w.heap.size → ¬ S j → w'.heap[j]? = w.heap[j]?

theorem Only.refl (S : Nat → Prop) (w : World) : Only S w w := ⟨rfl, rfl, rfl, Nat.le_refl _, fun _ _ _ => rfl⟩
theorem Only.trans {S : Nat → Prop} {a b c : World} (h : Only S a b) (k : Only S b c) : Only S a c :=
  ⟨k.os.trans h.os, k.tape.trans h.tape, k.output.trans h.output, Nat.le_trans h.size k.size, fun j h1 h2 => (k.block j (Nat.lt_of_lt_of_le h1 h.size) h2).trans (h.block j h1 h2)⟩
theorem Only.mono {S T : Nat → Prop} {a b : World} (h : Only S a b) (hT : ∀ j, S j → T j) : Only T a b :=
  ⟨h.os, h.tape, h.output, h.size, fun j h1 h2 => h.block j h1 (fun hs => h2 (hT j hs))⟩
theorem Only.grown {S : Nat → Prop} {a b c : World} {g : Nat} (h : Only S a b) (k : b.grownBy c (some g)) (hg : S g) : Only S a c :=
  h.trans ⟨k.os, k.tape, k.output, k.size, fun j h1 h2 => k.block j h1 (fun e => h2 (by injection e with e; rw [e]; exact hg))⟩
theorem Only.below {S : Nat → Prop} {a b c : World} {B : Nat} (h : Only S a b) (k : Below B b c) (hB : b.heap.size ≤ B) : Only S a c :=
  h.trans ⟨k.os, k.tape, k.output, k.size, fun j h1 _ => k.block j (Nat.lt_of_lt_of_le h1 hB)⟩
theorem Only.setCell {S : Nat → Prop} {a b : World} (h : Only S a b) {p : Addr} (hp : S p.block) (u : Value) : Only S a (b.setCell p u) :=
  h.trans ⟨rfl, rfl, rfl, by simp [World.setCell], fun j _ h2 => Below.heap_setCell _ _ _ _ (fun e => h2 (by rw [e]; exact hp))⟩
theorem Only.alloc {S : Nat → Prop} {a b : World} (h : Only S a b) (o : Obj) : Only S a (b.alloc o) :=
  h.trans ⟨rfl, rfl, rfl, by simp, fun j h1 _ => Below.heap_alloc _ _ _ h1⟩
theorem Only.drew {S : Nat → Prop} {a b : World} (h : Only S a b) : Only S a b.drew := ⟨h.os, h.tape, h.output, h.size, h.block⟩
theorem Only.toBelow {S : Nat → Prop} {a b : World} (h : Only S a b) {B : Nat} (hB : ∀ j, S j → B ≤ j) (hs : B ≤ a.heap.size) : Below B a b :=
  ⟨h.os, h.tape, h.output, h.size, fun j h1 => h.block j (by omega) (fun hj => by have := hB j hj; omega)⟩
theorem Only.kept {S : Nat → Prop} {a b : World} (h : Only S a b) {lo g : Nat} (hS : ∀ j, S j → j < lo ∨ j = g) : Kept lo g a b :=
  ⟨h.size, fun j h1 h2 h3 => h.block j h2 (fun hj => by have := hS j hj; omega)⟩
theorem Only.keep {S : Nat → Prop} {a b : World} (h : Only S a b) {j : Nat} {o : Obj} (hj : a.heap[j]? = some o) (hn : ¬ S j) : b.heap[j]? = some o :=
  (h.block j (Array.getElem?_eq_some_iff.1 hj).1 hn).trans hj

/-- New blocks, one behind the other. -/
theorem new2 (w : World) (x y : Obj) : ((w.alloc x).alloc y).heap.size = w.heap.size + 2 ∧ ((w.alloc x).alloc y).heap[w.heap.size]? = some x ∧ ((w.alloc x).alloc y).heap[w.heap.size + 1]? = some y ∧ Below w.heap.size w ((w.alloc x).alloc y) := by
  refine ⟨by simp, ?_, ?_, ((Below.refl _ w).alloc (Nat.le_refl _) _).alloc (by simp) _⟩
  · rw [Below.heap_alloc _ _ _ (by simp)]; exact heap_alloc_new _ _
  · have := heap_alloc_new (w.alloc x) y
    simpa using this
theorem new3 (w : World) (x y z : Obj) : (((w.alloc x).alloc y).alloc z).heap.size = w.heap.size + 3 ∧ (((w.alloc x).alloc y).alloc z).heap[w.heap.size]? = some x ∧ (((w.alloc x).alloc y).alloc z).heap[w.heap.size + 1]? = some y ∧
    (((w.alloc x).alloc y).alloc z).heap[w.heap.size + 2]? = some z ∧ Below w.heap.size w (((w.alloc x).alloc y).alloc z) := by
  obtain ⟨h0, h1, h2, h3⟩ := new2 w x y
  refine ⟨by simp, ?_, ?_, ?_, h3.alloc (by omega) _⟩
  · rw [Below.heap_alloc _ _ _ (by omega)]; exact h1
  · rw [Below.heap_alloc _ _ _ (by omega)]; exact h2
  · rw [← h0]; exact heap_alloc_new _ _

/-- As many new blocks as there are. -/
theorem news (os : List Obj) : ∀ (w : World), (os.foldl World.alloc w).heap.size = w.heap.size + os.length ∧ (∀ i o, os[i]? = some o → (os.foldl World.alloc w).heap[w.heap.size + i]? = some o) ∧ Below w.heap.size w (os.foldl World.alloc w) := by
  induction os with
  | nil => exact fun w => ⟨rfl, fun i o h => by simp at h, Below.refl _ _⟩
  | cons a r ih =>
    intro w
    obtain ⟨h1, h2, h3⟩ := ih (w.alloc a)
    have hs : (w.alloc a).heap.size = w.heap.size + 1 := by simp
    rw [hs] at h1 h2 h3
    refine ⟨by simp only [List.foldl_cons, List.length_cons]; omega, fun i o h => ?_, ((Below.refl _ w).alloc (Nat.le_refl _) a).trans (h3.mono (by omega))⟩
    cases i with
    | zero =>
      simp only [List.getElem?_cons_zero, Option.some.injEq] at h
      subst h
      exact (h3.block _ (by omega)).trans (heap_alloc_new _ _)
    | succ i =>
      simp only [List.getElem?_cons_succ] at h
      have := h2 i o h
      rw [show w.heap.size + 1 + i = w.heap.size + (i + 1) from by omega] at this
      exact this

end Go.Proofs.YtokpphhmmcoeaaaGreatDoor


/-
  A region that draws, walked in one order, over worlds in which what lay below a block is as it was.
-/
namespace Go.Proofs.YtokpphhmmcoeaaaGreatDoor
open Go.RowKit

theorem below_way {B : Nat} : OrdR.Way (Below B) := ⟨Below.refl B, fun _ _ _ h k => h.trans k⟩
instance nonempty_belowGW {B : Nat} (w : World) : Nonempty (OrdR.GW (Below B) w) := ⟨⟨w, Below.refl B w⟩⟩

end Go.Proofs.YtokpphhmmcoeaaaGreatDoor


/-
  An array of three whole numbers that came in.
-/
namespace Go.Proofs.YtokpphhmmcoeaaaGreatDoor
open Go.ChangeShapes Go.WideShapes Go.ChangeAt Go.RowKit

section
variable {H : Type} {enc : TypeId × Value → H} {W : World}

theorem cells_three {v : Value} {a b c : Value} (h : v.cells.toList = [a, b, c]) : v = .agg #[a, b, c] := by
  have h' : v.cells = #[a, b, c] := Array.toList_inj.1 (by simpa using h)
  cases v <;> simp [Value.cells] at h'
  subst h'; rfl

theorem arr3_open {k : IntKind} {t e : TypeId} (hu : Tryz.prog.underlying t = some (.array 3 e)) (he : Tryz.prog.underlying e = some (.int k)) (hc : Tryz.prog.cellsOf e = 1) (hct : Tryz.prog.cellsOf t = 3)
    {v : Value} {d : DataW H} {ps : List MemPlace} (h : DataW.Trod enc Tryz.prog W 0 (fun _ => true) true t v d ps) :
    ∃ a0 a1 a2 : Int, v = .agg #[.int k a0, .int k a1, .int k a2] := by
  obtain ⟨fuel, hf⟩ := h
  obtain ⟨xs, m, rfl, hx, hl, hn, hi⟩ := DataW.trod_array hu hf
  rw [hct] at hl
  obtain ⟨c0, c1, c2, hcs⟩ : ∃ c0 c1 c2, v.cells.toList = [c0, c1, c2] := by
    match hq : v.cells.toList, (hl : _) with
    | [c0, c1, c2], _ => exact ⟨c0, c1, c2, rfl⟩
  obtain ⟨x0, x1, x2, rfl⟩ : ∃ x0 x1 x2, xs = [x0, x1, x2] := by
    match xs, hn with
    | [x0, x1, x2], _ => exact ⟨x0, x1, x2, rfl⟩
  rw [hcs, hc] at hi
  have h0 := hi 0 (by omega)
  have h1 := hi 1 (by omega)
  have h2 := hi 2 (by omega)
  simp at h0 h1 h2
  obtain ⟨a0, e0, _⟩ := DataW.trod_int he h0
  obtain ⟨a1, e1, _⟩ := DataW.trod_int he h1
  obtain ⟨a2, e2, _⟩ := DataW.trod_int he h2
  refine ⟨a0, a1, a2, cells_three ?_⟩
  rw [hcs]; simp_all

theorem cells_two {v : Value} {a b : Value} (h : v.cells.toList = [a, b]) : v = .agg #[a, b] := by
  have h' : v.cells = #[a, b] := Array.toList_inj.1 (by simpa using h)
  cases v <;> simp [Value.cells] at h'
  subst h'; rfl

theorem arr2_open {k : IntKind} {t e : TypeId} (hu : Tryz.prog.underlying t = some (.array 2 e)) (he : Tryz.prog.underlying e = some (.int k)) (hc : Tryz.prog.cellsOf e = 1) (hct : Tryz.prog.cellsOf t = 2)
    {v : Value} {d : DataW H} {ps : List MemPlace} (h : DataW.Trod enc Tryz.prog W 0 (fun _ => true) true t v d ps) :
    ∃ a0 a1 : Int, v = .agg #[.int k a0, .int k a1] ∧ (Lit.int k a0).wf = true ∧ (Lit.int k a1).wf = true := by
  obtain ⟨fuel, hf⟩ := h
  obtain ⟨xs, m, rfl, hx, hl, hn, hi⟩ := DataW.trod_array hu hf
  rw [hct] at hl
  obtain ⟨c0, c1, hcs⟩ : ∃ c0 c1, v.cells.toList = [c0, c1] := by
    match hq : v.cells.toList, (hl : _) with
    | [c0, c1], _ => exact ⟨c0, c1, rfl⟩
  obtain ⟨x0, x1, rfl⟩ : ∃ x0 x1, xs = [x0, x1] := by
    match xs, hn with
    | [x0, x1], _ => exact ⟨x0, x1, rfl⟩
  rw [hcs, hc] at hi
  have h0 := hi 0 (by omega)
  have h1 := hi 1 (by omega)
  simp at h0 h1
  obtain ⟨a0, e0, _, w0⟩ := DataW.trod_int he h0
  obtain ⟨a1, e1, _, w1⟩ := DataW.trod_int he h1
  refine ⟨a0, a1, cells_two ?_, w0, w1⟩
  rw [hcs]; simp_all
end

end Go.Proofs.YtokpphhmmcoeaaaGreatDoor

