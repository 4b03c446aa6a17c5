/-
  Byte slices: how a slice value reads as a list of bytes (Rd), and how a call owns one that it has made (Own); what the operations on them do.
-/
import Derived.Test.YtegaamebcoockaaProg
import Derived.WalkKit
import Derived.WalkSpells
import Derived.WalkLawsBesides
import Derived.Laws.CopyOwn
import Derived.Laws.AppendOwnNone
import Derived.Lib.Hide
set_option linter.unusedVariables false
set_option linter.unusedSimpArgs false
set_option maxRecDepth 1000000
namespace Go.Proofs.Ytegaamebcoockaa
open Go.RowKit

/-- The cell of a byte. -/
def cellB (b : UInt8) : Value := .int .u8 (b.toNat : Int)
/-- The cells of a list of bytes. -/
def cellsB (l : List UInt8) : List Value := l.map cellB
/-- The number at place i of a list of bytes. -/
def at8 (l : List UInt8) (i : Nat) : Int := ((l.getD i 0).toNat : Int)
/-- The address of a slice value's place i. -/
def adr : Value → Nat → Addr
  | .slice (some a) _ _, i => a.add i
  | _, _ => default

theorem at8_lo (l : List UInt8) (i : Nat) : 0 ≤ at8 l i := by unfold at8; omega
theorem at8_hi (l : List UInt8) (i : Nat) : at8 l i ≤ 255 := by
  unfold at8; have := (l.getD i 0).toNat_lt; omega
theorem at8_eq {l : List UInt8} {i : Nat} (h : i < l.length) : at8 l i = (l[i].toNat : Int) := by
  unfold at8; simp [List.getD, h]
theorem cellsB_length (l : List UInt8) : (cellsB l).length = l.length := by simp [cellsB]
theorem cellsB_append (l m : List UInt8) : cellsB (l ++ m) = cellsB l ++ cellsB m := by simp [cellsB]
theorem cellsB_one (l : List UInt8) : ∀ u ∈ cellsB l, u.oneCell' = true := by
  intro u hu
  obtain ⟨_, _, rfl⟩ := List.mem_map.1 hu
  rfl
theorem cellsB_get {l : List UInt8} {i : Nat} {u : Value} (h : (cellsB l)[i]? = some u) : i < l.length ∧ u = .int .u8 (at8 l i) := by
  have hi : i < l.length := by
    have := (List.getElem?_eq_some_iff.1 h).1
    simpa [cellsB] using this
  refine ⟨hi, ?_⟩
  rw [at8_eq hi]
  simp [cellsB, hi] at h
  exact h.symm
theorem cellsB_at {l : List UInt8} {i : Nat} (hi : i < l.length) : (cellsB l)[i]? = some (.int .u8 (at8 l i)) := by
  rw [at8_eq hi]; simp [cellsB, hi, cellB]

/-- The slice value v reads as the bytes l in the world w. -/
structure Rd (w : World) (v : Value) (l : List UInt8) : Prop where
  shape : ∃ ao cap, v = .slice ao l.length cap ∧ l.length ≤ cap ∧ (ao = none → cap = 0) ∧ (0 < l.length → ∃ b o, ao = some ⟨b, o, none⟩)
  cells : ∀ i, i < l.length → w.cell? (adr v i) = some (.int .u8 (at8 l i))
  small : l.length ≤ 140737488351232

/-- The slice value v is one that was made from block number base on: nobody else writes to it; it reads as l. -/
def Own (w : World) (base : Nat) (v : Value) (l : List UInt8) : Prop := w.ownsRow base 5 1 v l.length (cellsB l)

theorem Rd.block {w : World} {v : Value} {l : List UInt8} (h : Rd w v l) {i : Nat} (hi : i < l.length) : (adr v i).block < w.heap.size :=
  World.block_lt_of_cell? w _ (h.cells i hi)

theorem adr_block {w : World} {v : Value} {l : List UInt8} (h : Rd w v l) (i j : Nat) (hj : j < l.length) : (adr v i).block = (adr v j).block := by
  obtain ⟨⟨ao, cap, rfl, _, _, hp⟩, _, _⟩ := h
  obtain ⟨b, o, rfl⟩ := hp (by omega)
  simp [adr, Addr.add]; split <;> split <;> rfl

/-- What reads in an elder world reads in one that has grown. -/
theorem Rd.later {w w' : World} {v : Value} {l : List UInt8} (h : Rd w v l) {B : Nat} (hb : Below B w w') (hB : w.heap.size ≤ B) : Rd w' v l :=
  ⟨h.shape, fun i hi => by rw [hb.cell (Nat.lt_of_lt_of_le (h.block hi) hB)]; exact h.cells i hi, h.small⟩

theorem Rd.drew {w : World} {v : Value} {l : List UInt8} (h : Rd w v l) : Rd w.drew v l := ⟨h.shape, h.cells, h.small⟩

theorem Rd.alloc {w : World} {v : Value} {l : List UInt8} (h : Rd w v l) (o : Obj) : Rd (w.alloc o) v l :=
  h.later ((Below.refl w.heap.size w).alloc (Nat.le_refl _) o) (Nat.le_refl _)

theorem Rd.nil (w : World) : Rd w (.slice none 0 0) [] :=
  ⟨⟨none, 0, rfl, Nat.le_refl _, fun _ => rfl, fun h => absurd h (by simp)⟩, fun i hi => absurd hi (by simp), by simp⟩

/-- What is owned is read. -/
theorem Own.rd {w : World} {base : Nat} {v : Value} {l : List UInt8} (h : Own w base v l) (hs : l.length ≤ 140737488351232) : Rd w v l := by
  have hc := fun g => World.ownsRow.cells (g := g) h
  obtain ⟨_, h2⟩ := h
  rcases h2 with ⟨rfl, hn⟩ | ⟨g, cap, cur, rfl, _, hg, hn, hm, _⟩
  · have : l = [] := List.eq_nil_of_length_eq_zero hn
    subst this; exact Rd.nil w
  · refine ⟨⟨_, cap, rfl, hn, (by intro h; cases h), fun _ => ⟨g, 0, rfl⟩⟩, fun i hi => ?_, hs⟩
    exact hc g rfl i _ (cellsB_at hi)

theorem Own.later {w w' : World} {base B : Nat} {v : Value} {l : List UInt8} (h : Own w base v l) (hb : Below B w w') (hB : w.heap.size ≤ B) : Own w' base v l := by
  refine ⟨h.1, ?_⟩
  rcases h.2 with h2 | ⟨g, cap, cur, rfl, hbg, hg, r⟩
  · exact .inl h2
  · refine .inr ⟨g, cap, cur, rfl, hbg, ?_, r⟩
    rw [hb.block g (Nat.lt_of_lt_of_le (Array.getElem?_eq_some_iff.1 hg).1 hB)]; exact hg

theorem Own.base {w : World} {base base' : Nat} {v : Value} {l : List UInt8} (h : Own w base v l) (hb : base' ≤ base) : Own w base' v l := by
  refine ⟨h.1, ?_⟩
  rcases h.2 with h2 | ⟨g, cap, cur, rfl, hbg, r⟩
  · exact .inl h2
  · exact .inr ⟨g, cap, cur, rfl, Nat.le_trans hb hbg, r⟩

/-- The length of a slice that reads. -/
theorem Rd.len {w : World} {v : Value} {l : List UInt8} (h : Rd w v l) : ∀ u, (Builtin.len_ #[22] 3 #[v]).run Try.prog u = .ok (.int .i64 (l.length : Int)) u := by
  intro u
  obtain ⟨⟨ao, cap, rfl, _⟩, _, _⟩ := h
  exact run_len_slice u _ _ ao _ _ Try.underlying22

/-- The address of a place of a slice that reads. -/
theorem Rd.idx {w : World} {v : Value} {l : List UInt8} (h : Rd w v l) (i : Nat) (hi : i < l.length) : ∀ u, (Instr.indexAt 22 v (.int .i64 (i : Int))).run Try.prog u = .ok (.pointer (some (adr v i))) u := by
  intro u
  obtain ⟨⟨ao, cap, rfl, _, _, hp⟩, _, _⟩ := h
  obtain ⟨b, o, rfl⟩ := hp (by omega)
  have := run_indexAt_slice (P := Try.prog) u 22 ⟨b, o, none⟩ l.length cap .i64 i Try.underlying22
  rw [this, if_pos ⟨by omega, by omega⟩]
  simp [go_sem, Result.andThen, adr]

theorem size_u8 : (Try.prog.info? 5).map (·.size) = some 1 := by kernel_rfl
theorem info_u8 : (Try.prog.info? 5).map (fun i => (i.zero, i.size, i.bytes)) = some (some (.int .u8 0), 1, 1) := by kernel_rfl

theorem splice_cellsB (cur l : List UInt8) (off : Nat) : splice (cellsB cur) off (cellsB l) = cellsB (splice cur off l) := by
  simp [splice, cellsB]

/-- 'copy(d, s)': all of s, which reads as l, over the bytes of a block that is known whole. -/
theorem wpl_copy {ops : Array Oper} {Q : Exit → Act → World → Prop} {rest : List Oper} {a : Act} {w : World} {dst : Option Tmp} {ty : TypeId} {pos : String} {aft : Array Edge} {d s : Operand}
    (dp : Option Addr) (dLen dCap : Nat) (hd : a.eval d = .slice dp dLen dCap) (sv : Value) (l : List UInt8) (hs : a.eval s = sv) (hR : Rd w sv l) (hn : l.length ≤ dLen)
    (g off : Nat) (cur : List UInt8) (hg : w.heap[g]? = some (.cells (cellsB cur).toArray 5 (0, 0))) (hdp : 0 < l.length → dp = some ⟨g, off, none⟩) (hfit : off + l.length ≤ cur.length)
    (B : Nat) (w0 : World) (hb : Below B w0 w) (hBg : B ≤ g)
    (h : ∀ w', Hid (w'.heap[g]? = some (.cells (cellsB (splice cur off l)).toArray 5 (0, 0))) → Below B w0 w' → wpList Try.prog ops Q rest (a.put dst (.int .i64 (l.length : Int))) w') :
    wpList Try.prog ops Q (⟨dst, .call ⟨.builtin .copy, #[d, s], #[22, 22]⟩, ty, pos, aft, none⟩ :: rest) a w := by
  obtain ⟨⟨ao, cap, rfl, hcap, hnil, hsome⟩, hcel, _⟩ := hR
  refine wpList_copy_splice rfl d s 22 22 rfl 5 Try.underlying22 size_u8 dp ao dLen dCap l.length cap hd hs g off (cellsB cur) 5 hg (cellsB l) ?_ ?_ ?_ (cellsB_one l) B w0 hb hBg ?_
  · rw [cellsB_length]; exact (Nat.min_eq_left hn).symm
  · intro hp
    rw [cellsB_length] at hp
    obtain ⟨b, o, rfl⟩ := hsome hp
    refine ⟨hdp hp, _, rfl, fun j u hj => ?_⟩
    obtain ⟨hj1, rfl⟩ := cellsB_get hj
    exact hcel j hj1
  · simpa [cellsB_length] using hfit
  · intro w' hg' hb'
    rw [splice_cellsB] at hg'
    have := h w' hg' hb'
    simpa [goInt, cellsB_length] using this

/-- 'copy(d, s)' where d may be the shorter one. -/
theorem wpl_copy_part {ops : Array Oper} {Q : Exit → Act → World → Prop} {rest : List Oper} {a : Act} {w : World} {dst : Option Tmp} {ty : TypeId} {pos : String} {aft : Array Edge} {d s : Operand}
    (dp : Option Addr) (dLen dCap : Nat) (hd : a.eval d = .slice dp dLen dCap) (sv : Value) (l : List UInt8) (hs : a.eval s = sv) (hR : Rd w sv l) (hn : dLen ≤ l.length)
    (g off : Nat) (cur : List UInt8) (hg : w.heap[g]? = some (.cells (cellsB cur).toArray 5 (0, 0))) (hdp : 0 < dLen → dp = some ⟨g, off, none⟩) (hfit : off + dLen ≤ cur.length)
    (B : Nat) (w0 : World) (hb : Below B w0 w) (hBg : B ≤ g)
    (h : ∀ w', Hid (w'.heap[g]? = some (.cells (cellsB (splice cur off (l.take dLen))).toArray 5 (0, 0))) → Below B w0 w' → wpList Try.prog ops Q rest (a.put dst (.int .i64 (dLen : Int))) w') :
    wpList Try.prog ops Q (⟨dst, .call ⟨.builtin .copy, #[d, s], #[22, 22]⟩, ty, pos, aft, none⟩ :: rest) a w := by
  obtain ⟨⟨ao, cap, rfl, hcap, hnil, hsome⟩, hcel, _⟩ := hR
  have hlen : (l.take dLen).length = dLen := by simp; omega
  refine wpList_copy_splice rfl d s 22 22 rfl 5 Try.underlying22 size_u8 dp ao dLen dCap l.length cap hd hs g off (cellsB cur) 5 hg (cellsB (l.take dLen)) ?_ ?_ ?_ (cellsB_one _) B w0 hb hBg ?_
  · rw [cellsB_length, hlen]; exact (Nat.min_eq_right hn).symm
  · intro hp
    rw [cellsB_length, hlen] at hp
    obtain ⟨b, o, rfl⟩ := hsome (by omega)
    refine ⟨hdp hp, _, rfl, fun j u hj => ?_⟩
    obtain ⟨hj1, rfl⟩ := cellsB_get hj
    rw [hlen] at hj1
    have e : at8 (l.take dLen) j = at8 l j := by
      unfold at8; simp only [List.getD]; rw [List.getElem?_take_of_lt hj1]
    rw [e]
    exact hcel j (by omega)
  · rw [cellsB_length, cellsB_length, hlen]; exact hfit
  · intro w' hg' hb'
    rw [splice_cellsB] at hg'
    have := h w' hg' hb'
    rw [cellsB_length, hlen]
    exact this

/-- 'append(s, x...)': s the call's own, x any that reads. -/
theorem wpl_append {ops : Array Oper} {Q : Exit → Act → World → Prop} {rest : List Oper} {a : Act} {w : World} {dst : Option Tmp} {ty : TypeId} {pos : String} {aft : Array Edge} {s x : Operand}
    (base : Nat) (sv : Value) (m : List UInt8) (hs : a.eval s = sv) (ho : Own w base sv m) (xv : Value) (l : List UInt8) (hx : a.eval x = xv) (hR : Rd w xv l) (hn : m.length + l.length ≤ 140737488355328) (hbase : base ≤ w.heap.size)
    (B : Nat) (w0 : World) (hb : Below B w0 w) (hBb : B ≤ base)
    (h : ∀ v' w', Own w' base v' (m ++ l) → Below B w0 w' → w.grownBy w' sv.ownBlock → wpList Try.prog ops Q rest (a.put dst v') w') :
    wpList Try.prog ops Q (⟨dst, .call ⟨.builtin .append, #[s, x], #[22, 22]⟩, ty, pos, aft, none⟩ :: rest) a w := by
  obtain ⟨i0, hi, hz0, hz1, hz2⟩ := info_parts info_u8
  obtain ⟨⟨ao, cap, rfl, hcap, hnil, hsome⟩, hcel, _⟩ := hR
  cases ao with
  | none =>
    obtain rfl : cap = 0 := hnil rfl
    obtain rfl : l = [] := List.eq_nil_of_length_eq_zero (by omega)
    refine wpList_append_own_none rfl s x 22 rfl base 5 i0 1 Try.underlying22 hi sv m.length (cellsB m) hs ho (by simpa using hx) ?_
    exact h sv w (by simpa using ho) hb (World.grownBy.refl _ _)
  | some ad =>
    refine wpList_append_own w rfl s x 22 rfl base 5 i0 (.int .u8 0) 1 1 Try.underlying22 hi hz0 hz1 hz2 rfl (by decide) sv m.length (cellsB m) hs ho ad l.length cap (cellsB l) hx (by simp [cellsB_length]) ?_ (cellsB_one l) (by unfold maxLen; omega) (by omega) hbase ?_
    · intro j u hj
      obtain ⟨hj1, rfl⟩ := cellsB_get hj
      exact hcel j hj1
    · intro v' w' h1 h2 _
      refine h v' w' ?_ (hb.grown h2 (by omega) fun k hk => ?_) h2
      · rw [← cellsB_append] at h1; unfold Own; rw [List.length_append]; exact h1
      · exact Nat.le_trans hBb (World.ownsRow.lt ho k hk).1

/-- One byte, as the slice that append is handed. -/
theorem rd_one (w : World) (c : Int) (h0 : 0 ≤ c) (h1 : c ≤ 255) : Rd (w.alloc (.cells #[.int .u8 c] 5)) (.slice (some ⟨w.heap.size, 0, none⟩) 1 1) [UInt8.ofNat c.toNat] := by
  refine ⟨⟨_, 1, rfl, Nat.le_refl _, (by intro h; cases h), fun _ => ⟨_, _, rfl⟩⟩, fun i hi => ?_, by simp⟩
  obtain rfl : i = 0 := by simpa using hi
  have e : at8 [UInt8.ofNat c.toNat] 0 = c := by
    simp [at8]; omega
  rw [e]
  simp [adr, Addr.add]

/-- 's[lo:]': where it lies hangs on whether anything is left; the address under a name of its own. -/
theorem slice_from (ao : Option Addr) (n c lo : Nat) (h : lo ≤ n) (hc : n ≤ c) : ∃ dp, (∀ u, (Instr.slice 22 (.slice ao n c) (some (.int .i64 (lo : Int))) none none).run Try.prog u = .ok (.slice dp (n - lo) (c - lo)) u) ∧
    (∀ b o, ao = some ⟨b, o, none⟩ → lo < c → dp = some ⟨b, o + lo, none⟩) ∧ (ao = none → dp = none) := by
  refine ⟨if c = lo then ao else ao.map (·.add lo), fun u => ?_, fun b o h1 h2 => ?_, fun h1 => ?_⟩
  · rw [run_slice_l (P := Try.prog) u 22 ao n c Try.underlying22 .i64 lo (by omega) (by omega)]
    simp [go_sem, Result.andThen, sliced]
  · subst h1
    rw [if_neg (by omega)]
    simp [Addr.add]
  · subst h1; simp

/-- 's[lo:hi]' of a slice that reads. -/
theorem Rd.cut {w : World} {v : Value} {l : List UInt8} (h : Rd w v l) (lo hi : Nat) (h1 : lo ≤ hi) (h2 : hi ≤ l.length) :
    ∃ v', (∀ u, (Instr.slice 22 v (some (.int .i64 (lo : Int))) (some (.int .i64 (hi : Int))) none).run Try.prog u = .ok v' u) ∧ ∀ w', Rd w' v l → Rd w' v' ((l.take hi).drop lo) := by
  obtain ⟨⟨ao, cap, rfl, hcap, hnil, hsome⟩, hcel, hsm⟩ := h
  refine ⟨.slice (if cap = lo then ao else ao.map (·.add lo)) (hi - lo) (cap - lo), fun u => ?_, fun w' h' => ?_⟩
  · rw [run_slice_lh (P := Try.prog) u 22 ao l.length cap Try.underlying22 .i64 .i64 lo hi (by omega) (by omega) (by omega)]
    simp [go_sem, Result.andThen, sliced]
  · have hlen : ((l.take hi).drop lo).length = hi - lo := by simp; omega
    have hadr : ∀ b o, 0 < hi - lo → ao = some ⟨b, o, none⟩ → (if cap = lo then ao else ao.map (·.add lo)) = some ⟨b, o + lo, none⟩ := by
      intro b o hp he
      subst he
      rw [if_neg (by omega)]
      simp [Addr.add]
    refine ⟨⟨_, _, by rw [hlen], by rw [hlen]; omega, ?_, ?_⟩, ?_, by rw [hlen]; omega⟩
    · intro hn
      by_cases hc : cap = lo
      · omega
      · rw [if_neg hc] at hn
        have : ao = none := by cases ao <;> simp_all
        have := hnil this
        omega
    · intro hp
      rw [hlen] at hp
      obtain ⟨b, o, he⟩ := hsome (by omega)
      exact ⟨b, o + lo, hadr b o hp he⟩
    · intro i hi'
      rw [hlen] at hi'
      obtain ⟨b, o, he⟩ := hsome (by omega)
      have hc := h'.cells (lo + i) (by omega)
      rw [hadr b o (by omega) he]
      subst he
      have e1 : adr (.slice (some ⟨b, o + lo, none⟩) (hi - lo) (cap - lo)) i = adr (.slice (some ⟨b, o, none⟩) l.length cap) (lo + i) := by
        simp only [adr, Addr.add]
        split <;> split <;> simp_all <;> omega
      rw [e1, hc]
      congr 2
      unfold at8
      simp [List.getD]
      rw [List.getElem?_take_of_lt (by omega)]

/-- 's[lo:]' of a slice that reads. -/
theorem Rd.from {w : World} {v : Value} {l : List UInt8} (h : Rd w v l) (lo : Nat) (h1 : lo ≤ l.length) :
    ∃ v', (∀ u, (Instr.slice 22 v (some (.int .i64 (lo : Int))) none none).run Try.prog u = .ok v' u) ∧ ∀ w', Rd w' v l → Rd w' v' (l.drop lo) := by
  obtain ⟨v', hr, hd⟩ := h.cut lo l.length h1 (Nat.le_refl _)
  refine ⟨v', fun u => ?_, fun w' h' => by have := hd w' h'; rwa [List.take_length] at this⟩
  obtain ⟨⟨ao, cap, rfl, hcap, hnil, hsome⟩, hcel, hsm⟩ := h
  rw [← hr u, run_slice_lh (P := Try.prog) u 22 ao l.length cap Try.underlying22 .i64 .i64 lo l.length (by omega) (by omega) (by omega),
    run_slice_l (P := Try.prog) u 22 ao l.length cap Try.underlying22 .i64 lo (by omega) (by omega)]
  simp

/-- 's[:hi]' of a slice that reads. -/
theorem Rd.upto {w : World} {v : Value} {l : List UInt8} (h : Rd w v l) (hi : Nat) (h1 : hi ≤ l.length) :
    ∃ v', (∀ u, (Instr.slice 22 v none (some (.int .i64 (hi : Int))) none).run Try.prog u = .ok v' u) ∧ ∀ w', Rd w' v l → Rd w' v' (l.take hi) := by
  obtain ⟨v', hr, hd⟩ := h.cut 0 hi (Nat.zero_le _) h1
  refine ⟨v', fun u => ?_, fun w' h' => by have := hd w' h'; rwa [List.drop_zero] at this⟩
  obtain ⟨⟨ao, cap, rfl, hcap, hnil, hsome⟩, hcel, hsm⟩ := h
  rw [← hr u, run_slice_lh (P := Try.prog) u 22 ao l.length cap Try.underlying22 .i64 .i64 ((0 : Nat) : Int) hi (by omega) (by omega) (by omega),
    run_slice_h (P := Try.prog) u 22 ao l.length cap Try.underlying22 .i64 hi (by omega) (by omega)]
  simp

/-- A literal of bytes, as it is laid. -/
theorem rd_lit (w : World) (l : List UInt8) (hs : l.length ≤ 140737488351232) (z : Nat × Nat) : Rd (w.alloc (.cells (cellsB l).toArray 5 z)) (.slice (some ⟨w.heap.size, 0, none⟩) l.length l.length) l := by
  refine ⟨⟨_, _, rfl, Nat.le_refl _, (by intro h; cases h), fun _ => ⟨_, _, rfl⟩⟩, fun i hi => ?_, hs⟩
  have e : adr (.slice (some ⟨w.heap.size, 0, none⟩) l.length l.length) i = ⟨w.heap.size, i, none⟩ := by
    simp only [adr, Addr.add]; split <;> simp_all
  rw [e, cell_of_row _ _ _ _ _ z (heap_alloc_new w _)]
  rw [List.getElem?_toArray]
  exact cellsB_at hi

/-- '[]byte{}'. -/
theorem own_empty (w : World) (base : Nat) (hb : base ≤ w.heap.size) : Own (w.alloc (.cells #[] 5)) base (.slice (some ⟨w.heap.size, 0, none⟩) 0 0) [] :=
  World.ownsRow_made w #[] 0 hb (Nat.zero_le _) (by simp)

/-- 'string(s)'. -/
theorem Rd.str {w : World} {v : Value} {l : List UInt8} (h : Rd w v l) : (convert 22 9 v).run Try.prog w = .ok (.string ⟨l.toArray⟩) w := by
  obtain ⟨⟨ao, cap, rfl, hcap, hnil, hsome⟩, hcel, hsm⟩ := h
  by_cases h0 : l.length = 0
  · obtain rfl : l = [] := List.eq_nil_of_length_eq_zero h0
    cases ao with
    | none => exact run_convert_bytes_nil (P := Try.prog) w 22 5 Try.underlying22 Try.underlying5 0 cap 9 Try.underlying9
    | some a =>
      rw [run_convert_bytes_string w 22 9 5 (some a) _ cap Try.underlying22 Try.underlying5 Try.underlying9]
      rw [run_bytesToString w a _ cap [] (by simpa using run_loadCells_list (P := Try.prog) w a [] (by simp))]
      rfl
  · obtain ⟨b, o, rfl⟩ := hsome (by omega)
    rw [run_convert_bytes_arg (P := Try.prog) w 22 5 Try.underlying22 Try.underlying5 b o l.length cap (l.map fun c => (c.toNat : Int)) (by simp) ?_ 9 Try.underlying9]
    · congr 3
      simp [strOfNums]
      have e : ((fun n : Int => UInt8.ofNat n.toNat) ∘ fun c : UInt8 => (c.toNat : Int)) = id := by funext c; simp
      rw [e, List.map_id]
    · intro i hi
      have := hcel i hi
      have e : adr (.slice (some ⟨b, o, none⟩) l.length cap) i = ⟨b, o + i, none⟩ := by
        simp only [adr, Addr.add]; split <;> simp_all
      rw [e] at this
      rw [this, at8_eq hi]
      simp [List.getD, hi]

theorem own_nil (w : World) (base : Nat) : Own w base (.slice none 0 0) [] := World.ownsRow_nil w base _ _

theorem block_setCell {w : World} {g k : Nat} {c : Array Value} {e : TypeId} {z : Nat × Nat} (h : w.heap[g]? = some (.cells c e z)) (u : Value) :
    (w.setCell ⟨g, k, none⟩ u).heap[g]? = some (.cells (c.setIfInBounds k u) e z) := by
  simp [World.setCell, Array.getElem?_modify, h]

theorem grown_setCell {w w' : World} {g k : Nat} (h : w.grownBy w' (some g)) (u : Value) : w.grownBy (w'.setCell ⟨g, k, none⟩ u) (some g) :=
  ⟨h.os, h.tape, h.output, by simpa using h.size, fun i hi hne => by
    rw [Below.heap_setCell _ _ _ _ (by intro e; exact hne (by rw [e]))]; exact h.block i hi hne⟩

theorem set_at {α : Type} (l m : List α) (u : α) (k : Nat) (hl : l.length = k) (hm : 0 < m.length) : (l ++ m).toArray.setIfInBounds k u = (l ++ [u] ++ m.drop 1).toArray := by
  subst hl
  cases m with
  | nil => simp at hm
  | cons b m => simp

theorem cell_mid {w : World} {g k : Nat} {l m : List Value} {e : TypeId} {z : Nat × Nat} (h : w.heap[g]? = some (.cells (l ++ m).toArray e z)) (hk : k < l.length) : w.cell? ⟨g, k, none⟩ = l[k]? := by
  rw [cell_of_row w g k _ e z h, List.getElem?_toArray, List.getElem?_append_left hk]

/-- How a value that the call has made is owned, out of its block. -/
theorem own_of_block {w : World} {base g n cap : Nat} {l : List UInt8} {cur : List Value} (hb : base ≤ g) (hg : w.heap[g]? = some (.cells cur.toArray 5 (0, 0))) (hn : n = l.length) (hc : n ≤ cap) (hm : cap ≤ maxLen)
    (hs : cur.length = cap) (ht : cur.take n = cellsB l) : Own w base (.slice (some ⟨g, 0, none⟩) n cap) l := by
  subst hn
  refine ⟨by simp [cellsB_length], .inr ⟨g, cap, _, rfl, hb, hg, hc, hm, by simpa using hs, ?_⟩⟩
  simpa using ht

/-- 'make([]byte, n)', n a variable. -/
theorem make_bytes (n : Int) (h0 : 0 ≤ n) (h1 : n ≤ 281474976710656) (u : World) : (Instr.makeSlice 22 (.int .i64 n) (.int .i64 n)).run Try.prog u =
    .ok (.slice (some ⟨u.heap.size, 0, none⟩) n.toNat n.toNat) (u.alloc (.cells (cellsB (List.replicate n.toNat 0)).toArray 5)) := by
  obtain ⟨i0, hi, hz0, hz1, hz2⟩ := info_parts info_u8
  have h := run_make (P := Try.prog) u 22 5 i0 (.int .u8 0) Try.underlying22 hi hz0 .i64 .i64 n n h0 (Int.le_refl _) (by rw [hz2]; omega) (by omega)
  rw [h, hz1]
  congr 3
  simp [madeCells, cellsB, cellB, Value.cells]
  apply Array.ext
  · simp
  · intro i h1 h2
    simp [Nat.mod_one]

/-- What a call that makes bytes answers. -/
def RetB (w : World) (l : List UInt8) (e : Ending) (w' : World) : Prop := ∃ v, e = .returned v ∧ Own w' w.heap.size v l ∧ Below w.heap.size w w'

theorem Own.alloc {w : World} {base : Nat} {v : Value} {l : List UInt8} (h : Own w base v l) (o : Obj) : Own (w.alloc o) base v l := World.ownsRow.alloc h o

/-- A literal of bytes, as the call's own. -/
theorem own_lit (w : World) (base : Nat) (hb : base ≤ w.heap.size) (l : List UInt8) (hs : l.length ≤ maxLen) : Own (w.alloc (.cells (cellsB l).toArray 5 (0, 0))) base (.slice (some ⟨w.heap.size, 0, none⟩) l.length l.length) l :=
  own_of_block hb (heap_alloc_new w _) rfl (Nat.le_refl _) hs (by simp [cellsB_length]) (List.take_of_length_le (by simp [cellsB_length]))

/-- A byte of a slice of the call's own is turned. -/
theorem Own.set {w : World} {base : Nat} {v : Value} {l : List UInt8} (h : Own w base v l) {i : Nat} (hi : i < l.length) (b : UInt8) :
    Own (w.setCell (adr v i) (cellB b)) base v (l.set i b) ∧ w.frozen? (adr v i) = false ∧ base ≤ (adr v i).block := by
  obtain ⟨h0, h2⟩ := h
  rcases h2 with ⟨rfl, hn⟩ | ⟨g, cap, cur, rfl, hbg, hg, hn, hm, hs, ht⟩
  · exact absurd hi (by omega)
  · have e : adr (.slice (some ⟨g, 0, none⟩) l.length cap) i = ⟨g, i, none⟩ := by
      simp only [adr, Addr.add]; split <;> simp_all
    rw [e]
    refine ⟨⟨by simp [cellsB_length], .inr ⟨g, cap, _, by simp, hbg, block_setCell hg _, by simp; exact hn, hm, by simpa using hs, ?_⟩⟩, frozen_of_row _ _ _ _ _ hg, hbg⟩
    simp only [List.length_set]
    rw [Array.toList_setIfInBounds, List.take_set, ht]
    simp [cellsB, List.map_set]

theorem Own.drew {w : World} {base : Nat} {v : Value} {l : List UInt8} (h : Own w base v l) : Own w.drew base v l := h.later ((Below.refl w.heap.size w).drew) (Nat.le_refl _)

end Go.Proofs.Ytegaamebcoockaa
