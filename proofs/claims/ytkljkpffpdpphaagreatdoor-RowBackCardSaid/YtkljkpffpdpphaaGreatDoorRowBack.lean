/-
  RowBack: the law's own walk.
-/
import Derived.Test.YtkljkpffpdpphaaGreatDoorGAlive
import Derived.Test.YtkljkpffpdpphaaGreatDoorRowSame
import Derived.Test.YtkljkpffpdpphaaGreatDoorRowRead
import Derived.Test.YtkljkpffpdpphaaGreatDoorGRowL
import Derived.Test.YtkljkpffpdpphaaGreatDoorSliceG
import Derived.Test.YtkljkpffpdpphaaGreatDoorGText
import Derived.RegionTactic
import Derived.Deep.RegionHeld3
set_option linter.unusedVariables false
set_option linter.unusedSimpArgs false
set_option maxRecDepth 1000000
namespace Go.Proofs.YtkljkpffpdpphaaGreatDoor
open Go.RowKit Go.Shelf
theorem flatten_invE : ∀ (vs : List CellB) j u, (vs.map cellVs).flatten[j]? = some u → j / 2 < vs.length ∧ ((vs.map cellVs).getD (j / 2) [])[j % 2]? = some u
  | [], j, u, h => by simp at h
  | x :: r, j, u, h => by
    have hx : (cellVs x).length = 2 := rfl
    rw [List.map_cons, List.flatten_cons] at h
    by_cases hj : j < 2
    · rw [List.getElem?_append_left (by omega)] at h
      rw [Nat.div_eq_of_lt hj, Nat.mod_eq_of_lt hj]
      exact ⟨by simp, h⟩
    · rw [List.getElem?_append_right (by omega), hx] at h
      obtain ⟨h1, h2⟩ := flatten_invE r (j - 2) u h
      have e1 : j / 2 = (j - 2) / 2 + 1 := by omega
      have e2 : j % 2 = (j - 2) % 2 := by omega
      rw [e1, e2]
      exact ⟨by simp; omega, by simpa using h2⟩

section
variable {ops : Array Oper} {a : Act} {w : World} {K : Act → World → Prop} {Q : Exit → Act → World → Prop} {E : Prop} {dst : Option Tmp} {ty : TypeId} {pos : String} {aft : Array Edge} {s x : Operand} {gu : Option (Nat × Bool)}

theorem stepE_appendAll (base : Nat) (sv : Value) (cs ds : List CellB) (xv : Value) (hw : Region.wanted ⟨dst, .call ⟨.builtin .append, #[s, x], #[23, 23]⟩, ty, pos, aft, gu⟩ (yielded ops a.tmps) = true)
    (hs : a.eval s = sv) (ho : OwnE w base sv cs) (hx : a.eval x = xv) (hr : RdE w xv ds) (hd : 0 < ds.length) (hn : (cs.length + ds.length) * 24 ≤ 140737488355328) (hbase : base ≤ w.heap.size)
    (B : Nat) (w0 : World) (hb : Below B w0 w) (hBb : B ≤ base)
    (h : ∀ v' w', OwnE w' base v' (cs ++ ds) → Below B w0 w' → w.grownBy w' sv.ownBlock → K (a.put dst v') w') :
    if Region.wanted ⟨dst, .call ⟨.builtin .append, #[s, x], #[23, 23]⟩, ty, pos, aft, gu⟩ (yielded ops a.tmps) = true then Oper.wp Tryz.prog ⟨dst, .call ⟨.builtin .append, #[s, x], #[23, 23]⟩, ty, pos, aft, gu⟩ a w K Q else E := by
  rw [if_pos hw]
  obtain ⟨i0, hi, hz0, hz1, hz2⟩ := info_parts cellOk.info
  obtain ⟨ao, cap, hv, _, _, hp⟩ := RdG.shape hr
  rw [List.length_map] at hv hp
  obtain ⟨b, o, rfl⟩ := hp hd
  have hone : ∀ c : CellB, ∀ z ∈ cellVs c, z.oneCell' = true := fun c z hz => by simp [cellVs] at hz; rcases hz with rfl | rfl <;> rfl
  have hfl : ∀ l : List CellB, ((l.map cellVs).flatten).length = l.length * 2 := fun l => by
    induction l with
    | nil => rfl
    | cons a r ih => rw [List.map_cons, List.flatten_cons, List.length_append, ih]; simp [cellVs]; omega
  refine wp_append_own w s x 23 rfl base 45 i0 cellE.zero 2 24 cellOk.hS hi hz0 hz1 hz2 cellOk.hz (by decide) sv cs.length (cs.map cellVs).flatten hs (by have := ho.1; rw [List.length_map] at this; exact this) ⟨b, o, none⟩ ds.length cap (ds.map cellVs).flatten (by rw [hx, hv]) (hfl ds) ?_ ?_ (by unfold maxLen; omega) hn hbase ?_
  · intro j u hj
    obtain ⟨h1, h2⟩ := flatten_invE ds j u hj
    have := RdG.cells hr (j / 2) (by rw [List.length_map]; exact h1) (j % 2) u h2
    rw [hv, adr_lit] at this
    have e : o + (j / 2 * cellE.n + j % 2) = o + j := by
      have : cellE.n = 2 := rfl
      rw [this]; omega
    rw [e] at this
    have e2 : Addr.add ⟨b, o, none⟩ j = ⟨b, o + j, none⟩ := by simp only [Addr.add]; split <;> simp_all
    rw [e2]; exact this
  · intro u hu
    obtain ⟨y, hy, hz⟩ := List.mem_flatten.1 hu
    obtain ⟨c, _, rfl⟩ := List.mem_map.1 hy
    exact hone c u hz
  · intro v' w' h1' h2 _
    refine h v' w' ⟨?_, ?_, ?_⟩ (hb.grown h2 (by omega) fun k hk => ?_) h2
    · rw [List.length_map, List.length_append, List.map_append, List.flatten_append]; exact h1'
    · intro y hy; obtain ⟨c, _, rfl⟩ := List.mem_map.1 hy; rfl
    · intro y hy; obtain ⟨c, _, rfl⟩ := List.mem_map.1 hy; exact hone c
    · exact Nat.le_trans hBb (World.ownsRow.lt ho.1 k hk).1

theorem stepE_append (base : Nat) (sv : Value) (cs : List CellB) (c : CellB) (ad : Addr) (hw : Region.wanted ⟨dst, .call ⟨.builtin .append, #[s, x], #[23, 23]⟩, ty, pos, aft, gu⟩ (yielded ops a.tmps) = true)
    (hs : a.eval s = sv) (ho : OwnE w base sv cs) (hx : a.eval x = .slice (some ad) 1 1) (hc : ∀ j z, (cellVs c)[j]? = some z → w.cell? (ad.add j) = some z) (hn : (cs.length + 1) * 24 ≤ 140737488355328) (hbase : base ≤ w.heap.size)
    (B : Nat) (w0 : World) (hb : Below B w0 w) (hBb : B ≤ base)
    (h : ∀ v' w', OwnE w' base v' (cs ++ [c]) → Below B w0 w' → K (a.put dst v') w') :
    if Region.wanted ⟨dst, .call ⟨.builtin .append, #[s, x], #[23, 23]⟩, ty, pos, aft, gu⟩ (yielded ops a.tmps) = true then Oper.wp Tryz.prog ⟨dst, .call ⟨.builtin .append, #[s, x], #[23, 23]⟩, ty, pos, aft, gu⟩ a w K Q else E := by
  rw [if_pos hw]
  obtain ⟨i0, hi, hz0, hz1, hz2⟩ := info_parts cellOk.info
  have hone : ∀ c : CellB, ∀ z ∈ cellVs c, z.oneCell' = true := fun c z hz => by simp [cellVs] at hz; rcases hz with rfl | rfl <;> rfl
  have ho' : OwnG cellE w base sv (cs.map cellVs) := ho
  refine wp_append_own w s x 23 rfl base 45 i0 cellE.zero 2 24 cellOk.hS hi hz0 hz1 hz2 cellOk.hz (by decide) sv (cs.map cellVs).length (cs.map cellVs).flatten hs ho'.1 ad 1 1 (cellVs c) hx rfl hc (hone c) (by rw [List.length_map]; unfold maxLen; omega) (by rw [List.length_map]; exact hn) hbase ?_
  intro v' w' h1 h2 _
  refine h v' w' ⟨?_, ?_, ?_⟩ (hb.grown h2 (by omega) fun k hk => Nat.le_trans hBb (World.ownsRow.lt ho.1 k hk).1)
  · show w'.ownsRow base 45 2 v' _ _
    rw [List.map_append, List.length_append, List.flatten_append]; simpa using h1
  · intro y hy; obtain ⟨c, _, rfl⟩ := List.mem_map.1 hy; rfl
  · intro y hy; obtain ⟨c, _, rfl⟩ := List.mem_map.1 hy; exact hone c
end

theorem ownE_at {w : World} {g base : Nat} (hg : w.heap[g]? = some (.cells #[] 45 (0, 0))) (hb : base ≤ g) : OwnE w base (.slice (some ⟨g, 0, none⟩) 0 0) [] :=
  ⟨⟨by simp, .inr ⟨g, 0, #[], rfl, hb, hg, by simp, by unfold maxLen; omega, by simp, by simp⟩⟩, by simp, by simp⟩

/-- The row's first cell, and that all that was there at the beginning is as it was. -/
abbrev S6 (w : World) (b o : Nat) (n : Nat) (s : ByteArray) (u : World) : Prop := u.cell? ⟨b, o, none⟩ = some (.int .u64 (n : Int)) ∧ u.cell? ⟨b, o + 1, none⟩ = some (.string s) ∧ Below w.heap.size w u
theorem S6.of {w w1 u : World} {b o n : Nat} {s : ByteArray} (hb : b < w.heap.size) (h : S6 w b o n s w1) (hu : Below w.heap.size w1 u) : S6 w b o n s u :=
  ⟨by have := h.1; unfold World.cell? at this ⊢; rw [hu.block b hb]; exact this, by have := h.2.1; unfold World.cell? at this ⊢; rw [hu.block b hb]; exact this, h.2.2.trans hu⟩
theorem S6.alloc {w u : World} {b o n : Nat} {s : ByteArray} (hb : b < w.heap.size) (h : S6 w b o n s u) (x : Obj) : S6 w b o n s (u.alloc x) := S6.of hb h ((Below.refl _ u).alloc h.2.2.size x)
theorem S6.drew {w u : World} {b o n : Nat} {s : ByteArray} (hb : b < w.heap.size) (h : S6 w b o n s u) : S6 w b o n s u.drew := S6.of hb h (Below.refl _ u).drew

/-- A block that another one's growing leaves. -/
theorem grown_cell {w w' : World} {g q : Nat} {c : CellB} {z : Nat × Nat} (hg : w.grownBy w' (some g)) (hq : w.heap[q]? = some (.cells #[.int .u64 (c.1 : Int), .string c.2] 45 z)) (hne : q ≠ g) :
    ∀ j u, (cellVs c)[j]? = some u → w'.cell? (Addr.add ⟨q, 0, none⟩ j) = some u := by
  intro j u hj
  have e : Addr.add ⟨q, 0, none⟩ j = ⟨q, j, none⟩ := by simp [Addr.add]; omega
  have h2 : w'.heap[q]? = some (.cells #[.int .u64 (c.1 : Int), .string c.2] 45 z) := by
    rw [hg.block q (Array.getElem?_eq_some_iff.1 hq).1 (by intro h; injection h with h; exact hne h)]; exact hq
  rw [e, cell_of_row _ _ _ _ _ _ h2, List.getElem?_toArray]
  exact hj

theorem errRow_short {cs : List ColB} {r t : List CellB} (h : errRow cs r = 0) (ht : t.length ≠ r.length) : errRow cs t = 2 := by
  obtain ⟨hS, hl, _⟩ := errRow_len h
  unfold errRow errC
  rw [if_pos hS, if_neg (by omega)]

theorem al1 (w : World) (x : Obj) : (w.alloc x).heap[w.heap.size]? = some x := heap_alloc_new w x
theorem al2 (w : World) (x y : Obj) : ((w.alloc x).alloc y).heap[w.heap.size]? = some x := by
  rw [((Below.refl (w.alloc x).heap.size (w.alloc x)).alloc (Nat.le_refl _) y).block w.heap.size (by simp)]; exact al1 w x
theorem al3 (w : World) (x y : Obj) : ((w.alloc x).alloc y).heap[w.heap.size + 1]? = some y := by
  have := al1 (w.alloc x) y
  rwa [show (w.alloc x).heap.size = w.heap.size + 1 by simp] at this

section
variable {ops : Array Oper} {a : Act} {w : World} {K : Act → World → Prop} {Q : Exit → Act → World → Prop} {E : Prop} {dst : Option Tmp} {ty : TypeId} {pos : String} {aft : Array Edge} {s x : Operand} {gu : Option (Nat × Bool)}
variable {w5 : World} {b1 o1 n0 : Nat} {s0 : ByteArray} {v2 : Value} {r : List CellB}

theorem step6_all (g : Nat) (hb1 : b1 < w5.heap.size) (h5 : S6 w5 b1 o1 n0 s0 w5) (HR : Hid (∀ wz, Below w5.heap.size w5 wz → RdE wz v2 r)) (hd : 0 < r.length ∧ r.length ≤ 100)
    (hw : Region.wanted ⟨dst, .call ⟨.builtin .append, #[s, x], #[23, 23]⟩, ty, pos, aft, gu⟩ (yielded ops a.tmps) = true)
    (hs : a.eval s = .slice (some ⟨g, 0, none⟩) 0 0) (hx : a.eval x = v2) (hg : w.heap[g]? = some (.cells #[] 45 (0, 0))) (hgb : w5.heap.size ≤ g) (hS : S6 w5 b1 o1 n0 s0 w)
    (h : ∀ v' w', OwnE w' w5.heap.size v' r → S6 w5 b1 o1 n0 s0 w' → w.grownBy w' (some g) → K (a.put dst v') w') :
    if Region.wanted ⟨dst, .call ⟨.builtin .append, #[s, x], #[23, 23]⟩, ty, pos, aft, gu⟩ (yielded ops a.tmps) = true then Oper.wp Tryz.prog ⟨dst, .call ⟨.builtin .append, #[s, x], #[23, 23]⟩, ty, pos, aft, gu⟩ a w K Q else E :=
  stepE_appendAll w5.heap.size _ [] r v2 hw hs (ownE_at hg hgb) hx (HR.out w hS.2.2) hd.1 (by simp; omega) hS.2.2.size w5.heap.size w5 hS.2.2 (Nat.le_refl _) (fun v' w' h1 h2 h3 => h v' w' h1 (S6.of hb1 h5 h2) h3)

theorem step6_one (va : Value) (q : Nat) (hb1 : b1 < w5.heap.size) (h5 : S6 w5 b1 o1 n0 s0 w5) (hd : 0 < r.length ∧ r.length ≤ 100)
    (hw : Region.wanted ⟨dst, .call ⟨.builtin .append, #[s, x], #[23, 23]⟩, ty, pos, aft, gu⟩ (yielded ops a.tmps) = true)
    (hs : a.eval s = va) (ho : OwnE w w5.heap.size va r) (hx : a.eval x = .slice (some ⟨q, 0, none⟩) 1 1) (hc : ∀ j z, (cellVs (n0, s0))[j]? = some z → w.cell? (Addr.add ⟨q, 0, none⟩ j) = some z) (hS : S6 w5 b1 o1 n0 s0 w)
    (h : ∀ v' w', OwnE w' w5.heap.size v' (r ++ [(n0, s0)]) → S6 w5 b1 o1 n0 s0 w' → K (a.put dst v') w') :
    if Region.wanted ⟨dst, .call ⟨.builtin .append, #[s, x], #[23, 23]⟩, ty, pos, aft, gu⟩ (yielded ops a.tmps) = true then Oper.wp Tryz.prog ⟨dst, .call ⟨.builtin .append, #[s, x], #[23, 23]⟩, ty, pos, aft, gu⟩ a w K Q else E :=
  stepE_append w5.heap.size va r (n0, s0) ⟨q, 0, none⟩ hw hs ho hx hc (by omega) hS.2.2.size w5.heap.size w5 hS.2.2 (Nat.le_refl _) (fun v' w' h1 h2 => h v' w' h1 (S6.of hb1 h5 h2))
end

set_option maxHeartbeats 16000000 in
theorem rowBack_walk (v1 : Value) (cs : List ColB) (v2 : Value) (r : List CellB) (s : ByteArray) (l : List UInt8) (w : World) (hR1 : RdC w v1 cs) (hC : CS cs) (hR2 : RdE w v2 r) (hE : CES r) (hs : RdS s l) (hT : Tabs w) (hL : Lib4 w) (hX : Mx w) :
    Calls Tryz.prog 6 #[v1, v2, .string s] w fun e w' => e = .returned (.bool true) ∧ Below w.heap.size w w' := by
  have hl1 := hR1.len
  have hsm1 := hR1.small
  have hls := hs.len
  have R1 := Lib.hid (fun wz (hz : Below w.heap.size w wz) => hR1.later hz (Nat.le_refl _))
  have R2 := Lib.hid (fun wz (hz : Below w.heap.size w wz) => hR2.later hz (Nat.le_refl _))
  have AL := Lib.hid (fun wz (hz : Below w.heap.size w wz) => law06_alive wz (hL.later hz) (hX.later hz))
  have GR := Lib.hid (fun wz (hz : Below w.heap.size w wz) => great_one v2 r wz (fun wy hy => R2.out wy (hz.trans (hy.mono hz.size))))
  obtain ⟨x, hx⟩ : ∃ x, x = errRow cs r := ⟨_, rfl⟩
  obtain ⟨y, hy⟩ : ∃ y : Int, y = (rowE cs l : Nat) := ⟨_, rfl⟩
  obtain ⟨n, hn⟩ : ∃ n, n = cs.length := ⟨_, rfl⟩
  obtain ⟨m, hm⟩ : ∃ m, m = l.length := ⟨_, rfl⟩
  have C1 := Lib.hid (fun wz (h : Below w.heap.size w wz) => (show Calls Tryz.prog 18 #[v1, v2] wz fun e w' => ∃ t, e = .returned (.tuple #[.string t, .int .i64 (x : Int)]) ∧ Below wz.heap.size wz w' ∧ Hid ((x ≠ 0 ∧ t = ⟨#[]⟩) ∨ (x = 0 ∧ RdS t (textR cs r))) from by
    refine (row_Text v1 v2 cs r wz (R1.out wz h) (R2.out wz h) hC hE (hL.l3.later h)).mono ?_
    rintro e w' ⟨t, rfl, hb, hh⟩
    rw [hx]
    exact ⟨t, rfl, hb, Lib.hid hh⟩))
  have HX0 := Lib.hid (show x = 0 → rowE cs (textR cs r) = 0 ∧ rowC cs (textR cs r) = r ∧ (textR cs r).length ≤ 5000 ∧ (0 < r.length ∧ r.length ≤ 100) from fun h0 => by
    have h0' : errRow cs r = 0 := hx.symm.trans h0
    obtain ⟨a1, a2⟩ := row_back hE h0'
    obtain ⟨hS, hl9, hP⟩ := errRow_len h0'
    have hz8 := errS_zero hS
    rw [colsL_length] at hz8
    exact ⟨a1, a2, textR_small hE hP (by omega), by omega, by omega⟩)
  have C2 := Lib.hid (fun wz (h : Below w.heap.size w wz) (h0 : x = 0) t (ht : RdS t (textR cs r)) => (show Calls Tryz.prog 19 #[v1, .string t] wz fun e w' => ∃ tv, e = .returned (.tuple #[tv, .int .i64 0]) ∧ Below wz.heap.size wz w' ∧ RdE w' tv r from by
    obtain ⟨a1, a2, a3, _⟩ := HX0.out h0
    have := row_Read v1 t cs (textR cs r) wz (R1.out wz h) ht hC (by omega) (hL.later h) (hX.later h)
    refine this.mono ?_
    rintro e w' ⟨tv, rfl, hb, hu⟩
    rw [a1]
    rw [a2] at hu
    exact ⟨tv, rfl, hb, hu⟩))
  have C3 := Lib.hid (fun wz u (h : Below w.heap.size w wz) (hu : RdE wz u r) => (show Calls Tryz.prog 16 #[u, v2] wz fun e w' => e = .returned (.bool true) ∧ Below wz.heap.size wz w' from by
    have := row_Same u v2 r r wz hu (R2.out wz h); rwa [decide_eq_true rfl] at this))
  have C4 := Lib.hid (fun wz u q (h : Below w.heap.size w wz) (h0 : x = 0) (hu : RdE wz u q) (hq : CES q) (hl : q.length ≠ r.length) => (show Calls Tryz.prog 10 #[v1, u] wz fun e w' => e = .returned (.int .i64 2) ∧ Below wz.heap.size wz w' from by
    have := row_Check v1 u cs q wz (R1.out wz h) hu hC hq (hT.later h)
    rw [errRow_short (hx.symm.trans h0) hl] at this
    exact this))
  have C8 := Lib.hid (fun wz (h : Below w.heap.size w wz) (hm3 : m ≤ 3000) => (show Calls Tryz.prog 19 #[v1, .string s] wz fun e w' => ∃ tv, e = .returned (.tuple #[tv, .int .i64 y]) ∧ Below wz.heap.size wz w' ∧ RdE w' tv (rowC cs l) from by
    rw [hy]
    exact row_Read v1 s cs l wz (R1.out wz h) hs hC (by omega) (hL.later h) (hX.later h)))
  have C9 := Lib.hid (fun wz u (h : Below w.heap.size w wz) (hu : RdE wz u (rowC cs l)) (h0 : y = 0) => (show Calls Tryz.prog 18 #[v1, u] wz fun e w' => e = .returned (.tuple #[.string s, .int .i64 0]) ∧ Below wz.heap.size wz w' from by
    obtain ⟨a1, a2, _⟩ := row_one (cs := cs) (l := l) (by omega)
    refine (row_Text v1 u cs (rowC cs l) wz (R1.out wz h) hu hC (rowC_ok cs l) (hL.l3.later h)).mono ?_
    rintro e w' ⟨t, rfl, hb, hh⟩
    rcases hh with ⟨h9, _⟩ | ⟨_, h9⟩
    · exact absurd a1 h9
    · rw [a2] at h9
      rw [a1, h9.eq, hs.eq]
      exact ⟨rfl, hb⟩))
  have C10 := Lib.hid (fun wz u (h : Below w.heap.size w wz) (hu : RdE wz u (rowC cs l)) (h0 : y = 0) => (show Calls Tryz.prog 10 #[v1, u] wz fun e w' => e = .returned (.int .i64 0) ∧ Below wz.heap.size wz w' from by
    obtain ⟨a1, a2, _⟩ := row_one (cs := cs) (l := l) (by omega)
    have := row_Check v1 u cs (rowC cs l) wz (R1.out wz h) hu hC (rowC_ok cs l) (hT.later h)
    rw [a1] at this
    exact this))
  have HNONE := Lib.hid (show y ≠ 0 → ∀ wz u, RdE wz u (rowC cs l) → ∀ q, (Builtin.len_ #[23] 3 #[u]).run Tryz.prog q = .ok (.int .i64 0) q from fun h0 wz u hu => by
    have h9 := hu.len
    rw [rowC_none (by intro h; rw [h] at hy; exact h0 hy)] at h9
    exact h9)
  rw [← hn] at hl1 hsm1
  rw [← hm] at hls
  obtain ⟨ao2, cap2, hv2, _⟩ := RdG.shape hR2
  rw [List.length_map] at hv2
  obtain ⟨n2, hn2⟩ : ∃ n, n = r.length := ⟨_, rfl⟩
  rw [← hn2] at hv2
  have HN2 := Lib.hid hn2
  subst hv2
  clear hR1 hR2 hL hX hT hx hy hn hm hs hn2
  go_enter Tryz.func6, Tryz.ntmps6
  go_wp2_with fail
  refine (AL.out w (Below.refl _ _)).mono ?_
  rintro e w1 ⟨rfl, hb⟩
  have HB1 := Lib.hid hb
  clear hb
  go_wp2_with fail
  refine (GR.out w1 HB1.out).mono ?_
  rintro e w2 ⟨g1, rfl, hb⟩
  have HB2 := Lib.hid (HB1.out.trans (hb.mono HB1.out.size))
  clear hb
  by_cases hbig : g1 = true ∨ 30 < n ∨ 3000 < m
  · by_cases hg : g1 = true
    · subst hg
      clear hbig
      go_wp2_with fail
      refine (AL.out w2 HB2.out).mono ?_
      rintro e w3 ⟨rfl, hb⟩
      have HB3 := Lib.hid (HB2.out.trans (hb.mono HB2.out.size))
      clear hb
      go_wp2
      go_ret
      exact ⟨rfl, HB3.out⟩
    · obtain rfl : g1 = false := by simpa using hg
      by_cases hn3 : 30 < n
      · have d30 : decide ((n : Int) > 30) = true := decide_eq_true (by omega)
        clear hbig hg
        go_wp2_with fail
        refine (AL.out w2 HB2.out).mono ?_
        rintro e w3 ⟨rfl, hb⟩
        have HB3 := Lib.hid (HB2.out.trans (hb.mono HB2.out.size))
        clear hb
        go_wp2
        go_ret
        exact ⟨rfl, HB3.out⟩
      · have d30 : decide ((n : Int) > 30) = false := decide_eq_false (by omega)
        have d31 : decide ((m : Int) > 3000) = true := decide_eq_true (by rcases hbig with h | h | h; exact absurd h hg; omega; omega)
        clear hbig hg
        go_wp2_with fail
        refine (AL.out w2 HB2.out).mono ?_
        rintro e w3 ⟨rfl, hb⟩
        have HB3 := Lib.hid (HB2.out.trans (hb.mono HB2.out.size))
        clear hb
        go_wp2
        go_ret
        exact ⟨rfl, HB3.out⟩
  · obtain rfl : g1 = false := by cases g1; rfl; exact absurd (.inl rfl) hbig
    have hn30 : n ≤ 30 := by
      by_cases h : 30 < n
      · exact absurd (.inr (.inl h)) hbig
      · omega
    have hm3 : m ≤ 3000 := by
      by_cases h : 3000 < m
      · exact absurd (.inr (.inr h)) hbig
      · omega
    have d30 : decide ((n : Int) > 30) = false := decide_eq_false (by omega)
    have d31 : decide ((m : Int) > 3000) = false := decide_eq_false (by omega)
    clear hbig
    go_wp2_with fail
    refine (C1.out w2 HB2.out).mono ?_
    rintro e w3 ⟨t, rfl, hb, HTX⟩
    have HB3 := Lib.hid (HB2.out.trans (hb.mono HB2.out.size))
    clear hb
    by_cases h0 : x = 0
    · have HT2 := Lib.hid (show RdS t (textR cs r) from by
        rcases HTX.out with ⟨h, _⟩ | ⟨_, h⟩
        · exact absurd h0 h
        · exact h)
      have HH := Lib.hid (HX0.out h0).2.2.2
      have HX00 := Lib.hid h0
      have C2' := Lib.hid (fun wz (h : Below w.heap.size w wz) => C2.out wz h h0 t HT2.out)
      have C4' := Lib.hid (fun wz u q (h : Below w.heap.size w wz) (hu : RdE wz u q) (hq : CES q) (hl : q.length ≠ r.length) => C4.out wz u q h h0 hu hq hl)
      have q2 : ((n2 : Int) == 0) = false := by
        have := HH.out
        have := HN2.out
        simp; omega
      subst h0
      clear HTX C1 C2 C4 HX0 AL GR
      go_wp2_with fail
      refine (C2'.out w3 HB3.out).mono ?_
      rintro e w5 ⟨u, rfl, hb, hu⟩
      have HB5 := Lib.hid (HB3.out.trans (hb.mono HB3.out.size))
      have HU5 := Lib.hid hu
      have HR5 := Lib.hid (fun wz (hz : Below w5.heap.size w5 wz) => R2.out wz (HB5.out.trans (hz.mono HB5.out.size)))
      clear hb hu HT2 C2'
      have hrr := HR5.out w5 (Below.refl _ _)
      obtain ⟨v3, hsl, hv3⟩ := RdG.from cellOk hrr 1 (by rw [List.length_map]; exact HH.out.1)
      have hsl : ∀ z, (Instr.slice 23 (.slice ao2 n2 cap2) (some (.int .i64 1)) none none).run Tryz.prog z = .ok v3 z := hsl
      obtain ⟨b1, o1, hidx, hcell, hb1⟩ := hrr.get HH.out.1
      obtain ⟨hc0, hc1⟩ := hcell _ hrr
      have hidx : ∀ z, (Instr.indexAt 23 (.slice ao2 n2 cap2) (.int .i64 0)).run Tryz.prog z = .ok (.pointer (some ⟨b1, o1, none⟩)) z := hidx
      have hcec := hE.get HH.out.1
      rcases hcg : r.getD 0 default with ⟨n0, s0⟩
      rw [hcg] at hc0 hc1 hcec
      dsimp only at hc0 hc1
      have h5 : S6 w5 b1 o1 n0 s0 w5 := ⟨hc0, hc1, Below.refl _ _⟩
      have H5 := Lib.hid h5
      have D3 := Lib.hid (fun wz (h : S6 w5 b1 o1 n0 s0 wz) => (show Calls Tryz.prog 16 #[u, .slice ao2 n2 cap2] wz fun e w' => e = .returned (.bool true) ∧ S6 w5 b1 o1 n0 s0 w' from
        (C3.out wz u (HB5.out.trans (h.2.2.mono HB5.out.size)) (HU5.out.later h.2.2 (Nat.le_refl _))).mono fun e w' ⟨he, hb⟩ => ⟨he, S6.of hb1 h (hb.mono h.2.2.size)⟩))
      have D4 := Lib.hid (fun wz (h : S6 w5 b1 o1 n0 s0 wz) => (show Calls Tryz.prog 10 #[v1, v3] wz fun e w' => e = .returned (.int .i64 2) ∧ S6 w5 b1 o1 n0 s0 w' from by
        have hz := hv3 wz (HR5.out wz h.2.2)
        rw [← List.map_drop] at hz
        exact (C4'.out wz v3 (r.drop 1) (HB5.out.trans (h.2.2.mono HB5.out.size)) hz (fun c hc => hE c (List.mem_of_mem_drop hc)) (by rw [List.length_drop]; have := HH.out; omega)).mono fun e w' ⟨he, hb⟩ => ⟨he, S6.of hb1 h (hb.mono h.2.2.size)⟩))
      have D5 := Lib.hid (fun wz vb (h : S6 w5 b1 o1 n0 s0 wz) (ho : OwnE wz w5.heap.size vb (r ++ [(n0, s0)])) => (show Calls Tryz.prog 10 #[v1, vb] wz fun e w' => e = .returned (.int .i64 2) ∧ S6 w5 b1 o1 n0 s0 w' from by
        exact (C4'.out wz vb (r ++ [(n0, s0)]) (HB5.out.trans (h.2.2.mono HB5.out.size)) (ho.rd (by have := HH.out; simp; omega)) (fun c hc => by
          rcases List.mem_append.1 hc with hc | hc
          · exact hE c hc
          · rw [List.mem_singleton.1 hc]; exact hcec) (by simp)).mono fun e w' ⟨he, hb⟩ => ⟨he, S6.of hb1 h (hb.mono h.2.2.size)⟩))
      clear hrr hv3 hcell hcg hcec h5 HU5 C3 C4' hc0 hc1
      go_wp2_with fail
      go_region_held3 (fun z => z.cell? ⟨b1, o1, none⟩ = some (.int .u64 (n0 : Int)) ∧ z.cell? ⟨b1, o1 + 1, none⟩ = some (.string s0) ∧ Below w5.heap.size w5 z) (first | exact ⟨m1, m2, m3⟩ | exact S6.alloc hb1 (by assumption) _ | exact S6.drew hb1 H5.out)
        ((first
          | (go_at_call 16; refine (D3.out _ (by assumption)).mono ?_; rintro e wn ⟨rfl, m1, m2, m3⟩)
          | (go_at_call 10; first | (refine (D5.out _ vb (by assumption) hOb).mono ?_; rintro e wz ⟨rfl, m1, m2, m3⟩) | (refine (D4.out _ (by assumption)).mono ?_; rintro e wn ⟨rfl, m1, m2, m3⟩; have hwn := m3.size))
          | (refine step6_all wn.heap.size hb1 H5.out HR5 HH.out (by rfl) (by rfl) (by rfl) (by first | exact al1 _ _ | exact al2 _ _ _) hwn (by assumption) ?_; intro va wa hOa hSa hga; have m1 := hSa.1; have m2 := hSa.2.1; have m3 := hSa.2.2)
          | (refine step6_all (wn.heap.size + 1) hb1 H5.out HR5 HH.out (by rfl) (by rfl) (by rfl) (by exact al3 _ _ _) (by omega) (by assumption) ?_; intro va wa hOa hSa hga; have m1 := hSa.1; have m2 := hSa.2.1; have m3 := hSa.2.2)
          | (refine step6_one va wa.heap.size hb1 H5.out HH.out (by rfl) (by rfl) (OwnE.alloc hOa _) (by rfl) (one_cellv wa (n0, s0)) (by assumption) ?_; intro vb wb hOb hSb; have m1 := hSb.1; have m2 := hSb.2.1; have m3 := hSb.2.2)
          | (refine step6_one va (wn.heap.size + 1) hb1 H5.out HH.out (by rfl) (by rfl) hOa (by rfl) (grown_cell (c := (n0, s0)) hga (al3 _ _ _) (by omega)) (by assumption) ?_; intro vb wb hOb hSb; have m1 := hSb.1; have m2 := hSb.2.1; have m3 := hSb.2.2)
          | (refine step6_one va wn.heap.size hb1 H5.out HH.out (by rfl) (by rfl) hOa (by rfl) (grown_cell (c := (n0, s0)) hga (al2 _ _ _) (by omega)) (by assumption) ?_; intro vb wb hOb hSb; have m1 := hSb.1; have m2 := hSb.2.1; have m3 := hSb.2.2)))
      all_goals (
        have HB7 := Lib.hid (HB5.out.trans (m3.mono HB5.out.size))
        clear m1 m2 m3 hOa hOb)
      all_goals (
        go_wp2_with fail
        refine (C8.out _ HB7.out hm3).mono ?_
        rintro e w8 ⟨u2, rfl, hb, hu⟩
        have HB8 := Lib.hid (HB7.out.trans (hb.mono HB7.out.size))
        have HU8 := Lib.hid hu
        clear hb hu
        by_cases hy0 : y = 0
        · have C9' := Lib.hid (fun wz u (h : Below w.heap.size w wz) (hu : RdE wz u (rowC cs l)) => C9.out wz u h hu hy0)
          have C10' := Lib.hid (fun wz u (h : Below w.heap.size w wz) (hu : RdE wz u (rowC cs l)) => C10.out wz u h hu hy0)
          subst hy0
          go_wp2_with fail
          refine (C9'.out w8 u2 HB8.out HU8.out).mono ?_
          rintro e w9 ⟨rfl, hb⟩
          have HB9 := Lib.hid (HB8.out.trans (hb.mono HB8.out.size))
          have HU9 := Lib.hid (HU8.out.later hb (Nat.le_refl _))
          clear hb
          go_wp2_with fail
          refine (C10'.out w9 u2 HB9.out HU9.out).mono ?_
          rintro e w10 ⟨rfl, hb⟩
          have HB10 := Lib.hid (HB9.out.trans (hb.mono HB9.out.size))
          clear hb
          go_wp2
          go_ret
          exact ⟨rfl, HB10.out⟩
        · have q9 : (y != 0) = true := by rw [bne_iff_ne]; exact hy0
          have hl9 := HNONE.out hy0 w8 u2 HU8.out
          go_wp2
          go_ret
          exact ⟨rfl, HB8.out⟩)
    · have q : ((x : Int) == 0) = false := by simp; omega
      clear HTX C1 C2 C4 HX0 AL GR C3
      have HB7 := HB3
      go_wp2_with fail
      refine (C8.out _ HB7.out hm3).mono ?_
      rintro e w8 ⟨u2, rfl, hb, hu⟩
      have HB8 := Lib.hid (HB7.out.trans (hb.mono HB7.out.size))
      have HU8 := Lib.hid hu
      clear hb hu
      by_cases hy0 : y = 0
      · have C9' := Lib.hid (fun wz u (h : Below w.heap.size w wz) (hu : RdE wz u (rowC cs l)) => C9.out wz u h hu hy0)
        have C10' := Lib.hid (fun wz u (h : Below w.heap.size w wz) (hu : RdE wz u (rowC cs l)) => C10.out wz u h hu hy0)
        subst hy0
        go_wp2_with fail
        refine (C9'.out w8 u2 HB8.out HU8.out).mono ?_
        rintro e w9 ⟨rfl, hb⟩
        have HB9 := Lib.hid (HB8.out.trans (hb.mono HB8.out.size))
        have HU9 := Lib.hid (HU8.out.later hb (Nat.le_refl _))
        clear hb
        go_wp2_with fail
        refine (C10'.out w9 u2 HB9.out HU9.out).mono ?_
        rintro e w10 ⟨rfl, hb⟩
        have HB10 := Lib.hid (HB9.out.trans (hb.mono HB9.out.size))
        clear hb
        go_wp2
        go_ret
        exact ⟨rfl, HB10.out⟩
      · have q9 : (y != 0) = true := by rw [bne_iff_ne]; exact hy0
        have hl9 := HNONE.out hy0 w8 u2 HU8.out
        go_wp2
        go_ret
        exact ⟨rfl, HB8.out⟩
end Go.Proofs.YtkljkpffpdpphaaGreatDoor
