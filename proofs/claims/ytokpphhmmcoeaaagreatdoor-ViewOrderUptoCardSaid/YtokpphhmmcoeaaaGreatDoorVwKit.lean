/-
  Layer 17's laws: what they share.
-/
import Derived.Test.YtokpphhmmcoeaaaGreatDoorVwAlive
import Derived.Test.YtokpphhmmcoeaaaGreatDoorGZDefs
import Derived.Test.YtokpphhmmcoeaaaGreatDoorEntMath
set_option linter.unusedVariables false
set_option linter.unusedSimpArgs false
set_option maxRecDepth 1000000
namespace Go.Proofs.YtokpphhmmcoeaaaGreatDoor
open Go.RowKit Go.Shelf

/-- A cursor's cells in a block. -/
def C17 (w : World) (b : Nat) (c : CurB) : Prop := w.heap[b]? = some (.cells #[.int .i64 c.1, .int .i64 c.2.1, .int .u32 c.2.2] 30 (0, 0))
theorem C17.cells {w : World} {b : Nat} {c : CurB} (h : C17 w b c) : w.cell? ⟨b, 0, none⟩ = some (.int .i64 c.1) ∧ w.cell? ⟨b, 1, none⟩ = some (.int .i64 c.2.1) ∧ w.cell? ⟨b, 2, none⟩ = some (.int .u32 c.2.2) := three_cells h
theorem C17.lt {w : World} {b : Nat} {c : CurB} (h : C17 w b c) : b < w.heap.size := (Array.getElem?_eq_some_iff.1 h).1
theorem C17.later {w w' : World} {b : Nat} {c : CurB} (h : C17 w b c) (hb : Below w.heap.size w w') : C17 w' b c := (hb.block b h.lt).trans h
theorem C17.only {w w' : World} {b g : Nat} {c : CurB} (h : C17 w b c) (hO : Only (fun j => j = g) w w') (hg : b ≠ g) : C17 w' b c := hO.keep h hg
/-- Two of them, beside what turns. -/
def D17 (w : World) (a b g : Nat) (c d : CurB) : Prop := C17 w a c ∧ C17 w b d ∧ a ≠ g ∧ b ≠ g
abbrev E17 (a b : Nat) (c d : CurB) (z : World) : Prop := z.cell? ⟨a, 0, none⟩ = some (.int .i64 c.1) ∧ z.cell? ⟨a, 1, none⟩ = some (.int .i64 c.2.1) ∧ z.cell? ⟨a, 2, none⟩ = some (.int .u32 c.2.2) ∧ z.cell? ⟨b, 0, none⟩ = some (.int .i64 d.1) ∧ z.cell? ⟨b, 1, none⟩ = some (.int .i64 d.2.1) ∧ z.cell? ⟨b, 2, none⟩ = some (.int .u32 d.2.2)
theorem D17.cells {w : World} {a b g : Nat} {c d : CurB} (h : D17 w a b g c d) : E17 a b c d w := ⟨h.1.cells.1, h.1.cells.2.1, h.1.cells.2.2, h.2.1.cells.1, h.2.1.cells.2.1, h.2.1.cells.2.2⟩
theorem D17.later {w w' : World} {a b g : Nat} {c d : CurB} (h : D17 w a b g c d) (hb : Below w.heap.size w w') : D17 w' a b g c d := ⟨h.1.later hb, h.2.1.later hb, h.2.2⟩
theorem D17.only {w w' : World} {a b g : Nat} {c d : CurB} (h : D17 w a b g c d) (hO : Only (fun j => j = g) w w') : D17 w' a b g c d := ⟨h.1.only hO h.2.2.1, h.2.1.only hO h.2.2.2, h.2.2⟩

section
variable {cs : List ColB} {qs a : List PairB} {c d : CurB} {n : Int}
theorem sum_nil (h : Zs cs a) : sumE cs [] a = 0 ∧ sumO cs [] a = a := sum_as (nil_set h.schema) h h (fun r => by simp [Z.sumW])
theorem chk_nil (h : errS (colsL cs) = 0) : chkZ cs [] = 0 := (nil_set h).2
/-- A change that is taken. -/
theorem tk_one (hs : sumE cs qs a = 0) (h1 : d.2.2 = c.2.2) (h2 : c.1 ≤ d.1) (h3 : c.2.1 ≤ d.2.1) : tkE cs qs c (0, a, d) = 0 ∧ tkQ cs qs c (0, a, d) = sumO cs qs a ∧ tkC cs qs c (0, a, d) = d ∧ tkN cs qs c n (0, a, d) = n + 1 := by
  obtain ⟨e1, e2⟩ := tk_change (cs := cs) (qs := qs) (c := c) (m := (0, a, d)) rfl h1 (by dsimp only; omega)
  have h0 := e1.trans hs
  obtain ⟨k1, k2, k3⟩ := tk_yes (n := n) h0
  exact ⟨h0, k1.trans e2, k2, k3⟩
/-- A Reset that is taken. -/
theorem tk_set1 (hs : chkZ cs a = 0) (h1 : d.2.2 = c.2.2) (h2 : c.1 ≤ d.1) (h3 : c.2.1 ≤ d.2.1) : tkE cs qs c (1, a, d) = 0 ∧ tkQ cs qs c (1, a, d) = a ∧ tkC cs qs c (1, a, d) = d ∧ tkN cs qs c n (1, a, d) = n + 1 := by
  obtain ⟨e1, e2⟩ := tk_reset (cs := cs) (qs := qs) (c := c) (m := (1, a, d)) rfl h1 (by dsimp only; omega)
  have h0 := e1.trans hs
  obtain ⟨k1, k2, k3⟩ := tk_yes (n := n) h0
  exact ⟨h0, k1.trans e2, k2, k3⟩
end

theorem offS_old {w : World} {v : Value} {ps : List PairB} {Q : Nat → Prop} (h : RdP w v ps) (hQ : ∀ j, j < w.heap.size → ¬ Q j) : OffS w v ps Q := by
  obtain ⟨ts, e, h1, h2⟩ := h
  exact ⟨ts, e, h1, h2, fun i hi => hQ _ (RdG.block h1 pairOk (i := i) (by simpa using hi)), fun t ht i hi => hQ _ (RdG.block (h2 t ht) cellOk (i := i) (by simpa using hi))⟩
theorem OffS.only17 {w w' : World} {v : Value} {ps : List PairB} {Q : Nat → Prop} (h : OffS w v ps Q) (hO : Only Q w w') : OffS w' v ps Q := h.keep fun j hj hq => hO.block j hj hq

/-- What a Take that is fine leaves. -/
def TkYQ (Q : Nat → Prop) (w : World) (N g : Nat) (cs : List ColB) (qs : List PairB) (c : CurB) (n : Int) (e : Ending) (w' : World) : Prop := e = .returned (.int .i64 0) ∧ Vw 65 w' N g cs qs c n Q ∧ Only (fun j => j = g) w w'
theorem take_changeQ {Q : Nat → Prop} {w : World} {N g : Nat} {cs : List ColB} {qs a b : List PairB} {c d : CurB} {n k : Int} {pv : Value} (hV : Vw 65 w N g cs qs c n Q) (hQ : ∀ j, Q j → j < w.heap.size) (hp : RdP w pv a) (hm : PSO a) (hs : sumE cs qs a = 0) (hb : sumO cs qs a = b) (h1 : d.2.2 = c.2.2) (h2 : c.1 ≤ d.1) (h3 : c.2.1 ≤ d.2.1) (hn : 0 ≤ n ∧ n ≤ 1000000) (hk : k = n + 1) (hC : CS cs) (hT : Tabs w) :
    Calls Tryz.prog 8 #[.pointer (some ⟨g, 0, none⟩), .agg #[.int .i64 0, pv, .int .i64 d.1, .int .i64 d.2.1, .int .u32 d.2.2]] w (TkYQ Q w N g cs b d k) := by
  refine (view_Take hV hQ _ (0, a, d) ⟨pv, rfl, hp⟩ hm hn hC hT).mono ?_
  rintro e w' ⟨he, hv, hO⟩
  obtain ⟨t1, t2, t3, t4⟩ := tk_one (n := n) hs h1 h2 h3
  rw [t1] at he
  rw [t2, t3, t4, hb, ← hk] at hv
  exact ⟨he, hv, hO⟩
theorem take_resetQ {Q : Nat → Prop} {w : World} {N g : Nat} {cs : List ColB} {qs a : List PairB} {c d : CurB} {n k : Int} {pv : Value} (hV : Vw 65 w N g cs qs c n Q) (hQ : ∀ j, Q j → j < w.heap.size) (hp : RdP w pv a) (hm : PSO a) (hs : chkZ cs a = 0) (h1 : d.2.2 = c.2.2) (h2 : c.1 ≤ d.1) (h3 : c.2.1 ≤ d.2.1) (hn : 0 ≤ n ∧ n ≤ 1000000) (hk : k = n + 1) (hC : CS cs) (hT : Tabs w) :
    Calls Tryz.prog 8 #[.pointer (some ⟨g, 0, none⟩), .agg #[.int .i64 1, pv, .int .i64 d.1, .int .i64 d.2.1, .int .u32 d.2.2]] w (TkYQ Q w N g cs a d k) := by
  refine (view_Take hV hQ _ (1, a, d) ⟨pv, rfl, hp⟩ hm hn hC hT).mono ?_
  rintro e w' ⟨he, hv, hO⟩
  obtain ⟨t1, t2, t3, t4⟩ := tk_set1 (n := n) hs h1 h2 h3
  rw [t1] at he
  rw [t2, t3, t4, ← hk] at hv
  exact ⟨he, hv, hO⟩
abbrev TkY := TkYQ fun _ => False
theorem take_change {w : World} {N g : Nat} {cs : List ColB} {qs a b : List PairB} {c d : CurB} {n k : Int} {pv : Value} (hV : Vw 65 w N g cs qs c n (fun _ => False)) (hp : RdP w pv a) (hm : PSO a) (hs : sumE cs qs a = 0) (hb : sumO cs qs a = b) (h1 : d.2.2 = c.2.2) (h2 : c.1 ≤ d.1) (h3 : c.2.1 ≤ d.2.1) (hn : 0 ≤ n ∧ n ≤ 1000000) (hk : k = n + 1) (hC : CS cs) (hT : Tabs w) :
    Calls Tryz.prog 8 #[.pointer (some ⟨g, 0, none⟩), .agg #[.int .i64 0, pv, .int .i64 d.1, .int .i64 d.2.1, .int .u32 d.2.2]] w (TkY w N g cs b d k) := take_changeQ hV (fun _ h => h.elim) hp hm hs hb h1 h2 h3 hn hk hC hT
theorem take_reset {w : World} {N g : Nat} {cs : List ColB} {qs a : List PairB} {c d : CurB} {n k : Int} {pv : Value} (hV : Vw 65 w N g cs qs c n (fun _ => False)) (hp : RdP w pv a) (hm : PSO a) (hs : chkZ cs a = 0) (h1 : d.2.2 = c.2.2) (h2 : c.1 ≤ d.1) (h3 : c.2.1 ≤ d.2.1) (hn : 0 ≤ n ∧ n ≤ 1000000) (hk : k = n + 1) (hC : CS cs) (hT : Tabs w) :
    Calls Tryz.prog 8 #[.pointer (some ⟨g, 0, none⟩), .agg #[.int .i64 1, pv, .int .i64 d.1, .int .i64 d.2.1, .int .u32 d.2.2]] w (TkY w N g cs a d k) := take_resetQ hV (fun _ h => h.elim) hp hm hs h1 h2 h3 hn hk hC hT
theorem same17 {w : World} {v u : Value} {ps : List PairB} (h1 : RdP w v ps) (h2 : RdP w u ps) : Calls Tryz.prog 21 #[v, u] w fun e w' => e = .returned (.bool true) ∧ Below w.heap.size w w' := by
  have h := zset_Same v u ps ps w h1 h2
  rw [decide_eq_true rfl] at h
  exact h

/-- Pairs in a slice of the law's own, their rows those of pairs that came in. -/
def OwnPO (w0 w : World) (v : Value) (ps : List PairB) : Prop := ∃ us : List TriB, ps = us.map (·.2) ∧ OwnG pairE w w0.heap.size v (us.map triV) ∧ ∀ t ∈ us, RdE w0 t.1 t.2.1
section
variable {w0 w w' : World} {v : Value} {ps qs : List PairB}
theorem OwnPO.nil (w0 w : World) : OwnPO w0 w (.slice none 0 0) [] := ⟨[], rfl, OwnG.nil pairE w w0.heap.size, by simp⟩
theorem OwnPO.later (h : OwnPO w0 w v ps) (hb : Below w.heap.size w w') : OwnPO w0 w' v ps := by
  obtain ⟨us, e, h1, h2⟩ := h
  exact ⟨us, e, h1.later hb (Nat.le_refl _), h2⟩
theorem OwnPO.beside {g : Nat} (h : OwnPO w0 w v ps) (hO : Only (fun j => j = g) w w') (hg : v.ownBlock ≠ some g) : OwnPO w0 w' v ps := by
  obtain ⟨us, e, h1, h2⟩ := h
  exact ⟨us, e, h1.stay hO fun q hq hs => hg (by rw [hq, hs]), h2⟩
theorem OwnPO.rd (h : OwnPO w0 w v ps) (hb : Below w0.heap.size w0 w) (hs : ps.length ≤ 140737488351232) : RdP w v ps := by
  obtain ⟨us, e, h1, h2⟩ := h
  subst e
  exact ⟨us, rfl, OwnG.rd h1 (by simpa using hs), fun t ht => (h2 t ht).later hb (Nat.le_refl _)⟩
theorem OwnPO.lt (h : OwnPO w0 w v ps) {q : Nat} (hq : v.ownBlock = some q) : w0.heap.size ≤ q ∧ q < w.heap.size := by
  obtain ⟨us, e, h1, h2⟩ := h
  exact h1.lt hq
/-- 'append(s, x...)' of pairs that came in. -/
theorem wplPO_append {ops : Array Oper} {Q : Exit → Act → World → Prop} {rest : List Oper} {a : Act} {dst : Option Tmp} {ty : TypeId} {pos : String} {aft : Array Edge} {s x : Operand} {xv : Value}
    (hs : a.eval s = v) (ho : OwnPO w0 w v ps) (hx : a.eval x = xv) (hr : RdP w0 xv qs) (hn : (ps.length + qs.length) * 32 ≤ 140737488355328) (hb : Below w0.heap.size w0 w)
    (h : ∀ v' w', OwnPO w0 w' v' (ps ++ qs) → Below w0.heap.size w0 w' → w.grownBy w' v.ownBlock → Place w v v' → wpList Tryz.prog ops Q rest (a.put dst v') w') :
    wpList Tryz.prog ops Q (⟨dst, .call ⟨.builtin .append, #[s, x], #[27, 27]⟩, ty, pos, aft, none⟩ :: rest) a w := by
  obtain ⟨us, rfl, h1, h2⟩ := ho
  obtain ⟨ts, rfl, g1, g2⟩ := hr
  rw [List.length_map, List.length_map] at hn
  refine wplG_appendPl (E := pairE) pairOk w0.heap.size v hs h1 xv hx (RdG.later g1 pairOk hb (Nat.le_refl _)) (fun y hy u hu => ?_) (by rw [List.length_map, List.length_map]; exact hn) (by rw [List.length_map, List.length_map]; omega) hb.size w0.heap.size w0 hb (Nat.le_refl _) (fun v' w' k1 k2 k3 k4 => h v' w' ⟨us ++ ts, by rw [List.map_append], by rw [List.map_append]; exact k1, fun t ht => ?_⟩ k2 k3 k4)
  · obtain ⟨t, ht, rfl⟩ := List.mem_map.1 hy
    exact triV_one (g2 t ht) u hu
  · rcases List.mem_append.1 ht with ht | ht
    · exact h2 t ht
    · exact g2 t ht
end
/-- A change whose sum has an error. -/
theorem take_fail {Q : Nat → Prop} {w : World} {N g : Nat} {cs : List ColB} {qs a : List PairB} {c d : CurB} {n : Int} {pv : Value} {S : Nat} (hV : Vw 65 w N g cs qs c n Q) (hQ : ∀ j, Q j → j < w.heap.size) (hp : RdP w pv a) (hm : PSO a) (hs : sumE cs qs a = S) (h0 : S ≠ 0) (h1 : d.2.2 = c.2.2) (h2 : c.1 ≤ d.1) (h3 : c.2.1 ≤ d.2.1) (hn : 0 ≤ n ∧ n ≤ 1000000) (hC : CS cs) (hT : Tabs w) :
    Calls Tryz.prog 8 #[.pointer (some ⟨g, 0, none⟩), .agg #[.int .i64 0, pv, .int .i64 d.1, .int .i64 d.2.1, .int .u32 d.2.2]] w fun e w' => e = .returned (.int .i64 (S : Int)) ∧ Vw 65 w' N g cs qs c n Q ∧ Only (fun j => j = g) w w' := by
  refine (view_Take hV hQ _ (0, a, d) ⟨pv, rfl, hp⟩ hm hn hC hT).mono ?_
  rintro e w' ⟨he, hv, hO⟩
  have e1 := (tk_change (cs := cs) (qs := qs) (c := c) (m := (0, a, d)) rfl h1 (by dsimp only; omega)).1.trans hs
  obtain ⟨t1, t2, t3⟩ := tk_no (n := n) (show tkE cs qs c (0, a, d) ≠ 0 by rw [e1]; exact h0)
  rw [e1] at he
  rw [t1, t2, t3] at hv
  exact ⟨he, hv, hO⟩
/-- A slice of the law's own grows beside the view. -/
theorem Vw.grow {T : TypeId} {w w' : World} {N g : Nat} {cs : List ColB} {qs : List PairB} {c : CurB} {n : Int} {tv tv' : Value} (h : Vw T w N g cs qs c n (fun j => tv.ownBlock = some j)) (hg : w.grownBy w' tv.ownBlock) (hp : Place w tv tv') : Vw T w' N g cs qs c n (fun j => tv'.ownBlock = some j) :=
  (h.fresh.only (Only.by14 hg) fun j _ hj => .inl hj).more fun j _ hj => by
    rcases hp with e | e
    · exact .inl (by rw [← e]; exact hj)
    · exact .inr (e j hj)
/-- The set of no pairs. -/
theorem clc_nil {cs : List ColB} (h : errS (colsL cs) = 0) : clcE cs [] = 0 ∧ clcO cs [] = [] := clc_as (fun p hp => absurd hp (by simp)) (fun p hp => absurd hp (by simp)) (nil_set h) (fun r => rfl)
theorem Fold.last17 {cs : List ColB} {qs ps : List PairB} (h : Fold cs qs ps) (hS : errS (colsL cs) = 0) : clcE cs ps = 0 ∧ clcO cs ps = qs := by
  rcases h.end with ⟨h1, h2⟩ | h1
  · obtain rfl := List.eq_nil_of_length_eq_zero h1
    obtain rfl := List.eq_nil_of_length_eq_zero h2
    exact clc_nil hS
  · exact h1

/-- A schema's print: of one that is wrong, too, one number. -/
theorem print17 (v : Value) (cs : List ColB) (w : World) (hR : RdC w v cs) (hC : CS cs) (hT : Tabs w) : ∃ pz : Int, (errS (colsL cs) = 0 → pz = prt cs) ∧ ∀ wz, Below w.heap.size w wz →
    Calls Tryz.prog 19 #[v] wz fun e w' => e = .returned (.tuple #[.int .u32 pz, .int .i64 (errS (colsL cs) : Nat)]) ∧ Below wz.heap.size wz w' := by
  refine ⟨((if errS (colsL cs) = 0 then Crc.sum (wrS (colsL cs)) else 0 : Nat) : Int), fun h => by rw [if_pos h]; rfl, fun wz hz => schema_Print v cs wz (hR.later hz (Nat.le_refl _)) hC (hT.later hz)⟩

/-- Pairs that came in, alone in a list. -/
theorem great_one17 (v : Value) (ps : List PairB) (w : World) (h : RdP w v ps) (hv : v.oneCell' = true) :
    Calls Tryz.prog 18 #[.slice (some ⟨w.heap.size, 0, none⟩) 1 1] (w.alloc (.cells #[v] 27)) fun e w' => ∃ x : Int, e = .returned (.int .i64 x) ∧ (x = 0 ∨ x = 1) ∧ Below w.heap.size w w' := by
  obtain ⟨_, N1, N2⟩ := new1 w (.cells #[v] 27)
  refine (law08_greatN _ [v] [ps] _ (rdPs_block (vals := [v]) N1 (by simp)) (by simp) rfl (fun i hi wz hz => ?_)).mono ?_
  · have : i = 0 := by simpa using hi
    subst this
    exact (h.later N2 (Nat.le_refl _)).later hz (Nat.le_refl _)
  · rintro e w' ⟨x, he, hx, _, hb⟩
    exact ⟨x, he, hx, N2.trans (hb.mono N2.size)⟩

end Go.Proofs.YtokpphhmmcoeaaaGreatDoor
