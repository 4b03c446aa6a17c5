/-
  ColumnTwo: its closure, which takes cells of two kinds off one reader.
-/
import Derived.Test.YtccclfpngdjmjaaDoorColumnBack
set_option linter.unusedVariables false
set_option linter.unusedSimpArgs false
set_option maxRecDepth 1000000
namespace Go.Proofs.YtccclfpngdjmjaaDoor
open Go.RowKit Go.Shelf

/-- What Run's closure leaves, in the variables in blocks c and d. -/
def TwoP (wR : World) (c d K : Nat) (A B : List CellB) (g k x : Nat) (a : World) : Prop :=
  Only (fun j => j = c ∨ j = d ∨ wR.heap.size ≤ j) wR a ∧ k = K ∧ x = 0 ∧ (∃ tv, a.heap[c]? = some (.cells #[tv] 22 (0, 0)) ∧ OwnE a (wR.heap.size + 4) tv A) ∧ (∃ uv, a.heap[d]? = some (.cells #[uv] 22 (0, 0)) ∧ OwnE a (wR.heap.size + 4) uv B)

theorem enters_two (args : Array Value) (u : World) : (callFunc 23 args).run Tryd.prog u = .ok (.enter 23 args) u := enters_fn Tryd.func23 (by kernel_rfl) rfl args u

theorem own_shape {w : World} {base : Nat} {v : Value} {cs : List CellB} (h : OwnE w base v cs) : ∃ ao tl cap, v = .slice ao tl cap := by
  rcases h.1.2 with ⟨rfl, _⟩ | ⟨q, cap, cur, rfl, _⟩
  · exact ⟨_, _, _, rfl⟩
  · exact ⟨_, _, _, rfl⟩

theorem Took9.ok {w0 w' : World} {g : Nat} {v : Value} {l : List UInt8} {r : List Ce} {k : Nat} {e : Ending} (h : Took9 w0 g v l (r, k, 0) e w') : Only (fun j => j = g) w0 w' ∧ ∃ tv cs, e = .returned tv ∧ OwnE w' w0.heap.size tv cs ∧ cesL cs = r ∧ Rdr w' g v l k := by
  obtain ⟨hO, ⟨_, tv, cs, h1, h2, _, h4, h5⟩ | ⟨hx, _⟩⟩ := h
  · exact ⟨hO, tv, cs, h1, h2, h4, h5⟩
  · exact absurd rfl hx

set_option maxHeartbeats 8000000 in
theorem columnTwo1 (p q : Int) (A B : List CellB) (av bv : Value) (wR : World) (g c d pb ab qb bb : Nat) (v : Value) (l : List UInt8) (w : World) (hR : Rdr w g v l 0)
    (hc : w.heap[c]? = some (.cells #[.slice none 0 0] 22 (0, 0))) (hd : w.heap[d]? = some (.cells #[.slice none 0 0] 22 (0, 0))) (hcd : c ≠ d)
    (hp : w.heap[pb]? = some (.cells #[.int .i64 p] 3 (0, 0))) (hq : w.heap[qb]? = some (.cells #[.int .i64 q] 3 (0, 0)))
    (ha : w.heap[ab]? = some (.cells #[av] 22 (0, 0))) (hb9 : w.heap[bb]? = some (.cells #[bv] 22 (0, 0)))
    (hA : ∀ u, (Builtin.len_ #[22] 3 #[av]).run Tryd.prog u = .ok (.int .i64 (A.length : Int)) u) (hB : ∀ u, (Builtin.len_ #[22] 3 #[bv]).run Tryd.prog u = .ok (.int .i64 (B.length : Int)) u) (hne : pb < c ∧ ab < c ∧ qb < c ∧ bb < c ∧ c < d) (hT : Tabs w) (hg : tabTop ≤ g) (htc : tabTop ≤ c)
    (hcR : d < wR.heap.size) (hgR : wR.heap.size ≤ g) (hsz : wR.heap.size + 4 ≤ w.heap.size) (hb : Below wR.heap.size wR w) (hv : ∀ i, i < l.length → (adr v i).block < c ∨ (d < (adr v i).block ∧ (adr v i).block ≠ g))
    (K1 : Nat) (h1 : rdK l p (A.length : Int) 0 = (cesL A, K1, 0)) (h2 : rdK l q (B.length : Int) K1 = (cesL B, l.length, 0)) :
    Calls Tryd.prog 23 #[.pointer (some ⟨g, 0, none⟩), .pointer (some ⟨pb, 0, none⟩), .pointer (some ⟨ab, 0, none⟩), .pointer (some ⟨c, 0, none⟩), .pointer (some ⟨qb, 0, none⟩), .pointer (some ⟨bb, 0, none⟩), .pointer (some ⟨d, 0, none⟩)] w
      fun e w2 => ∃ k x, Kept wR.heap.size g w w2 ∧ TwoP wR c d l.length A B g k x w2 ∧ Went g v l k x e w2 := by
  obtain ⟨i1, i2, i3, i4, i5⟩ := hne
  have hgl := hR.lt
  have p0 := cell_of_one hp
  have p1 := cell_of_one ha
  have CT1 := Lib.hid (show Calls Tryd.prog 24 #[.pointer (some ⟨g, 0, none⟩), .int .i64 p, .int .i64 (A.length : Int)] w (Took9 w g v l (cesL A, K1, 0)) from by rw [← h1]; exact column_Take p (A.length : Int) g v l 0 w hR hT hg)
  have HC := Lib.hid hc
  have HD := Lib.hid hd
  have HQ := Lib.hid hq
  have HBb := Lib.hid hb9
  have HT := Lib.hid hT
  have H2 := Lib.hid h2
  have HV := Lib.hid hv
  have HBw := Lib.hid hb
  have hcw : d < w.heap.size := by omega
  have htw := Lib.hid (tabs_lt hT)
  obtain ⟨na, hna⟩ : ∃ na, na = A.length := ⟨_, rfl⟩
  rw [← hna] at hA CT1
  obtain ⟨nb, hnb⟩ : ∃ nb, nb = B.length := ⟨_, rfl⟩
  rw [← hnb] at hB H2
  clear hp ha hc hd hq hb9 hT h1 h2 hv hb hR hna hnb
  go_enter Tryd.func23, Tryd.ntmps23
  go_wp2_with fail
  refine CT1.out.mono ?_
  intro e w2 hu
  obtain ⟨hO, tv, cs, rfl, hown, hrt, hR2⟩ := hu.ok
  have heq : cs = A := cesL_inj hrt
  subst heq
  try dsimp only at hR2
  obtain ⟨ao, tl, cap, htv⟩ := own_shape hown
  subst htv
  have q2 := hO.keep HC.out (by omega)
  have c0 := cell_of_one q2
  have c1 := free_of_one q2
  obtain ⟨w3, hw3⟩ : ∃ w3, w3 = w2.setCell ⟨c, 0, none⟩ (.slice ao tl cap) := ⟨_, rfl⟩
  have hq3 : ∀ j o, j ≠ g → j ≠ c → w.heap[j]? = some o → w3.heap[j]? = some o := fun j o h1 h2 h3 => by
    rw [hw3, Below.heap_setCell _ _ _ _ h2]; exact hO.keep h3 h1
  have hc3 : w3.heap[c]? = some (.cells #[.slice ao tl cap] 22 (0, 0)) := by rw [hw3]; exact one_setCell q2
  have hd3 := hq3 d _ (by omega) (by omega) HD.out
  have p3 := cell_of_one (hq3 qb _ (by omega) (by omega) HQ.out)
  have p4 := cell_of_one (hq3 bb _ (by omega) (by omega) HBb.out)
  rw [hw3] at p3 p4
  have hO3 : Only (fun j => j = g ∨ j = c) w w3 := by rw [hw3]; exact (hO.mono (fun j h => .inl h)).setCell (p := ⟨c, 0, none⟩) (.inr rfl) _
  have hR3 : Rdr w3 g v l K1 := by rw [hw3]; exact hR2.setVar (p := ⟨c, 0, none⟩) (by dsimp only; omega) (fun i hi => by have := HV.out i hi; dsimp only; omega) _
  have hT3 : Tabs w3 := by
    rw [hw3]
    exact tabs_set (tabs_only HT.out (fun j hj => hO.block j (by have := htw.out; omega) (by omega))) (by dsimp only; exact htc) _
  have hgs : w2.grownBy w3 (some c) := by rw [hw3]; exact grown_setCell (World.grownBy.refl _ _) _
  have hown3 : OwnE w3 w.heap.size (.slice ao tl cap) cs := hown.grown hgs (fun q hq => by have := (OwnE.lt hown hq).1; simp; omega)
  have HO3 := Lib.hid hO3
  have HC3 := Lib.hid hc3
  have HD3 := Lib.hid hd3
  have HOw3 := Lib.hid hown3
  have CT2 := Lib.hid (show Calls Tryd.prog 24 #[.pointer (some ⟨g, 0, none⟩), .int .i64 q, .int .i64 (nb : Int)] w3 (Took9 w3 g v l (cesL B, l.length, 0)) from by rw [← H2.out]; exact column_Take q (nb : Int) g v l K1 w3 hR3 hT3 hg)
  have HW3 := Lib.hid hw3
  clear hq3 hc3 hd3 hO3 hR3 hT3 hgs hown3 hrt hR2 hown q2 hO p0 p1 CT1 hw3 hu
  go_wp2_with fail
  rw [← HW3.out]
  refine CT2.out.mono ?_
  intro e w4 hu
  obtain ⟨hO4, uv, ds, rfl, hown, hrt, hR4⟩ := hu.ok
  have heq : ds = B := cesL_inj hrt
  subst heq
  try dsimp only at hR4
  obtain ⟨ao2, tl2, cap2, htv⟩ := own_shape hown
  subst htv
  have q4 := hO4.keep HD3.out (by omega)
  have qc := hO4.keep HC3.out (by omega)
  have d0 := cell_of_one q4
  have d1 := free_of_one q4
  have HQ4 := Lib.hid q4
  have HQc := Lib.hid qc
  have HO4 := Lib.hid hO4
  have HOw := Lib.hid hown
  have HR4 := Lib.hid hR4
  clear q4 qc hO4 hown hrt hR4 CT2 c0 c1 p3 p4 hu
  go_wp2
  go_end0
  have hgs : w4.grownBy (w4.setCell ⟨d, 0, none⟩ (.slice ao2 tl2 cap2)) (some d) := grown_setCell (World.grownBy.refl _ _) _
  have hs3 := HO3.out.size
  refine ⟨l.length, 0, ?_, ⟨?_, rfl, rfl, ⟨.slice ao tl cap, ?_, ?_⟩, ⟨_, one_setCell (u := .slice ao2 tl2 cap2) HQ4.out, ?_⟩⟩, .inl ⟨rfl, rfl, ?_⟩⟩
  · exact (((HO3.out.kept (lo := wR.heap.size) (g := g) (fun j hj => by omega)).trans (HO4.out.kept (fun j hj => .inr hj)))).setCell (by dsimp only; omega) _
  · refine ((((Only.refl _ wR).below HBw.out (Nat.le_refl _)).trans9 HO3.out (fun j _ hj => ?_)).trans9 HO4.out (fun j _ hj => ?_)).setCell (p := ⟨d, 0, none⟩) (.inr (.inl rfl)) _
    · rcases hj with h | h
      · exact .inr (.inr (by omega))
      · exact .inl h
    · exact .inr (.inr (by have h9 : j = g := hj; omega))
  · rw [Below.heap_setCell _ _ _ _ (show c ≠ d from hcd)]; exact HQc.out
  · exact ((HOw3.out.only HO4.out (fun q hq h9 => by have h8 : q = g := h9; omega)).grown hgs (fun q hq => by have := (OwnE.lt HOw3.out hq).1; simp; omega)).lower hsz
  · exact (HOw.out.grown hgs (fun q hq => by have := (OwnE.lt HOw.out hq).1; simp; omega)).lower (by omega)
  · exact HR4.out.setVar (p := ⟨d, 0, none⟩) (by dsimp only; omega) (fun i hi => by have := HV.out i hi; dsimp only; omega) _

end Go.Proofs.YtccclfpngdjmjaaDoor
