/-
  slices.Clone of columns; pairs whose rows are the call's own, too.
-/
import Derived.Test.YtokpphhmmcoeaaaGreatDoorGBaseB
import Derived.Test.YtokpphhmmcoeaaaGreatDoorZCollectN
import Derived.Test.YtokpphhmmcoeaaaGreatDoorOffS
import Derived.WalkSmall
import Derived.WalkSpells
set_option linter.unusedVariables false
set_option linter.unusedSimpArgs false
set_option maxRecDepth 1000000
namespace Go.Proofs.YtokpphhmmcoeaaaGreatDoor
open Go.RowKit Go.Shelf

theorem colV_one14 (c : ColB) : ∀ u ∈ colV c, u.oneCell' = true := by
  intro u hu
  simp [colV] at hu
  rcases hu with rfl | rfl <;> rfl
theorem wplC_appendAll14 {w : World} {cs ds : List (List Value)} {ops : Array Oper} {Q : Exit → Act → World → Prop} {rest : List Oper} {a : Act} {dst : Option Tmp} {ty : TypeId} {pos : String} {aft : Array Edge} {s x : Operand}
    (base : Nat) (sv : Value) (hs : a.eval s = sv) (ho : OwnG colE w base sv cs) (xv : Value) (hx : a.eval x = xv) (hr : RdG colE w xv ds) (hone : ∀ x ∈ ds, ∀ u ∈ x, u.oneCell' = true)
    (hn : (cs.length + ds.length) * 24 ≤ 140737488355328) (hbase : base ≤ w.heap.size)
    (B : Nat) (w0 : World) (hb : Below B w0 w) (hBb : B ≤ base)
    (h : ∀ v' w', OwnG colE w' base v' (cs ++ ds) → Below B w0 w' → w.grownBy w' sv.ownBlock → wpList Tryz.prog ops Q rest (a.put dst v') w') :
    wpList Tryz.prog ops Q (⟨dst, .call ⟨.builtin .append, #[s, x], #[22, 22]⟩, ty, pos, aft, none⟩ :: rest) a w :=
  wplG_appendAll (E := colE) colOk base sv hs ho xv hx hr hone hn (by omega) hbase B w0 hb hBb h

set_option maxHeartbeats 1000000 in
theorem cols_Clone (v : Value) (cs : List ColB) (w : World) (h : RdC w v cs) (hn : cs.length * 24 ≤ 140737488351360) :
    Calls Tryz.prog 26 #[v] w fun e w' => ∃ v', e = .returned v' ∧ OwnC w' w.heap.size v' cs ∧ Below w.heap.size w w' := by
  obtain ⟨ao, cap, hv, hcap, hnil, _⟩ := RdG.shape h
  generalize hgl : (cs.map colV).length = n9 at hv hcap
  rw [List.length_map] at hgl
  cases ao with
  | none =>
    obtain rfl : cap = 0 := hnil rfl
    obtain rfl : n9 = 0 := by omega
    obtain rfl : cs = [] := List.eq_nil_of_length_eq_zero hgl
    clear h hnil hcap hgl
    subst hv
    have hq := fun u : World => Lib.run_eql_slice_nil (P := Tryz.prog) u 22 68 none 0 0 0 0 Tryz.underlying22
    go_enter Tryz.func26, Tryz.ntmps26
    go_wp2
    go_ret
    exact ⟨_, rfl, OwnC.nil _ _, Below.refl _ _⟩
  | some ad =>
    subst hv
    have HR := Lib.hid (RdG.later h colOk ((Below.refl w.heap.size w).alloc (Nat.le_refl _) (.cells #[] 68)) (Nat.le_refl _))
    have H1 := Lib.hid (show ∀ x ∈ cs.map colV, ∀ u ∈ x, u.oneCell' = true from fun x hx u hu => by
      obtain ⟨t, ht, rfl⟩ := List.mem_map.1 hx
      exact colV_one14 t u hu)
    have HO := Lib.hid (show OwnG colE (w.alloc (.cells #[] 68)) w.heap.size (.slice (some ⟨w.heap.size, 0, none⟩) 0 0) [] from ownG_empty colE w w.heap.size (Nat.le_refl _))
    have HB := Lib.hid ((Below.refl w.heap.size w).alloc (Nat.le_refl _) (.cells #[] 68))
    clear h hnil hcap hgl
    have hq := fun u : World => Lib.run_eql_slice_nil (P := Tryz.prog) u 22 68 (some ad) n9 cap 0 0 Tryz.underlying22
    go_enter Tryz.func26, Tryz.ntmps26
    go_wp2_with (with_reducible refine wplC_appendAll14 w.heap.size _ ?hs HO.out _ ?hx HR.out H1.out ?hn ?hbase w.heap.size w HB.out (Nat.le_refl _) ?_)
    case hs => rfl
    case hx => rfl
    case hn => simp; omega
    case hbase => simp
    intro v4 w4 ho4 hb4 _
    rw [List.nil_append] at ho4
    have HO4 := Lib.hid ho4
    have HB4 := Lib.hid hb4
    clear ho4 hb4
    go_wp2
    go_ret
    exact ⟨_, rfl, HO4.out, HB4.out⟩

/-- The row at j is the call's own. -/
def OwnAt (w : World) (base : Nat) (v : Value) (qs : List PairB) (j : Nat) : Prop := ∃ rv, w.cell? (adr v (j * 2)) = some rv ∧ OwnE w base rv (qs.getD j default).1
theorem OwnAt.later {w w' : World} {base j : Nat} {v : Value} {qs : List PairB} (h : OwnAt w base v qs j) (hb : Below w.heap.size w w') : OwnAt w' base v qs j := by
  obtain ⟨rv, h1, h2⟩ := h
  exact ⟨rv, (hb.cell (p := adr v (j * 2)) (World.block_lt_of_cell? w _ h1)).trans h1, h2.later hb (Nat.le_refl _)⟩
theorem OwnAt.set {w : World} {base j g k : Nat} {v : Value} {qs : List PairB} {c : Array Value} (h : OwnAt w base v qs j) (ha : adr v (j * 2) = ⟨g, j * 2, none⟩) (hk : j ≠ k) (hg : w.heap[g]? = some (.cells c 75 (0, 0))) (u : Value) : OwnAt (w.setCell ⟨g, k * 2, none⟩ u) base v qs j := by
  obtain ⟨rv, h1, h2⟩ := h
  rw [ha] at h1
  refine ⟨rv, by rw [ha]; exact cell_set_other h1 (by omega), ?_⟩
  exact OwnG.stay h2 (S := fun q => q = g) ((Only.refl (fun q => q = g) w).setCell (p := ⟨g, k * 2, none⟩) rfl _) fun q hq e => by
    subst e
    exact OwnG.notOf h2 hg (by decide) hq
theorem OwnAt.new {w : World} {base j : Nat} {v : Value} {qs : List PairB} (h : OwnAt w base v qs j) : NewAt w base v qs j := by
  obtain ⟨rv, h1, h2⟩ := h
  exact ⟨rv, h1, h2.from12⟩
/-- Pairs of the call's own, with rows of its own. -/
def OwnPR (w : World) (base : Nat) (v : Value) (qs : List PairB) : Prop := OwnP w base v qs ∧ ∀ j, j < qs.length → OwnAt w base v qs j
theorem OwnPR.new {w : World} {base : Nat} {v : Value} {qs : List PairB} (h : OwnPR w base v qs) (hs : qs.length ≤ 140737488351232) : NewP w base v qs :=
  NewP.of12 h.1 hs (fun j hj => (h.2 j hj).new) (Nat.le_refl _)

end Go.Proofs.YtokpphhmmcoeaaaGreatDoor
