/-
  row.checkCells, row.Check.
-/
import Derived.Test.YtkljkpffpdpphaaGreatDoorBoth
import Derived.Test.YtkljkpffpdpphaaGreatDoorRowDefs
import Derived.Test.YtkljkpffpdpphaaGreatDoorGSchema
set_option linter.unusedVariables false
set_option linter.unusedSimpArgs false
set_option maxRecDepth 1000000
namespace Go.Proofs.YtkljkpffpdpphaaGreatDoor
open Go.RowKit Go.Shelf

attribute [local go_sem] Oper.semAt_some

theorem keepsFrom_below {B : Nat} {W W' : World} (h : Below W.heap.size W W') : KeepsFrom B W W' := ⟨h.size, fun k o _ hk _ => (h.block k (Array.getElem?_eq_some_iff.1 hk).1).trans hk⟩
theorem keepsFrom_only {B : Nat} {S : Nat → Prop} {W W' : World} (h : Only S W W') (hS : ∀ j, S j → j < B ∨ ∃ o, W.heap[j]? = some o ∧ o.isCells = true) : KeepsFrom B W W' :=
  ⟨h.size, fun k o hB hk ho => (h.block k (Array.getElem?_eq_some_iff.1 hk).1 (fun hs => by
    rcases hS k hs with h9 | ⟨o', ho', hc⟩
    · omega
    · rw [hk] at ho'; cases ho'; rw [ho] at hc; cases hc)).trans hk⟩
theorem boxed_below {W W' : World} {b : Nat} {t : TypeId} {v : Value} (h : Boxed W b t v) (hb : Below W.heap.size W W') : Boxed W' b t v := (hb.block b h.lt).trans h
theorem only_below {S : Nat → Prop} {W W' : World} (h : Below W.heap.size W W') : Only S W W' := (Only.refl S W).below h (Nat.le_refl _)

theorem cells_kept {B k : Nat} {W W' : World} {row : Option Nat} {c : Array Value} {t : TypeId} {z : Nat × Nat} (h : W.heap[k]? = some (.cells c t z)) (hg : W.grownBy W' row) (hr : ∀ r, row = some r → B ≤ r ∧ ∃ o : Obj, W.heap[r]? = some o ∧ o.isCells = false) : W'.heap[k]? = some (.cells c t z) :=
  (hg.block k (Array.getElem?_eq_some_iff.1 h).1 (fun e => by
    obtain ⟨_, o, ho, hc⟩ := hr k e.symm
    rw [h] at ho; cases ho; cases hc)).trans h

set_option maxHeartbeats 8000000 in
theorem row_checkCells (v1 v2 : Value) (cs : List ColB) (rs : List CellB) (w : World) (h1 : RdC w v1 cs) (h2 : RdE w v2 rs) (hC : CS cs) (hE : CES rs) (hT : Tabs w) :
    Calls Tryz.prog 24 #[v1, v2] w fun e w' => e = .returned (.int .i64 (errC cs rs : Nat)) ∧ Below w.heap.size w w' := by
  have hl1 := h1.len
  have hl2 := h2.len
  by_cases hlen : rs.length = cs.length
  · have HE := Lib.hid (show errC cs rs = errP (cs.zip rs) from by unfold errC; rw [if_pos hlen])
    obtain ⟨n, hn⟩ : ∃ n, n = cs.length := ⟨_, rfl⟩
    rw [hlen, ← hn] at hl2
    rw [← hn] at hl1
    have HN := Lib.hid hn
    have HL := Lib.hid hlen
    have R1 := Lib.hid (fun wz (hz : Below w.heap.size w wz) => h1.later hz (Nat.le_refl _))
    have R2 := Lib.hid (fun wz (hz : Below w.heap.size w wz) => h2.later hz (Nat.le_refl _))
    have MK := Lib.hid (fun wz (hz : Below w.heap.size w wz) => bothCC_make v1 v2 cs rs wz (h1.later hz (Nat.le_refl _)) (h2.later hz (Nat.le_refl _)))
    have HT := Lib.hid hT
    clear hn hlen h1 h2 hT
    refine (callsIn_wide (n := 5)).1 ?_
    refine callsIn_of_wp_marks Tryz.func24 rfl trivial ?_ rfl
    simp only [Tryz.ntmps24, List.size_toArray, List.length_cons, List.length_nil, Nat.reduceAdd, Nat.reduceSub, Array.replicate_succ, Array.replicate_zero, List.push_toArray, List.append_toArray, List.nil_append, List.cons_append]
    have hA0 := Lib.hid ((Below.refl w.heap.size w).alloc (Nat.le_refl _) (.cells #[.int .i64 0] 26))
    gi_wp2_with (refine ⟨trivial, ?_⟩; gi_at_call 30; refine (callsIn_wide.2 (MK.out _ hA0.out)).mono ?_; rintro e w' ⟨rfl, rfl⟩)
    skip
    obtain ⟨W0, hW0⟩ : ∃ W0, ((w.alloc (.cells #[.int .i64 0] 26)).alloc (.cells #[v1] 22)).alloc (.cells #[v2] 23) = W0 := ⟨_, rfl⟩
    have bR : Boxed W0 w.heap.size 26 (.int .i64 0) := by rw [← hW0]; exact ((Boxed.new w 26 (.int .i64 0)).alloc _).alloc _
    have b1 : Boxed W0 (w.heap.size + 1) 22 v1 := by
      have := Boxed.new (w.alloc (.cells #[.int .i64 0] 26)) 22 v1
      rw [World.size_alloc] at this
      rw [← hW0]; exact this.alloc _
    have b2 : Boxed W0 (w.heap.size + 1 + 1) 23 v2 := by
      have := Boxed.new ((w.alloc (.cells #[.int .i64 0] 26)).alloc (.cells #[v1] 22)) 23 v2
      rw [World.size_alloc, World.size_alloc] at this
      rw [← hW0]; exact this
    have hsz : W0.heap.size = w.heap.size + 3 := by rw [← hW0]; simp
    have hB0 : Below w.heap.size w W0 := by rw [← hW0]; exact (((Below.refl _ w).alloc (Nat.le_refl _) _).alloc (by simp) _).alloc (by simp; omega) _
    rw [hW0]
    clear hW0
    have HB0 := Lib.hid hB0
    have hlz : cs.length = rs.length := HL.out.symm
    refine range_through (by omega) (gf := 51) (lb := #[.pointer (some ⟨w.heap.size + 1, 0, none⟩), .pointer (some ⟨w.heap.size + 1 + 1, 0, none⟩)]) rfl (enters_of Tryz.func51 (by kernel_rfl) rfl)
      (bothCC_through (5 - 1) (by omega) (w.heap.size + 1) (w.heap.size + 1 + 1) v1 v2 cs rs hlz w R1.out R2.out W0 hB0 b1.cell b2.cell) only_t (only_b (by omega) (by omega) (by omega)) (fun _ => rfl)
      (fun pre W => (Boxed W w.heap.size 26 (.int .i64 0) ∧ Below w.heap.size w W) ∧ errP pre = 0)
      (fun c pre W => (Boxed W w.heap.size 26 (.int .i64 (errP pre : Nat)) ∧ Below w.heap.size w W) ∧ (c = .ret ∧ errP pre ≠ 0))
      (OwnFrom.and (OwnFrom.and (Own.from (boxed_own _ _ _) _) (ownFrom_below (Nat.le_refl _) (by omega))) (ownFrom_pure _ _))
      (fun c => OwnFrom.and (OwnFrom.and (Own.from (boxed_own _ _ _) _) (ownFrom_below (Nat.le_refl _) (by omega))) (ownFrom_pure _ _))
      ⟨⟨bR, hB0⟩, rfl⟩
      (fun x a' W => ∃ Bx By, (W.heap[Bx]? = some (.cells #[.string x.1.1, .int .i64 x.1.2] 54 (0, 0)) ∧ W.heap[By]? = some (.cells #[.int .u64 (x.2.1 : Int), .string x.2.2] 45 (0, 0))) ∧
        a' = { tmps := #[v1, v2, undef, undef, .pointer (some ⟨w.heap.size, 0, none⟩), .pointer (some ⟨Bx, 0, none⟩), .pointer (some ⟨By, 0, none⟩), undef, v2, .int .i64 n, v1, .int .i64 n, .bool false, v1, v2,
          .func (.func 51) #[] #[.pointer (some ⟨w.heap.size + 1, 0, none⟩), .pointer (some ⟨w.heap.size + 1 + 1, 0, none⟩)],
          .agg #[.string x.1.1, .int .i64 x.1.2], .agg #[.int .u64 (x.2.1 : Int), .string x.2.2], undef, undef, undef, undef, undef, undef, undef], defers := [] })
      ?_ ?_ ?_ ?_ ?_
    · rintro x a' s X Y row ⟨Bx, By, ⟨h4, h5⟩, h6⟩ hg hr
      exact ⟨Bx, By, ⟨cells_kept h4 hg hr, cells_kept h5 hg hr⟩, h6⟩
    · rintro l pre ⟨⟨s, kd⟩, ⟨nm, tx⟩⟩ W K hi hx hK
      unfold encCC
      dsimp only
      gi_wp2
      obtain ⟨N0, N1, N2, N3⟩ := new2 W (.cells #[.string s, .int .i64 kd] 54) (.cells #[.int .u64 (nm : Int), .string tx] 45)
      exact hK _ _ (keepsFrom_below N3) (only_below N3) ⟨⟨boxed_below hi.1.1 N3, hi.1.2.trans (N3.mono hi.1.2.size)⟩, hi.2⟩ ⟨_, _, ⟨N1, N2⟩, rfl⟩
    · rintro l pre ⟨⟨s, kd⟩, ⟨nm, tx⟩⟩ a' W ⟨⟨hb, hB⟩, hp⟩ ⟨Bx, By, ⟨hx1, hx2⟩, rfl⟩ hlt hx
      have hce := hE _ (List.of_mem_zip hx).2
      have hrs := CES.rdS hce
      have HB := Lib.hid hB
      have HP := Lib.hid hp
      have hbl := hb.lt
      have HBX := Lib.hid hb
      have e1 := new_cellC hx1 (i := 1) rfl
      have e2 := new_cellC hx2 (i := 0) rfl
      have e3 := new_cellC hx2 (i := 1) rfl
      have CK := Lib.hid (cell_Check kd nm tx tx.data.toList W hrs (HT.out.later hB))
      obtain ⟨c, hc⟩ : ∃ c, c = checkC kd nm tx.data.toList := ⟨_, rfl⟩
      rw [← hc] at CK
      have HC := Lib.hid (show chk ((s, kd), (nm, tx)) = c from hc.symm)
      have hd : 1 ≤ 5 - 1 - 1 := by omega
      clear hx1 hx2 hB hp hb hc hrs hce hx
      by_cases h0 : c = 0
      · subst h0
        gi_wp2_with (refine ⟨trivial, ?_⟩; gi_at_call 41; refine (CallsIn.inRound l (callsIn_wide.2 CK.out)).mono ?_; rintro e w' ⟨rfl, hb⟩)
        exact ⟨keepsFrom_below hb, only_below hb, ⟨boxed_below HBX.out hb, HB.out.trans (hb.mono HB.out.size)⟩, by rw [errP_snoc _ _ HP.out, HC.out]⟩
      · have q : ((c : Int) != 0) = true := by rw [bne_iff_ne]; omega
        gi_wp2_with (refine ⟨trivial, ?_⟩; gi_at_call 41; refine (CallsIn.inRound l (callsIn_wide.2 CK.out)).mono ?_; rintro e w' ⟨rfl, hb⟩; have hbx := boxed_below HBX.out hb; have hbc := hbx.cell; have hbf := hbx.frozen)
        have he : errP (pre ++ [((s, kd), (nm, tx))]) = c := by rw [errP_snoc _ _ HP.out, HC.out]
        refine ⟨(keepsFrom_below hb).trans ((KeepsOthers.setCell _ _ _).from _), ⟨?_, ?_⟩, rfl, by rw [he]; exact h0⟩
        · rw [he]; exact hbx.set _
        · exact (HB.out.trans (hb.mono HB.out.size)).setCell (p := ⟨w.heap.size, 0, none⟩) (Nat.le_refl _) _
    · rintro D W hD ⟨⟨hb, hB⟩, hp⟩ hK
      have hbc := hb.cell
      have hbf := hb.frozen
      gi_wp2
      have hK' := (KeepsOthers.setCell W ⟨w.heap.size, 0, none⟩ (.int .i64 0)).same D _ hK rfl
      have hc5 := cell_kept (hb.set (.int .i64 0)).cell (grownBy_putObj' _ D (.deferred none)) (fun r e => by cases e; exact ⟨_, hK', rfl⟩)
      refine ⟨by simp, .inl ⟨_, _, rfl, run_takeDeferred hK', ?_⟩⟩
      refine ⟨.int .i64 0, by simp [results, Tryz.results24, go_sem, hc5], by rw [HE.out, hp]; rfl, ?_⟩
      exact (hB.setCell (p := ⟨w.heap.size, 0, none⟩) (Nat.le_refl _) _).trans (belowK_b (w := w) (Nat.le_refl _) _ D _ _ (by omega) hK' rfl rfl)
    · rintro D c k W hD hk ⟨⟨hb, hB⟩, rfl, hp⟩ hK
      gi_wp2
      have hc5 := cell_kept hb.cell (grownBy_putObj' _ D (.deferred none)) (fun r e => by cases e; exact ⟨_, hK, rfl⟩)
      refine ⟨by simp, .inl ⟨_, _, rfl, run_takeDeferred hK, ?_⟩⟩
      refine ⟨_, by simp [results, Tryz.results24, go_sem, hc5]; rfl, by rw [HE.out, errP_take hp], ?_⟩
      exact hB.trans (belowK_b (w := w) (Nat.le_refl _) _ D _ _ (by omega) hK rfl rfl)
  · have HE := Lib.hid (show errC cs rs = 2 from by unfold errC; rw [if_neg hlen])
    have q : ((rs.length : Int) != (cs.length : Int)) = true := by rw [bne_iff_ne]; omega
    have q2 : (rs.length != cs.length) = true := by simpa using hlen
    clear hlen h1 h2 hT
    go_enter Tryz.func24, Tryz.ntmps24
    go_wp2
    refine bodyPost_ret (v := .int .i64 2) (by simp [results, Tryz.results24, go_sem]) rfl ?_
    refine ⟨by rw [HE.out]; rfl, ?_⟩
    exact (Below.refl w.heap.size w).alloc (Nat.le_refl _) _

end Go.Proofs.YtkljkpffpdpphaaGreatDoor
