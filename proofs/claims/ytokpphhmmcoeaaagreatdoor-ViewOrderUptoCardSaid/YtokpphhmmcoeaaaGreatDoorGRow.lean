/-
  row.checkCells, row.Check.
-/
import Derived.Test.YtokpphhmmcoeaaaGreatDoorBoth
import Derived.Test.YtokpphhmmcoeaaaGreatDoorGCell
import Derived.Test.YtokpphhmmcoeaaaGreatDoorGSchema
import Derived.Test.YtokpphhmmcoeaaaGreatDoorGBaseB
import Derived.Deep.RegionHeld3
import Derived.Deep.QuietTactic
import Derived.BigQuiet
set_option linter.unusedVariables false
set_option linter.unusedSimpArgs false
set_option maxRecDepth 1000000
namespace Go.Proofs.YtokpphhmmcoeaaaGreatDoor
open Go.RowKit Go.Shelf

attribute [local go_sem] Oper.semAt_some

theorem keepsFrom_below {B : Nat} {W W' : World} (h : Below W.heap.size W W') : KeepsFrom B W W' := ⟨h.size, fun k o _ hk _ => (h.block k (Array.getElem?_eq_some_iff.1 hk).1).trans hk⟩
theorem keepsFrom_only {B : Nat} {S : Nat → Prop} {W W' : World} (h : Only S W W') (hS : ∀ j, S j → j < B ∨ ∃ o, W.heap[j]? = some o ∧ o.isCells = true) : KeepsFrom B W W' :=
  ⟨h.size, fun k o hB hk ho => (h.block k (Array.getElem?_eq_some_iff.1 hk).1 (fun hs => by
    rcases hS k hs with h9 | ⟨o', ho', hc⟩
    · omega
    · rw [hk] at ho'; cases ho'; rw [ho] at hc; cases hc)).trans hk⟩
theorem boxed_below {W W' : World} {b : Nat} {t : TypeId} {v : Value} (h : Boxed W b t v) (hb : Below W.heap.size W W') : Boxed W' b t v := (hb.block b h.lt).trans h
theorem only_below {S : Nat → Prop} {W W' : World} (h : Below W.heap.size W W') : Only S W W' := (Only.refl S W).below h (Nat.le_refl _)

theorem cells_kept {B k : Nat} {W W' : World} {row : Option Nat} {c : Array Value} {t : TypeId} {z : Nat × Nat} (h : W.heap[k]? = some (.cells c t z)) (hg : W.grownBy W' row) (hr : ∀ r, row = some r → B ≤ r ∧ ∃ o : Obj, W.heap[r]? = some o ∧ o.isCells = false) : W'.heap[k]? = some (.cells c t z) :=
  (hg.block k (Array.getElem?_eq_some_iff.1 h).1 (fun e => by
    obtain ⟨_, o, ho, hc⟩ := hr k e.symm
    rw [h] at ho; cases ho; cases hc)).trans h

set_option maxHeartbeats 8000000 in
theorem row_checkCells (v1 v2 : Value) (cs : List ColB) (rs : List CellB) (w : World) (h1 : RdC w v1 cs) (h2 : RdE w v2 rs) (hC : CS cs) (hE : CES rs) (hT : Tabs w) :
    Calls Tryz.prog 60 #[v1, v2] w fun e w' => e = .returned (.int .i64 (errC cs rs : Nat)) ∧ Below w.heap.size w w' := by
  have hl1 := h1.len
  have hl2 := h2.len
  by_cases hlen : rs.length = cs.length
  · have HE := Lib.hid (show errC cs rs = errP (cs.zip rs) from by unfold errC; rw [if_pos hlen])
    obtain ⟨n, hn⟩ : ∃ n, n = cs.length := ⟨_, rfl⟩
    rw [hlen, ← hn] at hl2
    rw [← hn] at hl1
    have HN := Lib.hid hn
    have HL := Lib.hid hlen
    have R1 := Lib.hid (fun wz (hz : Below w.heap.size w wz) => h1.later hz (Nat.le_refl _))
    have R2 := Lib.hid (fun wz (hz : Below w.heap.size w wz) => h2.later hz (Nat.le_refl _))
    have MK := Lib.hid (fun wz (hz : Below w.heap.size w wz) => bothCC_make v1 v2 cs rs wz (h1.later hz (Nat.le_refl _)) (h2.later hz (Nat.le_refl _)))
    have HT := Lib.hid hT
    clear hn hlen h1 h2 hT
    refine (callsIn_wide (n := 5)).1 ?_
    refine callsIn_of_wp_marks Tryz.func60 rfl trivial ?_ rfl
    simp only [Tryz.ntmps60, List.size_toArray, List.length_cons, List.length_nil, Nat.reduceAdd, Nat.reduceSub, Array.replicate_succ, Array.replicate_zero, List.push_toArray, List.append_toArray, List.nil_append, List.cons_append]
    have hA0 := Lib.hid ((Below.refl w.heap.size w).alloc (Nat.le_refl _) (.cells #[.int .i64 0] 25))
    gi_wp2_with (refine ⟨trivial, ?_⟩; gi_at_call 88; refine (callsIn_wide.2 (MK.out _ hA0.out)).mono ?_; rintro e w' ⟨rfl, rfl⟩)
    skip
    obtain ⟨W0, hW0⟩ : ∃ W0, ((w.alloc (.cells #[.int .i64 0] 25)).alloc (.cells #[v1] 22)).alloc (.cells #[v2] 73) = W0 := ⟨_, rfl⟩
    have bR : Boxed W0 w.heap.size 25 (.int .i64 0) := by rw [← hW0]; exact ((Boxed.new w 25 (.int .i64 0)).alloc _).alloc _
    have b1 : Boxed W0 (w.heap.size + 1) 22 v1 := by
      have := Boxed.new (w.alloc (.cells #[.int .i64 0] 25)) 22 v1
      rw [World.size_alloc] at this
      rw [← hW0]; exact this.alloc _
    have b2 : Boxed W0 (w.heap.size + 1 + 1) 73 v2 := by
      have := Boxed.new ((w.alloc (.cells #[.int .i64 0] 25)).alloc (.cells #[v1] 22)) 73 v2
      rw [World.size_alloc, World.size_alloc] at this
      rw [← hW0]; exact this
    have hsz : W0.heap.size = w.heap.size + 3 := by rw [← hW0]; simp
    have hB0 : Below w.heap.size w W0 := by rw [← hW0]; exact (((Below.refl _ w).alloc (Nat.le_refl _) _).alloc (by simp) _).alloc (by simp; omega) _
    rw [hW0]
    clear hW0
    have HB0 := Lib.hid hB0
    have hlz : cs.length = rs.length := HL.out.symm
    refine range_through (by omega) (gf := 108) (lb := #[.pointer (some ⟨w.heap.size + 1, 0, none⟩), .pointer (some ⟨w.heap.size + 1 + 1, 0, none⟩)]) rfl (enters_of Tryz.func108 (by kernel_rfl) rfl)
      (bothCC_through (5 - 1) (by omega) (w.heap.size + 1) (w.heap.size + 1 + 1) v1 v2 cs rs hlz w R1.out R2.out W0 hB0 b1.cell b2.cell) only_t (only_b (by omega) (by omega) (by omega)) (fun _ => rfl)
      (fun pre W => (Boxed W w.heap.size 25 (.int .i64 0) ∧ Below w.heap.size w W) ∧ errP pre = 0)
      (fun c pre W => (Boxed W w.heap.size 25 (.int .i64 (errP pre : Nat)) ∧ Below w.heap.size w W) ∧ (c = .ret ∧ errP pre ≠ 0))
      (OwnFrom.and (OwnFrom.and (Own.from (boxed_own _ _ _) _) (ownFrom_below (Nat.le_refl _) (by omega))) (ownFrom_pure _ _))
      (fun c => OwnFrom.and (OwnFrom.and (Own.from (boxed_own _ _ _) _) (ownFrom_below (Nat.le_refl _) (by omega))) (ownFrom_pure _ _))
      ⟨⟨bR, hB0⟩, rfl⟩
      (fun x a' W => ∃ Bx By, (W.heap[Bx]? = some (.cells #[.string x.1.1, .int .i64 x.1.2] 68 (0, 0)) ∧ W.heap[By]? = some (.cells #[.int .u64 (x.2.1 : Int), .string x.2.2] 71 (0, 0))) ∧
        a' = { tmps := #[v1, v2, undef, undef, .pointer (some ⟨w.heap.size, 0, none⟩), .pointer (some ⟨Bx, 0, none⟩), .pointer (some ⟨By, 0, none⟩), undef, v2, .int .i64 n, v1, .int .i64 n, .bool false, v1, v2,
          .func (.func 108) #[] #[.pointer (some ⟨w.heap.size + 1, 0, none⟩), .pointer (some ⟨w.heap.size + 1 + 1, 0, none⟩)],
          .agg #[.string x.1.1, .int .i64 x.1.2], .agg #[.int .u64 (x.2.1 : Int), .string x.2.2], undef, undef, undef, undef, undef, undef, undef], defers := [] })
      ?_ ?_ ?_ ?_ ?_
    · rintro x a' s X Y row ⟨Bx, By, ⟨h4, h5⟩, h6⟩ hg hr
      exact ⟨Bx, By, ⟨cells_kept h4 hg hr, cells_kept h5 hg hr⟩, h6⟩
    · rintro l pre ⟨⟨s, kd⟩, ⟨nm, tx⟩⟩ W K hi hx hK
      unfold encCC
      dsimp only
      gi_wp2
      obtain ⟨N0, N1, N2, N3⟩ := new2 W (.cells #[.string s, .int .i64 kd] 68) (.cells #[.int .u64 (nm : Int), .string tx] 71)
      exact hK _ _ (keepsFrom_below N3) (only_below N3) ⟨⟨boxed_below hi.1.1 N3, hi.1.2.trans (N3.mono hi.1.2.size)⟩, hi.2⟩ ⟨_, _, ⟨N1, N2⟩, rfl⟩
    · rintro l pre ⟨⟨s, kd⟩, ⟨nm, tx⟩⟩ a' W ⟨⟨hb, hB⟩, hp⟩ ⟨Bx, By, ⟨hx1, hx2⟩, rfl⟩ hlt hx
      have hce := hE _ (List.of_mem_zip hx).2
      have hrs := CES.rdS hce
      have HB := Lib.hid hB
      have HP := Lib.hid hp
      have hbl := hb.lt
      have HBX := Lib.hid hb
      have e1 := new_cellC hx1 (i := 1) rfl
      have e2 := new_cellC hx2 (i := 0) rfl
      have e3 := new_cellC hx2 (i := 1) rfl
      have CK := Lib.hid (cell_Check kd nm tx tx.data.toList W hrs (HT.out.later hB))
      obtain ⟨c, hc⟩ : ∃ c, c = checkC kd nm tx.data.toList := ⟨_, rfl⟩
      rw [← hc] at CK
      have HC := Lib.hid (show chk ((s, kd), (nm, tx)) = c from hc.symm)
      have hd : 1 ≤ 5 - 1 - 1 := by omega
      clear hx1 hx2 hB hp hb hc hrs hce hx
      by_cases h0 : c = 0
      · subst h0
        gi_wp2_with (refine ⟨trivial, ?_⟩; gi_at_call 89; refine (CallsIn.inRound l (callsIn_wide.2 CK.out)).mono ?_; rintro e w' ⟨rfl, hb⟩)
        exact ⟨keepsFrom_below hb, only_below hb, ⟨boxed_below HBX.out hb, HB.out.trans (hb.mono HB.out.size)⟩, by rw [errP_snoc _ _ HP.out, HC.out]⟩
      · have q : ((c : Int) != 0) = true := by rw [bne_iff_ne]; omega
        gi_wp2_with (refine ⟨trivial, ?_⟩; gi_at_call 89; refine (CallsIn.inRound l (callsIn_wide.2 CK.out)).mono ?_; rintro e w' ⟨rfl, hb⟩; have hbx := boxed_below HBX.out hb; have hbc := hbx.cell; have hbf := hbx.frozen)
        have he : errP (pre ++ [((s, kd), (nm, tx))]) = c := by rw [errP_snoc _ _ HP.out, HC.out]
        refine ⟨(keepsFrom_below hb).trans ((KeepsOthers.setCell _ _ _).from _), ⟨?_, ?_⟩, rfl, by rw [he]; exact h0⟩
        · rw [he]; exact hbx.set _
        · exact (HB.out.trans (hb.mono HB.out.size)).setCell (p := ⟨w.heap.size, 0, none⟩) (Nat.le_refl _) _
    · rintro D W hD ⟨⟨hb, hB⟩, hp⟩ hK
      have hbc := hb.cell
      have hbf := hb.frozen
      gi_wp2
      have hK' := (KeepsOthers.setCell W ⟨w.heap.size, 0, none⟩ (.int .i64 0)).same D _ hK rfl
      have hc5 := cell_kept (hb.set (.int .i64 0)).cell (grownBy_putObj' _ D (.deferred none)) (fun r e => by cases e; exact ⟨_, hK', rfl⟩)
      refine ⟨by simp, .inl ⟨_, _, rfl, run_takeDeferred hK', ?_⟩⟩
      refine ⟨.int .i64 0, by simp [results, Tryz.results60, go_sem, hc5], by rw [HE.out, hp]; rfl, ?_⟩
      exact (hB.setCell (p := ⟨w.heap.size, 0, none⟩) (Nat.le_refl _) _).trans (belowK_b (w := w) (Nat.le_refl _) _ D _ _ (by omega) hK' rfl rfl)
    · rintro D c k W hD hk ⟨⟨hb, hB⟩, rfl, hp⟩ hK
      gi_wp2
      have hc5 := cell_kept hb.cell (grownBy_putObj' _ D (.deferred none)) (fun r e => by cases e; exact ⟨_, hK, rfl⟩)
      refine ⟨by simp, .inl ⟨_, _, rfl, run_takeDeferred hK, ?_⟩⟩
      refine ⟨_, by simp [results, Tryz.results60, go_sem, hc5]; rfl, by rw [HE.out, errP_take hp], ?_⟩
      exact hB.trans (belowK_b (w := w) (Nat.le_refl _) _ D _ _ (by omega) hK rfl rfl)
  · have HE := Lib.hid (show errC cs rs = 2 from by unfold errC; rw [if_neg hlen])
    have q : ((rs.length : Int) != (cs.length : Int)) = true := by rw [bne_iff_ne]; omega
    have q2 : (rs.length != cs.length) = true := by simpa using hlen
    clear hlen h1 h2 hT
    go_enter Tryz.func60, Tryz.ntmps60
    go_wp2
    refine bodyPost_ret (v := .int .i64 2) (by simp [results, Tryz.results60, go_sem]) rfl ?_
    refine ⟨by rw [HE.out]; rfl, ?_⟩
    exact (Below.refl w.heap.size w).alloc (Nat.le_refl _) _

end Go.Proofs.YtokpphhmmcoeaaaGreatDoor


/-
  row.Check, row.Size; the document's Check, Size, Same of layer 6.
-/
namespace Go.Proofs.YtokpphhmmcoeaaaGreatDoor
open Go.RowKit Go.Shelf

/-- What is wrong with a row of a schema. -/
def errRow (cs : List ColB) (rs : List CellB) : Nat := if errS (colsL cs) = 0 then errC cs rs else errS (colsL cs)
theorem errRow_codes (cs : List ColB) (rs : List CellB) : errRow cs rs ≤ 13 := by
  unfold errRow
  split
  · have := errC_codes cs rs; omega
  · exact errS_codes _

theorem keep_cell {wz w' : World} {p : Addr} {v : Value} (hb : Below wz.heap.size wz w') (h : wz.cell? p = some v) : w'.cell? p = some v := (hb.cell (p := p) (World.block_lt_of_cell? wz _ h)).trans h

set_option maxHeartbeats 4000000 in
theorem row_Check (v1 v2 : Value) (cs : List ColB) (rs : List CellB) (w : World) (h1 : RdC w v1 cs) (h2 : RdE w v2 rs) (hC : CS cs) (hE : CES rs) (hT : Tabs w) :
    Calls Tryz.prog 57 #[v1, v2] w fun e w' => e = .returned (.int .i64 (errRow cs rs : Nat)) ∧ Below w.heap.size w w' := by
  have SC := Lib.hid (schema_Check v1 cs w h1 hC hT)
  have CC := Lib.hid (fun wz (hz : Below w.heap.size w wz) => row_checkCells v1 v2 cs rs wz (h1.later hz (Nat.le_refl _)) (h2.later hz (Nat.le_refl _)) hC hE (hT.later hz))
  clear h1 h2 hT
  obtain ⟨x, hx⟩ : ∃ x, x = errS (colsL cs) := ⟨_, rfl⟩
  rw [← hx] at SC
  by_cases h0 : x = 0
  · have HE := Lib.hid (show errRow cs rs = errC cs rs from by unfold errRow; rw [if_pos (by omega)])
    obtain ⟨y, hy⟩ : ∃ y, y = errC cs rs := ⟨_, rfl⟩
    rw [← hy] at CC HE
    subst h0
    clear hx hy
    go_enter Tryz.func57, Tryz.ntmps57
    go_wp2_with fail
    refine SC.out.mono ?_
    rintro e w1 ⟨rfl, hb⟩
    have HB1 := Lib.hid hb
    clear hb
    go_wp2_with fail
    refine (CC.out _ HB1.out).mono ?_
    rintro e w2 ⟨rfl, hb⟩
    have HB2 := Lib.hid (HB1.out.trans (hb.mono HB1.out.size))
    clear hb
    go_wp2
    go_ret
    exact ⟨by rw [HE.out]; rfl, HB2.out⟩
  · have HE := Lib.hid (show errRow cs rs = x from by unfold errRow; rw [if_neg (by omega), hx])
    have q : ((x : Int) != 0) = true := by rw [bne_iff_ne]; omega
    clear hx
    go_enter Tryz.func57, Tryz.ntmps57
    go_wp2_with fail
    refine SC.out.mono ?_
    rintro e w1 ⟨rfl, hb⟩
    have HB1 := Lib.hid hb
    clear hb
    go_wp2
    go_ret
    exact ⟨by rw [HE.out]; rfl, HB1.out⟩

set_option maxHeartbeats 4000000 in
theorem ref_Check06 (v1 v2 : Value) (cs : List ColB) (rs : List CellB) (w : World) (h1 : RdC w v1 cs) (h2 : RdE w v2 rs) (hC : CS cs) (hE : CES rs) :
    Calls Tryz.prog 51 #[v1, v2] w fun e w' => e = .returned (.int .i64 (errRow cs rs : Nat)) ∧ Below w.heap.size w w' := by
  have SC := Lib.hid (ref_Check05 v1 cs w h1 hC)
  have hl1 := h1.len
  have hl2 := h2.len
  have hsm := h2.small
  have R1 := Lib.hid (fun wz (hz : Below w.heap.size w wz) => h1.later hz (Nat.le_refl _))
  have R2 := Lib.hid (fun wz (hz : Below w.heap.size w wz) => h2.later hz (Nat.le_refl _))
  clear h1 h2
  obtain ⟨x, hx⟩ : ∃ x, x = errS (colsL cs) := ⟨_, rfl⟩
  rw [← hx] at SC
  by_cases h0 : x = 0
  · have HE := Lib.hid (show errRow cs rs = errC cs rs from by unfold errRow; rw [if_pos (by omega)])
    subst h0
    clear hx
    by_cases hlen : rs.length = cs.length
    · have HE2 := Lib.hid (show errRow cs rs = errP (cs.zip rs) from by rw [HE.out]; unfold errC; rw [if_pos hlen])
      obtain ⟨n, hn⟩ : ∃ n, n = cs.length := ⟨_, rfl⟩
      rw [hlen, ← hn] at hl2 hsm
      rw [← hn] at hl1
      have HN := Lib.hid hn
      have HL := Lib.hid hlen
      clear HE hn hlen
      go_enter Tryz.func51, Tryz.ntmps51
      go_wp2_with fail
      refine SC.out.mono ?_
      rintro e w1 ⟨rfl, hb⟩
      have HB1 := Lib.hid hb
      clear hb
      go_wp2
      go_loopw [6] (fun i wr => ∃ k : Nat, k ≤ n ∧ i = .int .i64 k ∧ Hid (errP ((cs.zip rs).take k) = 0) ∧ Hid (Below w.heap.size w wr)) (fun i _ => n - (intOf i).toNat)
      case atStart => exact ⟨0, by omega, rfl, Lib.hid rfl, HB1⟩
      case round =>
        clear HB1 SC
        obtain ⟨k, hk, rfl, HP, HB⟩ := hrel
        by_cases hlt : k < n
        · have k1 : k < cs.length := by rw [← HN.out]; exact hlt
          have k2 : k < rs.length := by rw [HL.out]; exact k1
          have hr1 := R1.out wr HB.out
          have hr2 := R2.out wr HB.out
          obtain ⟨ba, oa, hia, hca, _⟩ := hr1.get k1
          obtain ⟨bb, ob, hib, hcb, _⟩ := hr2.get k2
          obtain ⟨ca0, ca1⟩ := hca _ hr1
          obtain ⟨cb0, cb1⟩ := hcb _ hr2
          have HZ := Lib.hid (zip_get cs rs HL.out.symm k k1)
          have hce := hE.get k2
          have hcs := hC.get k1
          rcases hga : cs.getD k default with ⟨xa, ya⟩
          rcases hgb : rs.getD k default with ⟨xb, yb⟩
          rw [hga] at ca0 ca1 HZ hcs
          rw [hgb] at cb0 cb1 HZ hce
          dsimp only at ca0 ca1 cb0 cb1
          have hrs := CES.rdS hce
          obtain ⟨c, hc⟩ : ∃ c, c = checkC ya xb yb.data.toList := ⟨_, rfl⟩
          have CK := Lib.hid (show Calls Tryz.prog 71 #[.int .i64 ya, .agg #[.int .u64 (xb : Int), .string yb]] wr.drew fun e w' => e = .returned (.int .i64 (c : Int)) ∧ Below w.heap.size w w' ∧
              w'.cell? ⟨ba, oa + 1, none⟩ = some (.int .i64 ya) ∧ w'.cell? ⟨bb, ob, none⟩ = some (.int .u64 (xb : Int)) ∧ w'.cell? ⟨bb, ob + 1, none⟩ = some (.string yb) from by
            rw [hc]
            refine (ref_Check ya xb yb yb.data.toList wr.drew hrs hcs.2 hce.1).mono ?_
            rintro e w' ⟨he, hb⟩
            exact ⟨he, HB.out.trans ((Below.refl wr.heap.size wr).drew.trans hb |>.mono HB.out.size), keep_cell hb ca1, keep_cell hb cb0, keep_cell hb cb1⟩)
          have HC := Lib.hid (show errP ((cs.zip rs).take (k + 1)) = c from by rw [HZ.out, errP_snoc _ _ HP.out, hc]; rfl)
          clear hr1 hr2 hca hcb hga hgb hc hrs hcs hce k1 k2 HZ
          by_cases h0 : c = 0
          · subst h0
            go_wp2
            go_region_held3 (fun u => u.cell? ⟨ba, oa + 1, none⟩ = some (.int .i64 ya) ∧ u.cell? ⟨bb, ob, none⟩ = some (.int .u64 (xb : Int)) ∧ u.cell? ⟨bb, ob + 1, none⟩ = some (.string yb)) (first | go_keep | (exact ⟨m1, m2, m3⟩))
              ((go_at_call 71; refine CK.out.mono ?_; rintro e w' ⟨rfl, hb, m1, m2, m3⟩))
            have HB3 := Lib.hid hb
            clear hb m1 m2 m3 CK ca0 ca1 cb0 cb1 hia hib
            go_wp2
            go_roundw
            case rel => exact ⟨k + 1, by omega, by go_num, HC, HB3⟩
            case measure => simp [intOf]; omega
          · have q : ((c : Int) != 0) = true := by rw [bne_iff_ne]; omega
            go_wp2
            go_region_held3 (fun u => u.cell? ⟨ba, oa + 1, none⟩ = some (.int .i64 ya) ∧ u.cell? ⟨bb, ob, none⟩ = some (.int .u64 (xb : Int)) ∧ u.cell? ⟨bb, ob + 1, none⟩ = some (.string yb)) (first | go_keep | (exact ⟨m1, m2, m3⟩))
              ((go_at_call 71; refine CK.out.mono ?_; rintro e w' ⟨rfl, hb, m1, m2, m3⟩))
            have HB3 := Lib.hid hb
            clear hb m1 m2 m3 CK ca0 ca1 cb0 cb1 hia hib
            go_wp2
            go_ret
            exact ⟨by rw [HE2.out, errP_take (k := k + 1) (by rw [HC.out]; exact h0), HC.out]; rfl, HB3.out⟩
        · obtain rfl : k = n := by omega
          have HF := Lib.hid (show errP (cs.zip rs) = 0 from by
            have := HP.out
            rwa [List.take_of_length_le (by rw [List.length_zip, HL.out, ← HN.out]; omega)] at this)
          clear hlt
          go_wp2
          go_ret
          exact ⟨by rw [HE2.out, HF.out]; rfl, HB.out⟩
    · have HE2 := Lib.hid (show errRow cs rs = 2 from by rw [HE.out]; unfold errC; rw [if_neg hlen])
      have q : ((rs.length : Int) != (cs.length : Int)) = true := by rw [bne_iff_ne]; omega
      have q2 : (rs.length != cs.length) = true := by simpa using hlen
      clear hlen
      go_enter Tryz.func51, Tryz.ntmps51
      go_wp2_with fail
      refine SC.out.mono ?_
      rintro e w1 ⟨rfl, hb⟩
      have HB1 := Lib.hid hb
      clear hb
      go_wp2
      go_ret
      exact ⟨by rw [HE2.out]; rfl, HB1.out⟩
  · have HE := Lib.hid (show errRow cs rs = x from by unfold errRow; rw [if_neg (by omega), hx])
    have q : ((x : Int) != 0) = true := by rw [bne_iff_ne]; omega
    clear hx
    go_enter Tryz.func51, Tryz.ntmps51
    go_wp2_with fail
    refine SC.out.mono ?_
    rintro e w1 ⟨rfl, hb⟩
    have HB1 := Lib.hid hb
    clear hb
    go_wp2
    go_ret
    exact ⟨by rw [HE.out]; rfl, HB1.out⟩

/-- How many bytes texts have, round and round. -/
def sizeW (rs : List CellB) : Int := rs.foldl (fun n c => wrap64 (n + (c.2.size : Int))) 0
theorem sizeW_snoc {rs : List CellB} {k : Nat} (h : k < rs.length) : sizeW (rs.take (k + 1)) = wrap64 (sizeW (rs.take k) + ((rs.getD k default).2.size : Int)) := by
  rw [take_succD h default]; unfold sizeW; rw [List.foldl_append]; rfl

set_option maxHeartbeats 4000000 in
theorem ref_Size06 (v : Value) (rs : List CellB) (w : World) (h : RdE w v rs) :
    Calls Tryz.prog 32 #[v] w fun e w' => e = .returned (.int .i64 (sizeW rs)) ∧ Below w.heap.size w w' := by
  have hl := h.len
  have hsm := h.small
  have H := Lib.hid h
  obtain ⟨n, hn⟩ : ∃ n, n = rs.length := ⟨_, rfl⟩
  rw [← hn] at hl hsm
  have HN := Lib.hid hn
  clear h hn
  go_enter Tryz.func32, Tryz.ntmps32
  go_wp2
  go_loopw [3, 4] (fun a i wr => ∃ (k : Nat) (x : Int), k ≤ n ∧ i = .int .i64 k ∧ a = .int .i64 x ∧ Hid (x = sizeW (rs.take k)) ∧ Hid (Below w.heap.size w wr)) (fun _ i _ => n - (intOf i).toNat)
  case atStart => exact ⟨0, 0, by omega, rfl, rfl, Lib.hid rfl, Lib.hid (Below.refl _ _)⟩
  case round =>
    obtain ⟨k, x, hk, rfl, rfl, HX, HB⟩ := hrel
    by_cases hlt : k < n
    · have hr := H.out.later HB.out (Nat.le_refl _)
      have k1 : k < rs.length := by rw [← HN.out]; exact hlt
      obtain ⟨b, o, hidx, hcell, hblk⟩ := hr.get k1
      obtain ⟨hc0, hc1⟩ := hcell _ hr
      have HS := Lib.hid (sizeW_snoc k1)
      rcases hcg : rs.getD k default with ⟨m, s⟩
      rw [hcg] at hc0 hc1 HS
      dsimp only at hc0 hc1
      clear hr hcell hcg k1 hblk
      go_wp2
      go_roundw
      case rel => exact ⟨k + 1, _, by omega, by go_num, rfl, Lib.hid (by rw [HS.out, HX.out]), HB⟩
      case measure => simp [intOf]; omega
    · obtain rfl : k = n := by omega
      have HF := Lib.hid (show x = sizeW rs from by rw [HX.out, List.take_of_length_le (by rw [← HN.out]; exact Nat.le_refl _)])
      clear hlt
      go_wp2
      go_ret
      exact ⟨by rw [HF.out]; rfl, HB.out⟩

end Go.Proofs.YtokpphhmmcoeaaaGreatDoor


/-
  The order of two rows, in lists (no program in it).
-/
namespace Go.Proofs.YtokpphhmmcoeaaaGreatDoor
open Go.RowKit Go.Shelf

def cmpX (kind : Int) (a b : CellB) : Int := cmpC kind a.1 a.2.data.toList b.1 b.2.data.toList
/-- The order of the first cells that are unlike. -/
def cmpL : List ColB → List (CellB × CellB) → Int
  | c :: cs, p :: ps => if cmpX c.2 p.1 p.2 ≠ 0 then cmpX c.2 p.1 p.2 else cmpL cs ps
  | _, _ => 0
theorem cmpL_append : ∀ (cs : List ColB) (l m : List (CellB × CellB)), l.length ≤ cs.length → cmpL cs (l ++ m) = if cmpL cs l ≠ 0 then cmpL cs l else cmpL (cs.drop l.length) m
  | [], [], m, _ => by
    have e : cmpL [] [] = 0 := by rw [cmpL]; intros; contradiction
    rw [if_neg (fun h => h e)]; rfl
  | c :: cs, [], m, _ => by
    have e : cmpL (c :: cs) [] = 0 := by rw [cmpL]; intros; contradiction
    rw [if_neg (fun h => h e)]; rfl
  | [], p :: l, m, h => by simp at h
  | c :: cs, p :: l, m, h => by
    rw [List.cons_append, cmpL, cmpL_append cs l m (by simpa using h), cmpL]
    by_cases h0 : cmpX c.2 p.1 p.2 = 0
    · have h' : ¬ cmpX c.2 p.1 p.2 ≠ 0 := fun h9 => h9 h0
      rw [if_neg h', if_neg h']; rfl
    · rw [if_pos h0, if_pos h0, if_pos h0]
theorem cmpL_one (cs : List ColB) (x : CellB × CellB) (h : 0 < cs.length) : cmpL cs [x] = cmpX (cs.getD 0 default).2 x.1 x.2 := by
  cases cs with
  | nil => simp at h
  | cons c r =>
    rw [cmpL]
    have e : cmpL r [] = 0 := by
      cases r with
      | nil => rw [cmpL]; intros; contradiction
      | cons _ _ => rw [cmpL]; intros; contradiction
    rw [e]
    show _ = cmpX c.2 x.1 x.2
    split
    · rfl
    · rename_i h9; exact (Decidable.of_not_not h9).symm
theorem cmpL_snoc (cs : List ColB) (l : List (CellB × CellB)) (x : CellB × CellB) (h : l.length < cs.length) (h0 : cmpL cs l = 0) : cmpL cs (l ++ [x]) = cmpX (cs.getD l.length default).2 x.1 x.2 := by
  rw [cmpL_append cs l [x] (by omega), if_neg (fun h9 => h9 h0), cmpL_one _ _ (by rw [List.length_drop]; omega)]
  have e : (cs.drop l.length).getD 0 default = cs.getD l.length default := by simp [List.getD]
  rw [e]
theorem cmpL_take {cs : List ColB} {l : List (CellB × CellB)} {k : Nat} (hl : l.length ≤ cs.length) (h : cmpL cs (l.take k) ≠ 0) : cmpL cs l = cmpL cs (l.take k) := by
  have := cmpL_append cs (l.take k) (l.drop k) (by rw [List.length_take]; omega)
  rw [List.take_append_drop, if_pos h] at this
  exact this

/-- The order of two rows of a schema. -/
def cmpR (cs : List ColB) (a b : List CellB) : Int := if errRow cs a ≠ 0 ∨ errRow cs b ≠ 0 then 0 else cmpL cs (a.zip b)
theorem errRow_len {cs : List ColB} {a : List CellB} (h : errRow cs a = 0) : errS (colsL cs) = 0 ∧ a.length = cs.length ∧ errP (cs.zip a) = 0 := by
  unfold errRow at h
  by_cases h0 : errS (colsL cs) = 0
  · rw [if_pos h0] at h
    unfold errC at h
    by_cases h1 : a.length = cs.length
    · rw [if_pos h1] at h; exact ⟨h0, h1, h⟩
    · rw [if_neg h1] at h; cases h
  · rw [if_neg h0] at h; exact absurd h h0
theorem cmpC_small (kind : Int) (x : Nat) (l : List UInt8) (y : Nat) (m : List UInt8) : -9223372036854775808 ≤ cmpC kind x l y m ∧ cmpC kind x l y m ≤ 9223372036854775807 := by
  unfold cmpC
  repeat' split
  all_goals omega

end Go.Proofs.YtokpphhmmcoeaaaGreatDoor


/-
  The document's Compare of layer 6.
-/
namespace Go.Proofs.YtokpphhmmcoeaaaGreatDoor
open Go.RowKit Go.Shelf

set_option maxHeartbeats 8000000 in
theorem ref_Compare06 (v1 v2 v3 : Value) (cs : List ColB) (a b : List CellB) (w : World) (h1 : RdC w v1 cs) (h2 : RdE w v2 a) (h3 : RdE w v3 b) (hC : CS cs) (hA : CES a) (hB : CES b) :
    Calls Tryz.prog 52 #[v1, v2, v3] w fun e w' => e = .returned (.int .i64 (cmpR cs a b)) ∧ Below w.heap.size w w' := by
  have hl1 := h1.len
  have hsm := h1.small
  have R1 := Lib.hid (fun wz (hz : Below w.heap.size w wz) => h1.later hz (Nat.le_refl _))
  have R2 := Lib.hid (fun wz (hz : Below w.heap.size w wz) => h2.later hz (Nat.le_refl _))
  have R3 := Lib.hid (fun wz (hz : Below w.heap.size w wz) => h3.later hz (Nat.le_refl _))
  obtain ⟨x, hx⟩ : ∃ x, x = errRow cs a := ⟨_, rfl⟩
  obtain ⟨y, hy⟩ : ∃ y, y = errRow cs b := ⟨_, rfl⟩
  have CA := Lib.hid (fun wz (hz : Below w.heap.size w wz) => (show Calls Tryz.prog 51 #[v1, v2] wz fun e w' => e = .returned (.int .i64 (x : Int)) ∧ Below wz.heap.size wz w' from by
    rw [hx]; exact ref_Check06 v1 v2 cs a wz (R1.out wz hz) (R2.out wz hz) hC hA))
  have CB := Lib.hid (fun wz (hz : Below w.heap.size w wz) => (show Calls Tryz.prog 51 #[v1, v3] wz fun e w' => e = .returned (.int .i64 (y : Int)) ∧ Below wz.heap.size wz w' from by
    rw [hy]; exact ref_Check06 v1 v3 cs b wz (R1.out wz hz) (R3.out wz hz) hC hB))
  clear h1 h2 h3
  by_cases h0 : x = 0
  · by_cases hy0 : y = 0
    · have hxl := errRow_len (show errRow cs a = 0 from by omega)
      have hyl := errRow_len (show errRow cs b = 0 from by omega)
      have HE := Lib.hid (show cmpR cs a b = cmpL cs (a.zip b) from by unfold cmpR; rw [if_neg (by omega)])
      subst h0 hy0
      rw [show ((0 : Nat) : Int) = 0 from rfl] at CA CB
      have HLA := Lib.hid hxl.2.1
      have HLB := Lib.hid hyl.2.1
      obtain ⟨n, hn⟩ : ∃ n, n = cs.length := ⟨_, rfl⟩
      rw [← hn] at hl1 hsm
      have HN := Lib.hid hn
      clear hx hy hxl hyl hn
      go_enter Tryz.func52, Tryz.ntmps52
      go_wp2_with fail
      refine (CA.out _ (Below.refl _ _)).mono ?_
      rintro e w1 ⟨rfl, hb⟩
      have HB1 := Lib.hid hb
      clear hb
      go_wp2_with fail
      refine (CB.out _ HB1.out).mono ?_
      rintro e w2 ⟨rfl, hb⟩
      have HB2 := Lib.hid (HB1.out.trans (hb.mono HB1.out.size))
      clear hb
      go_wp2
      go_loopw [7] (fun i wr => ∃ k : Nat, k ≤ n ∧ i = .int .i64 k ∧ Hid (cmpL cs ((a.zip b).take k) = 0) ∧ Hid (Below w.heap.size w wr)) (fun i _ => n - (intOf i).toNat)
      case atStart => exact ⟨0, by omega, rfl, Lib.hid (by cases cs <;> rfl), HB2⟩
      case round =>
        clear HB1 HB2 CA CB
        obtain ⟨k, hk, rfl, HP, HB⟩ := hrel
        by_cases hlt : k < n
        · have k1 : k < cs.length := by rw [← HN.out]; exact hlt
          have k2 : k < a.length := by rw [HLA.out]; exact k1
          have k3 : k < b.length := by rw [HLB.out]; exact k1
          have hab : a.length = b.length := by rw [HLA.out, HLB.out]
          have hr1 := R1.out wr HB.out
          have hr2 := R2.out wr HB.out
          have hr3 := R3.out wr HB.out
          obtain ⟨ba, oa, hia, hca, _⟩ := hr1.get k1
          obtain ⟨bb, ob, hib, hcb, _⟩ := hr2.get k2
          obtain ⟨bc, oc, hic, hcc, _⟩ := hr3.get k3
          obtain ⟨ca0, ca1⟩ := hca _ hr1
          obtain ⟨cb0, cb1⟩ := hcb _ hr2
          obtain ⟨cc0, cc1⟩ := hcc _ hr3
          have hce1 := hA.get k2
          have hce2 := hB.get k3
          have hcs := hC.get k1
          have HC := Lib.hid (show cmpL cs ((a.zip b).take (k + 1)) = cmpX (cs.getD k default).2 (a.getD k default) (b.getD k default) from by
            rw [zip_get a b hab k k2, cmpL_snoc _ _ _ (by rw [List.length_take, List.length_zip]; omega) HP.out]
            rw [List.length_take, List.length_zip, show min k (min a.length b.length) = k from by omega])
          rcases hga : cs.getD k default with ⟨xa, ya⟩
          rcases hgb : a.getD k default with ⟨xb, yb⟩
          rcases hgc : b.getD k default with ⟨xc, yc⟩
          rw [hga] at ca0 ca1 HC hcs
          rw [hgb] at cb0 cb1 HC hce1
          rw [hgc] at cc0 cc1 HC hce2
          dsimp only at ca0 ca1 cb0 cb1 cc0 cc1
          obtain ⟨c, hc⟩ : ∃ c, c = cmpC ya xb yb.data.toList xc yc.data.toList := ⟨_, rfl⟩
          have HC := Lib.hid (HC.out.trans hc.symm)
          have CK := Lib.hid (show Calls Tryz.prog 72 #[.int .i64 ya, .agg #[.int .u64 (xb : Int), .string yb], .agg #[.int .u64 (xc : Int), .string yc]] wr.drew fun e w' => e = .returned (.int .i64 c) ∧ Below w.heap.size w w' ∧
              w'.cell? ⟨ba, oa + 1, none⟩ = some (.int .i64 ya) ∧ (w'.cell? ⟨bb, ob, none⟩ = some (.int .u64 (xb : Int)) ∧ w'.cell? ⟨bb, ob + 1, none⟩ = some (.string yb)) ∧ (w'.cell? ⟨bc, oc, none⟩ = some (.int .u64 (xc : Int)) ∧ w'.cell? ⟨bc, oc + 1, none⟩ = some (.string yc)) from by
            rw [hc]
            refine (ref_Compare ya hcs.2 xb xc hce1.1 hce2.1 yb yc _ _ wr.drew (CES.rdS hce1) (CES.rdS hce2)).mono ?_
            rintro e w' ⟨he, hb⟩
            exact ⟨he, HB.out.trans ((Below.refl wr.heap.size wr).drew.trans hb |>.mono HB.out.size), keep_cell hb ca1, ⟨keep_cell hb cb0, keep_cell hb cb1⟩, keep_cell hb cc0, keep_cell hb cc1⟩)
          clear hr1 hr2 hr3 hca hcb hcc hga hgb hgc hc hcs hce1 hce2 k1 k2 k3 hab ca0
          by_cases h0 : c = 0
          · subst h0
            go_wp2
            go_region_held3 (fun u => u.cell? ⟨ba, oa + 1, none⟩ = some (.int .i64 ya) ∧ (u.cell? ⟨bb, ob, none⟩ = some (.int .u64 (xb : Int)) ∧ u.cell? ⟨bb, ob + 1, none⟩ = some (.string yb)) ∧ (u.cell? ⟨bc, oc, none⟩ = some (.int .u64 (xc : Int)) ∧ u.cell? ⟨bc, oc + 1, none⟩ = some (.string yc))) (first | go_keep | (exact ⟨m1, m2, m3⟩))
              ((go_at_call 72; refine CK.out.mono ?_; rintro e w' ⟨rfl, hb, m1, m2, m3⟩))
            have HB3 := Lib.hid hb
            clear hb m1 m2 m3 CK ca1 cb0 cb1 cc0 cc1 hia hib hic
            go_wp2
            go_roundw
            case rel => exact ⟨k + 1, by omega, by go_num, HC, HB3⟩
            case measure => simp [intOf]; omega
          · have q : (c != 0) = true := by rw [bne_iff_ne]; omega
            go_wp2
            go_region_held3 (fun u => u.cell? ⟨ba, oa + 1, none⟩ = some (.int .i64 ya) ∧ (u.cell? ⟨bb, ob, none⟩ = some (.int .u64 (xb : Int)) ∧ u.cell? ⟨bb, ob + 1, none⟩ = some (.string yb)) ∧ (u.cell? ⟨bc, oc, none⟩ = some (.int .u64 (xc : Int)) ∧ u.cell? ⟨bc, oc + 1, none⟩ = some (.string yc))) (first | go_keep | (exact ⟨m1, m2, m3⟩))
              ((go_at_call 72; refine CK.out.mono ?_; rintro e w' ⟨rfl, hb, m1, m2, m3⟩))
            have HB3 := Lib.hid hb
            clear hb m1 m2 m3 CK ca1 cb0 cb1 cc0 cc1 hia hib hic
            go_wp2
            go_ret
            exact ⟨by rw [HE.out, cmpL_take (k := k + 1) (by rw [List.length_zip, HLA.out, HLB.out]; omega) (by rw [HC.out]; exact h0), HC.out]; rfl, HB3.out⟩
        · obtain rfl : k = n := by omega
          have HF := Lib.hid (show cmpL cs (a.zip b) = 0 from by
            have := HP.out
            rwa [List.take_of_length_le (by rw [List.length_zip, HLA.out, HLB.out, ← HN.out]; omega)] at this)
          clear hlt
          go_wp2
          go_ret
          exact ⟨by rw [HE.out, HF.out]; rfl, HB.out⟩
    · have HE := Lib.hid (show cmpR cs a b = 0 from by unfold cmpR; rw [if_pos (.inr (by omega))])
      have q : ((y : Int) != 0) = true := by rw [bne_iff_ne]; omega
      subst h0
      rw [show ((0 : Nat) : Int) = 0 from rfl] at CA
      clear hx hy
      go_enter Tryz.func52, Tryz.ntmps52
      go_wp2_with fail
      refine (CA.out _ (Below.refl _ _)).mono ?_
      rintro e w1 ⟨rfl, hb⟩
      have HB1 := Lib.hid hb
      clear hb
      go_wp2_with fail
      refine (CB.out _ HB1.out).mono ?_
      rintro e w2 ⟨rfl, hb⟩
      have HB2 := Lib.hid (HB1.out.trans (hb.mono HB1.out.size))
      clear hb
      go_wp2
      go_ret
      exact ⟨by rw [HE.out]; rfl, HB2.out⟩
  · have HE := Lib.hid (show cmpR cs a b = 0 from by unfold cmpR; rw [if_pos (.inl (by omega))])
    have q : ((x : Int) != 0) = true := by rw [bne_iff_ne]; omega
    clear hx hy
    go_enter Tryz.func52, Tryz.ntmps52
    go_wp2_with fail
    refine (CA.out _ (Below.refl _ _)).mono ?_
    rintro e w1 ⟨rfl, hb⟩
    have HB1 := Lib.hid hb
    clear hb
    go_wp2
    go_ret
    exact ⟨by rw [HE.out]; rfl, HB1.out⟩

end Go.Proofs.YtokpphhmmcoeaaaGreatDoor


/-
  row.Same.
-/
namespace Go.Proofs.YtokpphhmmcoeaaaGreatDoor
open Go.RowKit Go.Shelf

attribute [local go_sem] Oper.semAt_some

def AllEq (l : List (CellB × CellB)) : Prop := ∀ p ∈ l, p.1 = p.2
def SomeNe (l : List (CellB × CellB)) : Prop := ∃ p ∈ l, p.1 ≠ p.2
theorem AllEq.snoc {l : List (CellB × CellB)} (h : AllEq l) (x : CellB) : AllEq (l ++ [(x, x)]) := fun p hp => by
  rcases List.mem_append.1 hp with hp | hp
  · exact h p hp
  · rw [List.mem_singleton.1 hp]
theorem SomeNe.snoc (l : List (CellB × CellB)) {x y : CellB} (h : x ≠ y) : SomeNe (l ++ [(x, y)]) := ⟨(x, y), by simp, h⟩
theorem zip_same' : ∀ {a b : List CellB}, a.length = b.length → ((∀ p ∈ a.zip b, p.1 = p.2) ↔ a = b)
  | [], [], _ => by simp
  | x :: r, y :: s, h => by
    have ih := zip_same' (a := r) (b := s) (by simpa using h)
    rw [List.zip_cons_cons]
    constructor
    · intro h9
      have e1 : x = y := h9 (x, y) (by simp)
      have e2 : r = s := ih.1 (fun p hp => h9 p (by simp [hp]))
      rw [e1, e2]
    · intro h9
      injection h9 with e1 e2
      subst e1
      intro p hp
      rcases List.mem_cons.1 hp with rfl | hp
      · rfl
      · exact ih.2 e2 p hp
  | [], _ :: _, h => by simp at h
  | _ :: _, [], h => by simp at h

theorem zip_same {a b : List CellB} (h : a.length = b.length) : AllEq (a.zip b) ↔ a = b := zip_same' h

set_option maxHeartbeats 8000000 in
theorem row_Same (v1 v2 : Value) (a b : List CellB) (w : World) (h1 : RdE w v1 a) (h2 : RdE w v2 b) :
    Calls Tryz.prog 44 #[v1, v2] w fun e w' => e = .returned (.bool (decide (a = b))) ∧ Below w.heap.size w w' := by
  have hl1 := h1.len
  have hl2 := h2.len
  by_cases hlen : a.length = b.length
  · have HL := Lib.hid hlen
    have HZ := Lib.hid (zip_same hlen)
    obtain ⟨n, hn⟩ : ∃ n, n = a.length := ⟨_, rfl⟩
    rw [← hlen, ← hn] at hl2
    rw [← hn] at hl1
    have R1 := Lib.hid (fun wz (hz : Below w.heap.size w wz) => h1.later hz (Nat.le_refl _))
    have R2 := Lib.hid (fun wz (hz : Below w.heap.size w wz) => h2.later hz (Nat.le_refl _))
    have MK := Lib.hid (fun wz (hz : Below w.heap.size w wz) => bothEE_make v1 v2 a b wz (h1.later hz (Nat.le_refl _)) (h2.later hz (Nat.le_refl _)))
    clear hn hlen h1 h2
    refine (callsIn_wide (n := 5)).1 ?_
    refine callsIn_of_wp_marks Tryz.func44 rfl trivial ?_ rfl
    simp only [Tryz.ntmps44, List.size_toArray, List.length_cons, List.length_nil, Nat.reduceAdd, Nat.reduceSub, Array.replicate_succ, Array.replicate_zero, List.push_toArray, List.append_toArray, List.nil_append, List.cons_append]
    have hA0 := Lib.hid ((Below.refl w.heap.size w).alloc (Nat.le_refl _) (.cells #[.bool false] 4))
    gi_wp2_with (refine ⟨trivial, ?_⟩; gi_at_call 61; refine (callsIn_wide.2 (MK.out _ hA0.out)).mono ?_; rintro e w' ⟨rfl, rfl⟩)
    obtain ⟨W0, hW0⟩ : ∃ W0, ((w.alloc (.cells #[.bool false] 4)).alloc (.cells #[v1] 73)).alloc (.cells #[v2] 73) = W0 := ⟨_, rfl⟩
    obtain ⟨hsz, bR, b1, b2, hB0⟩ := new3 w (.cells #[.bool false] 4) (.cells #[v1] 73) (.cells #[v2] 73)
    rw [hW0] at hsz bR b1 b2 hB0 ⊢
    clear hW0
    have b1' : Boxed W0 (w.heap.size + 1) 73 v1 := b1
    have b2' : Boxed W0 (w.heap.size + 1 + 1) 73 v2 := b2
    have bR' : Boxed W0 w.heap.size 4 (.bool false) := bR
    clear b1 b2 bR
    refine range_through (by omega) (gf := 90) (lb := #[.pointer (some ⟨w.heap.size + 1, 0, none⟩), .pointer (some ⟨w.heap.size + 1 + 1, 0, none⟩)]) rfl (enters_of Tryz.func90 (by kernel_rfl) rfl)
      (bothEE_through (5 - 1) (by omega) (w.heap.size + 1) (w.heap.size + 1 + 1) v1 v2 a b HL.out w R1.out R2.out W0 hB0 b1'.cell b2'.cell) only_t (only_b (by omega) (by omega) (by omega)) (fun _ => rfl)
      (fun pre W => (Boxed W w.heap.size 4 (.bool false) ∧ Below w.heap.size w W) ∧ AllEq pre)
      (fun c pre W => (Boxed W w.heap.size 4 (.bool false) ∧ Below w.heap.size w W) ∧ (c = .ret ∧ SomeNe pre))
      (OwnFrom.and (OwnFrom.and (Own.from (boxed_own _ _ _) _) (ownFrom_below (Nat.le_refl _) (by omega))) (ownFrom_pure _ _))
      (fun c => OwnFrom.and (OwnFrom.and (Own.from (boxed_own _ _ _) _) (ownFrom_below (Nat.le_refl _) (by omega))) (ownFrom_pure _ _))
      ⟨⟨bR', hB0⟩, fun p hp => by simp at hp⟩
      (fun (x : CellB × CellB) a' W => ∃ Bx By, (W.heap[Bx]? = some (Obj.cells #[.int .u64 (x.1.1 : Int), .string x.1.2] 71 (0, 0)) ∧ W.heap[By]? = some (Obj.cells #[.int .u64 (x.2.1 : Int), .string x.2.2] 71 (0, 0))) ∧
        a' = { tmps := #[v1, v2, undef, undef, .pointer (some ⟨w.heap.size, 0, none⟩), .pointer (some ⟨Bx, 0, none⟩), .pointer (some ⟨By, 0, none⟩), v1, .int .i64 n, v2, .int .i64 n, .bool false, v1, v2,
          .func (.func 90) #[] #[.pointer (some ⟨w.heap.size + 1, 0, none⟩), .pointer (some ⟨w.heap.size + 1 + 1, 0, none⟩)],
          .agg #[.int .u64 (x.1.1 : Int), .string x.1.2], .agg #[.int .u64 (x.2.1 : Int), .string x.2.2], undef, undef, undef], defers := [] })
      ?_ ?_ ?_ ?_ ?_
    · rintro x a' s X Y row ⟨Bx, By, ⟨h4, h5⟩, h6⟩ hg hr
      exact ⟨Bx, By, ⟨cells_kept h4 hg hr, cells_kept h5 hg hr⟩, h6⟩
    · rintro l pre ⟨⟨nm, tx⟩, ⟨nn, ty⟩⟩ W K hi hx hK
      unfold encEE
      dsimp only
      gi_wp2
      obtain ⟨N0, N1, N2, N3⟩ := new2 W (.cells #[.int .u64 (nm : Int), .string tx] 71) (.cells #[.int .u64 (nn : Int), .string ty] 71)
      exact hK _ _ (keepsFrom_below N3) (only_below N3) ⟨⟨boxed_below hi.1.1 N3, hi.1.2.trans (N3.mono hi.1.2.size)⟩, hi.2⟩ ⟨_, _, ⟨N1, N2⟩, rfl⟩
    · rintro l pre ⟨⟨nm, tx⟩, ⟨nn, ty⟩⟩ a' W ⟨⟨hi1, hi2⟩, hi3⟩ ⟨Bx, By, ⟨hx1, hx2⟩, rfl⟩ hlt hx
      have e2 := new_cellC hx1 (i := 0) rfl
      have e3 := new_cellC hx1 (i := 1) rfl
      have e4 := new_cellC hx2 (i := 0) rfl
      have e5 := new_cellC hx2 (i := 1) rfl
      have HI1 := Lib.hid hi1
      have HI2 := Lib.hid hi2
      have HI3 := Lib.hid hi3
      have hbc := hi1.cell
      have hbf := hi1.frozen
      clear hx1 hx2 hi1 hi2 hi3 hx hlt
      by_cases hke : nm = nn
      · subst hke
        by_cases hst : tx = ty
        · subst hst
          gi_wp2
          exact ⟨KeepsFrom.refl _ _, Only.refl _ _, ⟨HI1.out, HI2.out⟩, HI3.out.snoc _⟩
        · obtain ⟨q1, q2⟩ := str_ne hst
          have HN := Lib.hid hst
          clear hst
          gi_wp2
          refine ⟨(KeepsOthers.setCell _ _ _).from _, ⟨HI1.out.set _, HI2.out.setCell (p := ⟨w.heap.size, 0, none⟩) (Nat.le_refl _) _⟩, rfl, SomeNe.snoc _ (fun h => HN.out (by injection h))⟩
      · have q1 : ((nm : Int) == (nn : Int)) = false := by rw [beq_eq_false_iff_ne]; omega
        have q2 : ((nm : Int) != (nn : Int)) = true := by rw [bne_iff_ne]; omega
        have q3 : (nm == nn) = false := by simpa using hke
        have q4 : (nm != nn) = true := by simpa using hke
        have HN := Lib.hid hke
        clear hke
        gi_wp2
        refine ⟨(KeepsOthers.setCell _ _ _).from _, ⟨HI1.out.set _, HI2.out.setCell (p := ⟨w.heap.size, 0, none⟩) (Nat.le_refl _) _⟩, rfl, SomeNe.snoc _ (fun h => HN.out (by injection h))⟩
    · rintro D W hD ⟨⟨hb, hB⟩, hp⟩ hK
      have hbc := hb.cell
      have hbf := hb.frozen
      gi_wp2
      have hK' := (KeepsOthers.setCell W ⟨w.heap.size, 0, none⟩ (.bool true)).same D _ hK rfl
      have hc5 := cell_kept (hb.set (.bool true)).cell (grownBy_putObj' _ D (.deferred none)) (fun r e => by cases e; exact ⟨_, hK', rfl⟩)
      refine ⟨by simp, .inl ⟨_, _, rfl, run_takeDeferred hK', ?_⟩⟩
      refine ⟨.bool true, by simp [results, Tryz.results44, go_sem, hc5], by rw [decide_eq_true (HZ.out.1 hp)], ?_⟩
      exact (hB.setCell (p := ⟨w.heap.size, 0, none⟩) (Nat.le_refl _) _).trans (belowK_b (w := w) (Nat.le_refl _) _ D _ _ (by omega) hK' rfl rfl)
    · rintro D c k W hD hk ⟨⟨hb, hB⟩, rfl, p, hp, hne⟩ hK
      gi_wp2
      have hc5 := cell_kept hb.cell (grownBy_putObj' _ D (.deferred none)) (fun r e => by cases e; exact ⟨_, hK, rfl⟩)
      refine ⟨by simp, .inl ⟨_, _, rfl, run_takeDeferred hK, ?_⟩⟩
      refine ⟨_, by simp [results, Tryz.results44, go_sem, hc5]; rfl, by rw [decide_eq_false (fun h => hne (HZ.out.2 h p (List.mem_of_mem_take hp)))], ?_⟩
      exact hB.trans (belowK_b (w := w) (Nat.le_refl _) _ D _ _ (by omega) hK rfl rfl)
  · have HE := Lib.hid (show decide (a = b) = false from decide_eq_false (fun h => hlen (by rw [h])))
    have q : ((a.length : Int) != (b.length : Int)) = true := by rw [bne_iff_ne]; omega
    have q2 : (a.length != b.length) = true := by simpa using hlen
    clear hlen h1 h2
    go_enter Tryz.func44, Tryz.ntmps44
    go_wp2
    refine bodyPost_ret (v := .bool false) (by simp [results, Tryz.results44, go_sem]) rfl ?_
    exact ⟨by rw [HE.out], (Below.refl w.heap.size w).alloc (Nat.le_refl _) _⟩

end Go.Proofs.YtokpphhmmcoeaaaGreatDoor


/-
  The order of rows, as mathematics; a schema's beginning and its end.
-/
namespace Go.Proofs.YtokpphhmmcoeaaaGreatDoor
open Go.RowKit Go.Shelf

theorem cell_ext {a b : CellB} : (a.1 = b.1 ∧ a.2.data.toList = b.2.data.toList) ↔ a = b := by
  obtain ⟨x, s⟩ := a
  obtain ⟨y, t⟩ := b
  constructor
  · rintro ⟨h1, h2⟩
    dsimp only at h1 h2
    subst h1
    have : s = t := by apply ByteArray.ext; exact Array.toList_inj.1 h2
    rw [this]
  · intro h; injection h with h1 h2; subst h1 h2; exact ⟨rfl, rfl⟩
/-- Two cells of a kind. -/
theorem cmpX_laws {k : Int} {a b c : CellB} (ha : ceS a) (hb : ceS b) (h1 : checkC k a.1 a.2.data.toList = 0) (h2 : checkC k b.1 b.2.data.toList = 0) (h3 : checkC k c.1 c.2.data.toList = 0) :
    cmpX k a b = -cmpX k b a ∧ (cmpX k a b = 0 ↔ a = b) ∧ (-1 ≤ cmpX k a b ∧ cmpX k a b ≤ 1) ∧ (cmpX k a b < 0 → cmpX k b c < 0 → cmpX k a c < 0) := by
  obtain ⟨p1, p2, p3, _, p5⟩ := cmpC_laws (x := a.1) (y := b.1) (z := c.1) (l := a.2.data.toList) (m := b.2.data.toList) (n := c.2.data.toList) (kind := k) ha.1 hb.1 h1 h2 h3
  exact ⟨p1, p2.trans cell_ext, p3, p5⟩

/-- Rows of columns, each cell as it may be. -/
def okR : List ColB → List CellB → Prop
  | [], [] => True
  | c :: cs, x :: r => ceS x ∧ checkC c.2 x.1 x.2.data.toList = 0 ∧ okR cs r
  | _, _ => False
theorem okR_of : ∀ {cs : List ColB} {r : List CellB}, r.length = cs.length → CES r → errP (cs.zip r) = 0 → okR cs r
  | [], [], _, _, _ => trivial
  | [], _ :: _, h, _, _ => by simp at h
  | _ :: _, [], h, _, _ => by simp at h
  | c :: cs, x :: r, h, hE, h0 => by
    have hz := errP_zero h0
    exact ⟨hE x (by simp), hz (c, x) (by simp), okR_of (by simpa using h) (fun y hy => hE y (by simp [hy])) (errP_of fun y hy => hz y (by simp [hy]))⟩
theorem cmpL_nil (l : List (CellB × CellB)) : cmpL [] l = 0 := by
  cases l <;> (rw [cmpL]; intros; contradiction)

theorem cmpL_flip : ∀ {cs : List ColB} {a b : List CellB}, okR cs a → okR cs b → cmpL cs (a.zip b) = -cmpL cs (b.zip a)
  | [], _, _, _, _ => by rw [cmpL_nil, cmpL_nil]; rfl
  | c :: cs, [], _, h, _ => absurd h (by simp [okR])
  | c :: cs, _ :: _, [], _, h => absurd h (by simp [okR])
  | c :: cs, x :: a, y :: b, ha, hb => by
    obtain ⟨p1, p2, _, _⟩ := cmpX_laws ha.1 hb.1 ha.2.1 hb.2.1 hb.2.1
    have ih := cmpL_flip ha.2.2 hb.2.2
    rw [List.zip_cons_cons, List.zip_cons_cons, cmpL, cmpL]
    dsimp only
    by_cases h : cmpX c.2 x y = 0
    · have h' : cmpX c.2 y x = 0 := by omega
      rw [if_neg (fun h9 => h9 h), if_neg (fun h9 => h9 h')]; exact ih
    · have h' : cmpX c.2 y x ≠ 0 := by omega
      rw [if_pos h, if_pos h']; exact p1
theorem cmpL_zero : ∀ {cs : List ColB} {a b : List CellB}, okR cs a → okR cs b → (cmpL cs (a.zip b) = 0 ↔ a = b)
  | [], [], [], _, _ => by rw [cmpL_nil]; simp
  | [], _ :: _, _, h, _ => absurd h (by simp [okR])
  | [], [], _ :: _, _, h => absurd h (by simp [okR])
  | c :: cs, [], _, h, _ => absurd h (by simp [okR])
  | c :: cs, _ :: _, [], _, h => absurd h (by simp [okR])
  | c :: cs, x :: a, y :: b, ha, hb => by
    obtain ⟨_, p2, _, _⟩ := cmpX_laws ha.1 hb.1 ha.2.1 hb.2.1 hb.2.1
    have ih := cmpL_zero ha.2.2 hb.2.2
    rw [List.zip_cons_cons, cmpL]
    dsimp only
    by_cases h : cmpX c.2 x y = 0
    · rw [if_neg (fun h9 => h9 h), ih]
      have := p2.1 h
      subst this
      simp
    · rw [if_pos h]
      constructor
      · intro h9; exact absurd h9 h
      · intro h9; injection h9 with h1 h2; exact absurd (p2.2 h1) h
theorem cmpL_small : ∀ {cs : List ColB} {a b : List CellB}, okR cs a → okR cs b → -1 ≤ cmpL cs (a.zip b) ∧ cmpL cs (a.zip b) ≤ 1
  | [], _, _, _, _ => by rw [cmpL_nil]; omega
  | c :: cs, [], _, h, _ => absurd h (by simp [okR])
  | c :: cs, _ :: _, [], _, h => absurd h (by simp [okR])
  | c :: cs, x :: a, y :: b, ha, hb => by
    obtain ⟨_, _, p3, _⟩ := cmpX_laws ha.1 hb.1 ha.2.1 hb.2.1 hb.2.1
    have ih := cmpL_small ha.2.2 hb.2.2
    rw [List.zip_cons_cons, cmpL]
    dsimp only
    split
    · exact p3
    · exact ih
theorem cmpL_trans : ∀ {cs : List ColB} {a b d : List CellB}, okR cs a → okR cs b → okR cs d → cmpL cs (a.zip b) ≤ 0 → cmpL cs (b.zip d) ≤ 0 → cmpL cs (a.zip d) ≤ 0 ∧ ((cmpL cs (a.zip b) < 0 ∨ cmpL cs (b.zip d) < 0) → cmpL cs (a.zip d) < 0)
  | [], _, _, _, _, _, _ => by rw [cmpL_nil, cmpL_nil, cmpL_nil]; omega
  | c :: cs, [], _, _, h, _, _ => absurd h (by simp [okR])
  | c :: cs, _ :: _, [], _, _, h, _ => absurd h (by simp [okR])
  | c :: cs, _ :: _, _ :: _, [], _, _, h => absurd h (by simp [okR])
  | c :: cs, x :: a, y :: b, z :: d, ha, hb, hd => by
    obtain ⟨_, p2, _, p5⟩ := cmpX_laws ha.1 hb.1 ha.2.1 hb.2.1 hd.2.1
    obtain ⟨_, q2, _, _⟩ := cmpX_laws hb.1 hd.1 hb.2.1 hd.2.1 hd.2.1
    have ih := cmpL_trans ha.2.2 hb.2.2 hd.2.2
    rw [List.zip_cons_cons, List.zip_cons_cons, List.zip_cons_cons, cmpL, cmpL, cmpL]
    dsimp only
    intro h1 h2
    by_cases hp : cmpX c.2 x y = 0
    · have := p2.1 hp
      subst this
      have np : ¬ (cmpX c.2 x x ≠ 0) := fun h9 => h9 hp
      rw [if_neg np] at h1 ⊢
      by_cases hq : cmpX c.2 x z = 0
      · have := q2.1 hq
        subst this
        rw [if_neg np] at h2
        rw [if_neg np, if_neg np]
        exact ih h1 h2
      · rw [if_pos hq] at h2
        rw [if_pos hq]
        exact ⟨h2, fun _ => by omega⟩
    · rw [if_pos hp] at h1 ⊢
      by_cases hq : cmpX c.2 y z = 0
      · have := q2.1 hq
        subst this
        have nq : ¬ (cmpX c.2 y y ≠ 0) := fun h9 => h9 hq
        rw [if_pos hp]
        exact ⟨h1, fun _ => by omega⟩
      · rw [if_pos hq] at h2 ⊢
        have := p5 (by omega) (by omega)
        rw [if_pos (show cmpX c.2 x z ≠ 0 by omega)]
        exact ⟨by omega, fun _ => by omega⟩

theorem okR_row {cs : List ColB} {r : List CellB} (hE : CES r) (h : errRow cs r = 0) : okR cs r := by
  obtain ⟨_, h1, h2⟩ := errRow_len h
  exact okR_of h1 hE h2
theorem cmpR_row {cs : List ColB} {a b : List CellB} (ha : errRow cs a = 0) (hb : errRow cs b = 0) : cmpR cs a b = cmpL cs (a.zip b) := by
  unfold cmpR; rw [if_neg (by omega)]

/-! A schema's beginning, and its end. -/
def okCR (c : Col) : Prop := c.1.length ≤ 32 ∧ c.1 ≠ [] ∧ (c.1.all fun c => letterB c.toNat) = true ∧ 0 ≤ c.2 ∧ c.2 ≤ 5
theorem colErr_iffR (ah : List (List UInt8)) (c : Col) : colErr ah c = 0 ↔ okCR c ∧ c.1 ∉ ah := by
  have hf : fine c.1 ah = true ↔ c.1 ≠ [] ∧ (c.1.all fun c => letterB c.toNat) = true ∧ c.1 ∉ ah := by
    unfold fine
    rw [Bool.and_eq_true, Bool.and_eq_true]
    simp
  constructor
  · intro h
    obtain ⟨h1, h2, h3, h4⟩ := colErr_zero h
    obtain ⟨f1, f2, f3⟩ := hf.1 h2
    exact ⟨⟨h1, f1, f2, h3, h4⟩, f3⟩
  · rintro ⟨⟨h1, f1, f2, h3, h4⟩, f3⟩
    unfold colErr
    rw [if_neg (by omega), if_neg (by rw [hf.2 ⟨f1, f2, f3⟩]; simp), if_neg (by omega)]
theorem errFrom_iffR : ∀ (cs : List Col) (ah : List (List UInt8)), errFrom ah cs = 0 ↔ (∀ c ∈ cs, okCR c) ∧ (names cs).Nodup ∧ ∀ c ∈ cs, c.1 ∉ ah
  | [], ah => by simp [errFrom, names]
  | c :: r, ah => by
    have ih := errFrom_iffR r (ah ++ [c.1])
    have hc := colErr_iffR ah c
    have e : errFrom ah (c :: r) = 0 ↔ colErr ah c = 0 ∧ errFrom (ah ++ [c.1]) r = 0 := by
      rw [errFrom]
      by_cases h : colErr ah c = 0
      · rw [if_neg (by simpa using h)]; simp [h]
      · rw [if_pos (by simpa using h)]; simp [h]
    rw [e, hc, ih]
    unfold names
    rw [List.map_cons, List.nodup_cons]
    constructor
    · rintro ⟨⟨h1, h2⟩, h3, h4, h5⟩
      refine ⟨?_, ⟨?_, h4⟩, ?_⟩
      · intro x hx
        rcases List.mem_cons.1 hx with rfl | hx
        · exact h1
        · exact h3 x hx
      · intro hm
        obtain ⟨x, hx, hxe⟩ := List.mem_map.1 hm
        exact h5 x hx (by rw [hxe]; simp)
      · intro x hx
        rcases List.mem_cons.1 hx with rfl | hx
        · exact h2
        · intro hm; exact h5 x hx (by simp [hm])
    · rintro ⟨h1, ⟨h2, h3⟩, h4⟩
      refine ⟨⟨h1 c (by simp), h4 c (by simp)⟩, fun x hx => h1 x (by simp [hx]), h3, fun x hx hm => ?_⟩
      rcases List.mem_append.1 hm with hm | hm
      · exact h4 x (by simp [hx]) hm
      · rw [List.mem_singleton] at hm
        exact h2 (List.mem_map.2 ⟨x, hx, hm⟩)
theorem errS_iffR (cs : List Col) : errS cs = 0 ↔ (0 < cs.length ∧ cs.length ≤ 8) ∧ (∀ c ∈ cs, okCR c) ∧ (names cs).Nodup := by
  constructor
  · intro h
    obtain ⟨h1, h2, h3, _⟩ := errS_zero h
    obtain ⟨a, b, _⟩ := (errFrom_iffR cs []).1 h3
    exact ⟨⟨h1, h2⟩, a, b⟩
  · rintro ⟨⟨h1, h2⟩, a, b⟩
    unfold errS
    rw [if_neg (by omega), if_neg (by omega)]
    exact (errFrom_iffR cs []).2 ⟨a, b, fun c _ => by simp⟩
theorem errS_sub {cs ds : List Col} (h : errS cs = 0) (hs : ds.Sublist cs) (hp : 0 < ds.length) : errS ds = 0 := by
  obtain ⟨h1, h2, h3⟩ := (errS_iffR cs).1 h
  refine (errS_iffR ds).2 ⟨⟨hp, by have := hs.length_le; omega⟩, fun c hc => h2 c (hs.subset hc), ?_⟩
  unfold names at h3 ⊢
  exact h3.sublist (hs.map _)
theorem colsL_take (cs : List ColB) (n : Nat) : colsL (cs.take n) = (colsL cs).take n := by unfold colsL; rw [List.map_take]
theorem colsL_drop (cs : List ColB) (n : Nat) : colsL (cs.drop n) = (colsL cs).drop n := by unfold colsL; rw [List.map_drop]
theorem zip_takeR {α β : Type} : ∀ (a : List α) (b : List β) (n : Nat), (a.take n).zip (b.take n) = (a.zip b).take n
  | _, _, 0 => by simp
  | [], b, n + 1 => by simp
  | a :: r, [], n + 1 => by simp
  | a :: r, b :: s, n + 1 => by simp [zip_takeR r s n]
theorem zip_dropR {α β : Type} : ∀ (a : List α) (b : List β) (n : Nat), (a.drop n).zip (b.drop n) = (a.zip b).drop n
  | _, _, 0 => by simp
  | [], b, n + 1 => by simp
  | a :: r, [], n + 1 => by simp
  | a :: r, b :: s, n + 1 => by simp [zip_dropR r s n]
theorem errRow_take {cs : List ColB} {r : List CellB} (h : errRow cs r = 0) {n : Nat} (h0 : 0 < n) (hn : n ≤ cs.length) : errRow (cs.take n) (r.take n) = 0 := by
  obtain ⟨hS, hl, hP⟩ := errRow_len h
  have e : errS (colsL (cs.take n)) = 0 := by
    rw [colsL_take]
    exact errS_sub hS (List.take_sublist _ _) (by rw [List.length_take, colsL_length]; omega)
  unfold errRow errC
  rw [if_pos e, if_pos (by rw [List.length_take, List.length_take, hl]), zip_takeR]
  exact errP_of fun x hx => errP_zero hP x (List.mem_of_mem_take hx)
theorem errRow_drop {cs : List ColB} {r : List CellB} (h : errRow cs r = 0) {n : Nat} (hn : n < cs.length) : errRow (cs.drop n) (r.drop n) = 0 := by
  obtain ⟨hS, hl, hP⟩ := errRow_len h
  have e : errS (colsL (cs.drop n)) = 0 := by
    rw [colsL_drop]
    exact errS_sub hS (List.drop_sublist _ _) (by rw [List.length_drop, colsL_length]; omega)
  unfold errRow errC
  rw [if_pos e, if_pos (by rw [List.length_drop, List.length_drop, hl]), zip_dropR]
  exact errP_of fun x hx => errP_zero hP x (List.mem_of_mem_drop hx)
theorem cmpL_takeC : ∀ (cs : List ColB) (l : List (CellB × CellB)) (n : Nat), l.length ≤ n → cmpL (cs.take n) l = cmpL cs l
  | [], l, n, _ => by simp
  | c :: cs, [], n, _ => by
    have e : ∀ ds : List ColB, cmpL ds [] = 0 := fun ds => by cases ds <;> (rw [cmpL]; intros; contradiction)
    rw [e, e]
  | c :: cs, p :: l, 0, h => by simp at h
  | c :: cs, p :: l, n + 1, h => by
    rw [List.take_succ_cons, cmpL, cmpL, cmpL_takeC cs l n (by simpa using h)]
/-- The order of two rows, part by part. -/
theorem cmpR_parts {cs : List ColB} {a b : List CellB} (ha : errRow cs a = 0) (hb : errRow cs b = 0) {n : Nat} (h0 : 0 < n) (hn : n < cs.length) :
    cmpR cs a b = if cmpR (cs.take n) (a.take n) (b.take n) ≠ 0 then cmpR (cs.take n) (a.take n) (b.take n) else cmpR (cs.drop n) (a.drop n) (b.drop n) := by
  have hla := (errRow_len ha).2.1
  have hlb := (errRow_len hb).2.1
  rw [cmpR_row ha hb, cmpR_row (errRow_take ha h0 (by omega)) (errRow_take hb h0 (by omega)), cmpR_row (errRow_drop ha hn) (errRow_drop hb hn), zip_takeR, zip_dropR]
  have hlen : ((a.zip b).take n).length = n := by rw [List.length_take, List.length_zip]; omega
  rw [cmpL_takeC cs ((a.zip b).take n) n (by omega)]
  have := cmpL_append cs ((a.zip b).take n) ((a.zip b).drop n) (by omega)
  rw [List.take_append_drop, hlen] at this
  exact this
end Go.Proofs.YtokpphhmmcoeaaaGreatDoor

