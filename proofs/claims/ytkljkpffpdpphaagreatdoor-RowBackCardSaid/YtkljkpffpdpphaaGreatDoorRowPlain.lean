/-
  row.Check, row.Size; the document's Check, Size, Same of layer 6.
-/
import Derived.Test.YtkljkpffpdpphaaGreatDoorRowCheck
import Derived.Test.YtkljkpffpdpphaaGreatDoorGSchema
import Derived.Deep.RegionHeld3
import Derived.Deep.QuietTactic
import Derived.BigQuiet
set_option linter.unusedVariables false
set_option linter.unusedSimpArgs false
set_option maxRecDepth 1000000
namespace Go.Proofs.YtkljkpffpdpphaaGreatDoor
open Go.RowKit Go.Shelf

/-- What is wrong with a row of a schema. -/
def errRow (cs : List ColB) (rs : List CellB) : Nat := if errS (colsL cs) = 0 then errC cs rs else errS (colsL cs)
theorem errRow_codes (cs : List ColB) (rs : List CellB) : errRow cs rs ≤ 13 := by
  unfold errRow
  split
  · have := errC_codes cs rs; omega
  · exact errS_codes _

theorem keep_cell {wz w' : World} {p : Addr} {v : Value} (hb : Below wz.heap.size wz w') (h : wz.cell? p = some v) : w'.cell? p = some v := (hb.cell (p := p) (World.block_lt_of_cell? wz _ h)).trans h

set_option maxHeartbeats 4000000 in
theorem row_Check (v1 v2 : Value) (cs : List ColB) (rs : List CellB) (w : World) (h1 : RdC w v1 cs) (h2 : RdE w v2 rs) (hC : CS cs) (hE : CES rs) (hT : Tabs w) :
    Calls Tryz.prog 10 #[v1, v2] w fun e w' => e = .returned (.int .i64 (errRow cs rs : Nat)) ∧ Below w.heap.size w w' := by
  have SC := Lib.hid (schema_Check v1 cs w h1 hC hT)
  have CC := Lib.hid (fun wz (hz : Below w.heap.size w wz) => row_checkCells v1 v2 cs rs wz (h1.later hz (Nat.le_refl _)) (h2.later hz (Nat.le_refl _)) hC hE (hT.later hz))
  clear h1 h2 hT
  obtain ⟨x, hx⟩ : ∃ x, x = errS (colsL cs) := ⟨_, rfl⟩
  rw [← hx] at SC
  by_cases h0 : x = 0
  · have HE := Lib.hid (show errRow cs rs = errC cs rs from by unfold errRow; rw [if_pos (by omega)])
    obtain ⟨y, hy⟩ : ∃ y, y = errC cs rs := ⟨_, rfl⟩
    rw [← hy] at CC HE
    subst h0
    clear hx hy
    go_enter Tryz.func10, Tryz.ntmps10
    go_wp2_with fail
    refine SC.out.mono ?_
    rintro e w1 ⟨rfl, hb⟩
    have HB1 := Lib.hid hb
    clear hb
    go_wp2_with fail
    refine (CC.out _ HB1.out).mono ?_
    rintro e w2 ⟨rfl, hb⟩
    have HB2 := Lib.hid (HB1.out.trans (hb.mono HB1.out.size))
    clear hb
    go_wp2
    go_ret
    exact ⟨by rw [HE.out]; rfl, HB2.out⟩
  · have HE := Lib.hid (show errRow cs rs = x from by unfold errRow; rw [if_neg (by omega), hx])
    have q : ((x : Int) != 0) = true := by rw [bne_iff_ne]; omega
    clear hx
    go_enter Tryz.func10, Tryz.ntmps10
    go_wp2_with fail
    refine SC.out.mono ?_
    rintro e w1 ⟨rfl, hb⟩
    have HB1 := Lib.hid hb
    clear hb
    go_wp2
    go_ret
    exact ⟨by rw [HE.out]; rfl, HB1.out⟩

set_option maxHeartbeats 4000000 in
theorem ref_Check06 (v1 v2 : Value) (cs : List ColB) (rs : List CellB) (w : World) (h1 : RdC w v1 cs) (h2 : RdE w v2 rs) (hC : CS cs) (hE : CES rs) :
    Calls Tryz.prog 11 #[v1, v2] w fun e w' => e = .returned (.int .i64 (errRow cs rs : Nat)) ∧ Below w.heap.size w w' := by
  have SC := Lib.hid (ref_Check05 v1 cs w h1 hC)
  have hl1 := h1.len
  have hl2 := h2.len
  have hsm := h2.small
  have R1 := Lib.hid (fun wz (hz : Below w.heap.size w wz) => h1.later hz (Nat.le_refl _))
  have R2 := Lib.hid (fun wz (hz : Below w.heap.size w wz) => h2.later hz (Nat.le_refl _))
  clear h1 h2
  obtain ⟨x, hx⟩ : ∃ x, x = errS (colsL cs) := ⟨_, rfl⟩
  rw [← hx] at SC
  by_cases h0 : x = 0
  · have HE := Lib.hid (show errRow cs rs = errC cs rs from by unfold errRow; rw [if_pos (by omega)])
    subst h0
    clear hx
    by_cases hlen : rs.length = cs.length
    · have HE2 := Lib.hid (show errRow cs rs = errP (cs.zip rs) from by rw [HE.out]; unfold errC; rw [if_pos hlen])
      obtain ⟨n, hn⟩ : ∃ n, n = cs.length := ⟨_, rfl⟩
      rw [hlen, ← hn] at hl2 hsm
      rw [← hn] at hl1
      have HN := Lib.hid hn
      have HL := Lib.hid hlen
      clear HE hn hlen
      go_enter Tryz.func11, Tryz.ntmps11
      go_wp2_with fail
      refine SC.out.mono ?_
      rintro e w1 ⟨rfl, hb⟩
      have HB1 := Lib.hid hb
      clear hb
      go_wp2
      go_loopw [6] (fun i wr => ∃ k : Nat, k ≤ n ∧ i = .int .i64 k ∧ Hid (errP ((cs.zip rs).take k) = 0) ∧ Hid (Below w.heap.size w wr)) (fun i _ => n - (intOf i).toNat)
      case atStart => exact ⟨0, by omega, rfl, Lib.hid rfl, HB1⟩
      case round =>
        clear HB1 SC
        obtain ⟨k, hk, rfl, HP, HB⟩ := hrel
        by_cases hlt : k < n
        · have k1 : k < cs.length := by rw [← HN.out]; exact hlt
          have k2 : k < rs.length := by rw [HL.out]; exact k1
          have hr1 := R1.out wr HB.out
          have hr2 := R2.out wr HB.out
          obtain ⟨ba, oa, hia, hca, _⟩ := hr1.get k1
          obtain ⟨bb, ob, hib, hcb, _⟩ := hr2.get k2
          obtain ⟨ca0, ca1⟩ := hca _ hr1
          obtain ⟨cb0, cb1⟩ := hcb _ hr2
          have HZ := Lib.hid (zip_get cs rs HL.out.symm k k1)
          have hce := hE.get k2
          have hcs := hC.get k1
          rcases hga : cs.getD k default with ⟨xa, ya⟩
          rcases hgb : rs.getD k default with ⟨xb, yb⟩
          rw [hga] at ca0 ca1 HZ hcs
          rw [hgb] at cb0 cb1 HZ hce
          dsimp only at ca0 ca1 cb0 cb1
          have hrs := CES.rdS hce
          obtain ⟨c, hc⟩ : ∃ c, c = checkC ya xb yb.data.toList := ⟨_, rfl⟩
          have CK := Lib.hid (show Calls Tryz.prog 26 #[.int .i64 ya, .agg #[.int .u64 (xb : Int), .string yb]] wr.drew fun e w' => e = .returned (.int .i64 (c : Int)) ∧ Below w.heap.size w w' ∧
              w'.cell? ⟨ba, oa + 1, none⟩ = some (.int .i64 ya) ∧ w'.cell? ⟨bb, ob, none⟩ = some (.int .u64 (xb : Int)) ∧ w'.cell? ⟨bb, ob + 1, none⟩ = some (.string yb) from by
            rw [hc]
            refine (ref_Check ya xb yb yb.data.toList wr.drew hrs hcs.2 hce.1).mono ?_
            rintro e w' ⟨he, hb⟩
            exact ⟨he, HB.out.trans ((Below.refl wr.heap.size wr).drew.trans hb |>.mono HB.out.size), keep_cell hb ca1, keep_cell hb cb0, keep_cell hb cb1⟩)
          have HC := Lib.hid (show errP ((cs.zip rs).take (k + 1)) = c from by rw [HZ.out, errP_snoc _ _ HP.out, hc]; rfl)
          clear hr1 hr2 hca hcb hga hgb hc hrs hcs hce k1 k2 HZ
          by_cases h0 : c = 0
          · subst h0
            go_wp2
            go_region_held3 (fun u => u.cell? ⟨ba, oa + 1, none⟩ = some (.int .i64 ya) ∧ u.cell? ⟨bb, ob, none⟩ = some (.int .u64 (xb : Int)) ∧ u.cell? ⟨bb, ob + 1, none⟩ = some (.string yb)) (first | go_keep | (exact ⟨m1, m2, m3⟩))
              ((go_at_call 26; refine CK.out.mono ?_; rintro e w' ⟨rfl, hb, m1, m2, m3⟩))
            have HB3 := Lib.hid hb
            clear hb m1 m2 m3 CK ca0 ca1 cb0 cb1 hia hib
            go_wp2
            go_roundw
            case rel => exact ⟨k + 1, by omega, by go_num, HC, HB3⟩
            case measure => simp [intOf]; omega
          · have q : ((c : Int) != 0) = true := by rw [bne_iff_ne]; omega
            go_wp2
            go_region_held3 (fun u => u.cell? ⟨ba, oa + 1, none⟩ = some (.int .i64 ya) ∧ u.cell? ⟨bb, ob, none⟩ = some (.int .u64 (xb : Int)) ∧ u.cell? ⟨bb, ob + 1, none⟩ = some (.string yb)) (first | go_keep | (exact ⟨m1, m2, m3⟩))
              ((go_at_call 26; refine CK.out.mono ?_; rintro e w' ⟨rfl, hb, m1, m2, m3⟩))
            have HB3 := Lib.hid hb
            clear hb m1 m2 m3 CK ca0 ca1 cb0 cb1 hia hib
            go_wp2
            go_ret
            exact ⟨by rw [HE2.out, errP_take (k := k + 1) (by rw [HC.out]; exact h0), HC.out]; rfl, HB3.out⟩
        · obtain rfl : k = n := by omega
          have HF := Lib.hid (show errP (cs.zip rs) = 0 from by
            have := HP.out
            rwa [List.take_of_length_le (by rw [List.length_zip, HL.out, ← HN.out]; omega)] at this)
          clear hlt
          go_wp2
          go_ret
          exact ⟨by rw [HE2.out, HF.out]; rfl, HB.out⟩
    · have HE2 := Lib.hid (show errRow cs rs = 2 from by rw [HE.out]; unfold errC; rw [if_neg hlen])
      have q : ((rs.length : Int) != (cs.length : Int)) = true := by rw [bne_iff_ne]; omega
      have q2 : (rs.length != cs.length) = true := by simpa using hlen
      clear hlen
      go_enter Tryz.func11, Tryz.ntmps11
      go_wp2_with fail
      refine SC.out.mono ?_
      rintro e w1 ⟨rfl, hb⟩
      have HB1 := Lib.hid hb
      clear hb
      go_wp2
      go_ret
      exact ⟨by rw [HE2.out]; rfl, HB1.out⟩
  · have HE := Lib.hid (show errRow cs rs = x from by unfold errRow; rw [if_neg (by omega), hx])
    have q : ((x : Int) != 0) = true := by rw [bne_iff_ne]; omega
    clear hx
    go_enter Tryz.func11, Tryz.ntmps11
    go_wp2_with fail
    refine SC.out.mono ?_
    rintro e w1 ⟨rfl, hb⟩
    have HB1 := Lib.hid hb
    clear hb
    go_wp2
    go_ret
    exact ⟨by rw [HE.out]; rfl, HB1.out⟩

/-- How many bytes texts have, round and round. -/
def sizeW (rs : List CellB) : Int := rs.foldl (fun n c => wrap64 (n + (c.2.size : Int))) 0
theorem sizeW_snoc {rs : List CellB} {k : Nat} (h : k < rs.length) : sizeW (rs.take (k + 1)) = wrap64 (sizeW (rs.take k) + ((rs.getD k default).2.size : Int)) := by
  rw [take_succD h default]; unfold sizeW; rw [List.foldl_append]; rfl

set_option maxHeartbeats 4000000 in
theorem row_Size (v : Value) (rs : List CellB) (w : World) (h : RdE w v rs) :
    Calls Tryz.prog 14 #[v] w fun e w' => e = .returned (.int .i64 (sizeW rs)) ∧ Below w.heap.size w w' := by
  have hl := h.len
  have hsm := h.small
  have H := Lib.hid h
  obtain ⟨n, hn⟩ : ∃ n, n = rs.length := ⟨_, rfl⟩
  rw [← hn] at hl hsm
  have HN := Lib.hid hn
  clear h hn
  go_enter Tryz.func14, Tryz.ntmps14
  go_wp2
  go_loopw [3, 8] (fun a i wr => ∃ (k : Nat) (x : Int), k ≤ n ∧ i = .int .i64 k ∧ a = .int .i64 x ∧ Hid (x = sizeW (rs.take k)) ∧ Hid (Below w.heap.size w wr)) (fun _ i _ => n - (intOf i).toNat)
  case atStart => exact ⟨0, 0, by omega, rfl, rfl, Lib.hid rfl, Lib.hid (Below.refl _ _)⟩
  case round =>
    obtain ⟨k, x, hk, rfl, rfl, HX, HB⟩ := hrel
    by_cases hlt : k < n
    · have hr := H.out.later HB.out (Nat.le_refl _)
      have k1 : k < rs.length := by rw [← HN.out]; exact hlt
      obtain ⟨b, o, hidx, hcell, hblk⟩ := hr.get k1
      obtain ⟨hc0, hc1⟩ := hcell _ hr
      have HS := Lib.hid (sizeW_snoc k1)
      rcases hcg : rs.getD k default with ⟨m, s⟩
      rw [hcg] at hc0 hc1 HS
      dsimp only at hc0 hc1
      have HB1 := Lib.hid (HB.out.alloc HB.out.size (.cells #[.int .u64 (m : Int), .string s] 45))
      clear hr hcell hcg k1 hblk
      go_wp2
      go_roundw
      case rel => exact ⟨k + 1, _, by omega, by go_num, rfl, Lib.hid (by rw [HS.out, HX.out]), HB1⟩
      case measure => simp [intOf]; omega
    · obtain rfl : k = n := by omega
      have HF := Lib.hid (show x = sizeW rs from by rw [HX.out, List.take_of_length_le (by rw [← HN.out]; exact Nat.le_refl _)])
      clear hlt
      go_wp2
      go_ret
      exact ⟨by rw [HF.out]; rfl, HB.out⟩

set_option maxHeartbeats 4000000 in
theorem ref_Size06 (v : Value) (rs : List CellB) (w : World) (h : RdE w v rs) :
    Calls Tryz.prog 15 #[v] w fun e w' => e = .returned (.int .i64 (sizeW rs)) ∧ Below w.heap.size w w' := by
  have hl := h.len
  have hsm := h.small
  have H := Lib.hid h
  obtain ⟨n, hn⟩ : ∃ n, n = rs.length := ⟨_, rfl⟩
  rw [← hn] at hl hsm
  have HN := Lib.hid hn
  clear h hn
  go_enter Tryz.func15, Tryz.ntmps15
  go_wp2
  go_loopw [3, 4] (fun a i wr => ∃ (k : Nat) (x : Int), k ≤ n ∧ i = .int .i64 k ∧ a = .int .i64 x ∧ Hid (x = sizeW (rs.take k)) ∧ Hid (Below w.heap.size w wr)) (fun _ i _ => n - (intOf i).toNat)
  case atStart => exact ⟨0, 0, by omega, rfl, rfl, Lib.hid rfl, Lib.hid (Below.refl _ _)⟩
  case round =>
    obtain ⟨k, x, hk, rfl, rfl, HX, HB⟩ := hrel
    by_cases hlt : k < n
    · have hr := H.out.later HB.out (Nat.le_refl _)
      have k1 : k < rs.length := by rw [← HN.out]; exact hlt
      obtain ⟨b, o, hidx, hcell, hblk⟩ := hr.get k1
      obtain ⟨hc0, hc1⟩ := hcell _ hr
      have HS := Lib.hid (sizeW_snoc k1)
      rcases hcg : rs.getD k default with ⟨m, s⟩
      rw [hcg] at hc0 hc1 HS
      dsimp only at hc0 hc1
      clear hr hcell hcg k1 hblk
      go_wp2
      go_roundw
      case rel => exact ⟨k + 1, _, by omega, by go_num, rfl, Lib.hid (by rw [HS.out, HX.out]), HB⟩
      case measure => simp [intOf]; omega
    · obtain rfl : k = n := by omega
      have HF := Lib.hid (show x = sizeW rs from by rw [HX.out, List.take_of_length_le (by rw [← HN.out]; exact Nat.le_refl _)])
      clear hlt
      go_wp2
      go_ret
      exact ⟨by rw [HF.out]; rfl, HB.out⟩

theorem eqE_step {cs ds : List CellB} {k : Nat} (h1 : k < cs.length) (h2 : k < ds.length) (h : cs.take k = ds.take k) (he : cs.getD k default = ds.getD k default) : cs.take (k + 1) = ds.take (k + 1) := by
  rw [take_succD h1 default, take_succD h2 default, h, he]

set_option maxHeartbeats 4000000 in
theorem ref_Same06 (v1 v2 : Value) (cs ds : List CellB) (w : World) (h1 : RdE w v1 cs) (h2 : RdE w v2 ds) :
    Calls Tryz.prog 17 #[v1, v2] w fun e w' => e = .returned (.bool (decide (cs = ds))) ∧ Below w.heap.size w w' := by
  have hl1 := h1.len
  have hl2 := h2.len
  have hs1 := h1.small
  have hs2 := h2.small
  by_cases hn : cs.length = ds.length
  · obtain ⟨n, hn1⟩ : ∃ n, n = cs.length := ⟨_, rfl⟩
    have hn2 : n = ds.length := by omega
    rw [← hn1] at hl1 hs1
    rw [← hn2] at hl2
    have HN1 := Lib.hid hn1
    have HN2 := Lib.hid hn2
    have H1 := Lib.hid h1
    have H2 := Lib.hid h2
    have hb0 := Lib.hid (Below.refl w.heap.size w)
    clear hn hn1 hn2 h1 h2 hs2
    go_enter Tryz.func17, Tryz.ntmps17
    go_wp2
    go_loopw [5] (fun i wr => ∃ k : Nat, k ≤ n ∧ i = .int .i64 k ∧ Hid (cs.take k = ds.take k) ∧ Hid (Below w.heap.size w wr)) (fun i _ => n - (intOf i).toNat)
    case atStart => exact ⟨0, by omega, rfl, Lib.hid rfl, hb0⟩
    case round =>
      obtain ⟨k, hk, rfl, HT, HB⟩ := hrel
      clear hb0
      by_cases hlt : k < n
      · have hr1 := H1.out.later HB.out (Nat.le_refl _)
        have hr2 := H2.out.later HB.out (Nat.le_refl _)
        have k1 : k < cs.length := by rw [← HN1.out]; exact hlt
        have k2 : k < ds.length := by rw [← HN2.out]; exact hlt
        obtain ⟨b1, o1, hi1, hc1, hb1⟩ := hr1.get k1
        obtain ⟨b2, o2, hi2, hc2, hb2⟩ := hr2.get k2
        obtain ⟨c10, c11⟩ := hc1 _ hr1
        obtain ⟨c20, c21⟩ := hc2 _ hr2
        have hes := Lib.hid (fun he => eqE_step k1 k2 HT.out he)
        have hne := Lib.hid (show cs.getD k default ≠ ds.getD k default → cs ≠ ds from fun h hh => h (by rw [hh]))
        clear hr1 hr2 hc1 hc2 k1 k2
        rcases hcg : cs.getD k default with ⟨kd, s⟩
        rcases hdg : ds.getD k default with ⟨ke, t⟩
        rw [hcg] at c10 c11
        rw [hdg] at c20 c21
        rw [hcg, hdg] at hes hne
        dsimp only at c10 c11 c20 c21
        clear hcg hdg
        by_cases hke : kd = ke
        · subst hke
          by_cases hst : s = t
          · subst hst
            have HES := Lib.hid (hes.out rfl)
            clear hes hne
            go_wp2
            go_quiet (fail)
            go_wp2
            go_roundw
            case rel => exact ⟨k + 1, by omega, by go_num, HES, Lib.hid (below_drewN HB.out _)⟩
            case measure => simp [intOf]; omega
          · have HF := Lib.hid (show decide (cs = ds) = false from decide_eq_false (hne.out (fun h => hst (by injection h))))
            obtain ⟨q1, q2⟩ := str_ne hst
            clear hst
            clear hes hne
            go_wp2
            go_quiet (fail)
            go_wp2
            go_ret
            exact ⟨by rw [HF.out]; rfl, below_drewN HB.out _⟩
        · have HF := Lib.hid (show decide (cs = ds) = false from decide_eq_false (hne.out (fun h => hke (by injection h))))
          have q1 : ((kd : Int) == (ke : Int)) = false := by rw [beq_eq_false_iff_ne]; omega
          have q2 : ((kd : Int) != (ke : Int)) = true := by rw [bne_iff_ne]; omega
          have q3 : (kd == ke) = false := by simpa using hke
          have q4 : (kd != ke) = true := by simpa using hke
          clear hke
          clear hes hne
          go_wp2
          go_quiet (fail)
          go_wp2
          go_ret
          exact ⟨by rw [HF.out]; rfl, below_drewN HB.out _⟩
      · obtain rfl : k = n := by omega
        have HF := Lib.hid (show decide (cs = ds) = true from decide_eq_true (by
          have := HT.out
          rwa [List.take_of_length_le (by rw [← HN1.out]; exact Nat.le_refl _), List.take_of_length_le (by rw [← HN2.out]; exact Nat.le_refl _)] at this))
        clear hlt
        go_wp2
        go_ret
        exact ⟨by rw [HF.out]; rfl, HB.out⟩
  · have q : ((cs.length : Int) != (ds.length : Int)) = true := by rw [bne_iff_ne]; omega
    have q' : (cs.length != ds.length) = true := by simpa using hn
    have HF := Lib.hid (show decide (cs = ds) = false from decide_eq_false (fun h => hn (by rw [h])))
    clear hn h1 h2
    go_enter Tryz.func17, Tryz.ntmps17
    go_wp2
    go_ret
    exact ⟨by rw [HF.out]; rfl, Below.refl _ _⟩

end Go.Proofs.YtkljkpffpdpphaaGreatDoor
