/-
  The document's own answers for layer 6: Text, of a row that may be.
-/
import Derived.Test.YtfpidkcdgebnpaaGreatDoorGLaws
import Derived.Test.YtfpidkcdgebnpaaGreatDoorGHex
import Derived.Test.YtfpidkcdgebnpaaGreatDoorGRow
import Derived.Test.YtfpidkcdgebnpaaGreatDoorGReadMath
import Derived.Test.YtfpidkcdgebnpaaGreatDoorGRowIO
import Derived.Test.YtfpidkcdgebnpaaGreatDoorGSchema
import Derived.Test.YtfpidkcdgebnpaaGreatDoorGRefRead
import Derived.Deep.RegionHeld3
import Derived.Test.YtfpidkcdgebnpaaGreatDoorGZDefs
set_option linter.unusedVariables false
set_option linter.unusedSimpArgs false
set_option maxRecDepth 1000000
namespace Go.Proofs.YtfpidkcdgebnpaaGreatDoor
open Go.RowKit Go.Shelf

theorem textL_succ {cs : List ColB} {rs : List CellB} (hl : cs.length = rs.length) {k : Nat} (h : k < cs.length) : Lib.join (((cs.zip rs).take (k + 1)).map txP) [44] = if k = 0 then txP (cs.getD k default, rs.getD k default) else Lib.join (((cs.zip rs).take k).map txP) [44] ++ [44] ++ txP (cs.getD k default, rs.getD k default) := by
  rw [zip_get cs rs hl k h, List.map_append, List.map_singleton, join_snoc]
  by_cases h0 : k = 0
  · rw [if_pos h0, if_pos (by rw [h0]; rfl)]
  · rw [if_neg h0, if_neg (by
      intro e
      have := congrArg List.length e
      rw [List.length_map, List.length_take, List.length_zip, List.length_nil] at this
      omega)]

set_option maxHeartbeats 8000000 in
theorem ref_Text06 (v1 v2 : Value) (cs : List ColB) (rs : List CellB) (w : World) (h1 : RdC w v1 cs) (h2 : RdE w v2 rs) (hC : CS cs) (hE : CES rs) (h0 : errRow cs rs = 0) :
    Calls Tryz.prog 63 #[v1, v2] w fun e w' => (∃ t, e = .returned (.string t) ∧ RdS t (textR cs rs)) ∧ Below w.heap.size w w' := by
  have hxl := errRow_len h0
  have hz8 := errS_zero hxl.1
  rw [colsL_length] at hz8
  have hc8 := hz8.2.1
  have hl2 := h2.len
  have hsm := h2.small
  have R1 := Lib.hid (fun wz (hz : Below w.heap.size w wz) => h1.later hz (Nat.le_refl _))
  have R2 := Lib.hid (fun wz (hz : Below w.heap.size w wz) => h2.later hz (Nat.le_refl _))
  obtain ⟨n, hn⟩ : ∃ n, n = cs.length := ⟨_, rfl⟩
  rw [hxl.2.1, ← hn] at hl2 hsm
  rw [← hn] at hc8
  have HN := Lib.hid hn
  have HL := Lib.hid hxl.2.1.symm
  have HP := Lib.hid (errP_zero hxl.2.2)
  have HB0 := Lib.hid (Below.refl w.heap.size w)
  clear h1 h2 hxl hz8 hn h0
  go_enter Tryz.func63, Tryz.ntmps63
  go_wp2
  go_loopw [5, 6] (fun a i wr => ∃ (k : Nat) (tb : ByteArray), k ≤ n ∧ i = .int .i64 k ∧ a = .string tb ∧ Hid (Below w.heap.size w wr) ∧ Hid (tb = ⟨(Lib.join (((cs.zip rs).take k).map txP) [44]).toArray⟩) ∧ tb.size ≤ 600 * k) (fun _ i _ => n - (intOf i).toNat)
  case atStart => exact ⟨0, _, by omega, rfl, rfl, HB0, Lib.hid rfl, by decide⟩
  case round =>
    clear HB0
    obtain ⟨k, tb, hk, rfl, rfl, HB, HT, htz⟩ := hrel
    by_cases hlt : k < n
    · have k1 : k < cs.length := by rw [← HN.out]; exact hlt
      have k2 : k < rs.length := by rw [← HL.out]; exact k1
      have hr1 := R1.out wr HB.out
      have hr2 := R2.out wr HB.out
      obtain ⟨ba, oa, hia, hca, _⟩ := hr1.get k1
      obtain ⟨bb, ob, hib, hcb, _⟩ := hr2.get k2
      obtain ⟨ca0, ca1⟩ := hca _ hr1
      obtain ⟨cb0, cb1⟩ := hcb _ hr2
      have hce := hE.get k2
      have hchk := HP.out _ (zip_mem cs rs HL.out k k1)
      have hts := textL_succ HL.out k1
      rcases hga : cs.getD k default with ⟨xa, ya⟩
      rcases hgb : rs.getD k default with ⟨xb, yb⟩
      rw [hga] at ca0 ca1
      rw [hgb] at cb0 cb1 hce
      rw [hga, hgb] at hchk hts
      dsimp only at ca0 ca1 cb0 cb1
      obtain ⟨hkk, _, _, hk2, _, _⟩ := check_zero hchk
      have hsz := (txP_small hce.1 hchk).1
      have CK := Lib.hid (show Calls Tryz.prog 92 #[.int .i64 ya, .agg #[.int .u64 (xb : Int), .string yb]] wr.drew fun e w' => (∃ t, e = .returned (.string t) ∧ t = ⟨(txP ((xa, ya), (xb, yb))).toArray⟩ ∧ t.size ≤ 512) ∧ Below w.heap.size w w' ∧
          w'.cell? ⟨ba, oa + 1, none⟩ = some (.int .i64 ya) ∧ w'.cell? ⟨bb, ob, none⟩ = some (.int .u64 (xb : Int)) ∧ w'.cell? ⟨bb, ob + 1, none⟩ = some (.string yb) from by
        refine (ref_Text ya xb yb yb.data.toList wr.drew hkk hce.1 (fun h => by have := hk2 h; dsimp only at this; omega) (CES.rdS hce) (by have := (check_zero hchk).2.2.2.2.2; dsimp only at this; omega)).mono ?_
        rintro e w' ⟨⟨t, he, ht⟩, hb⟩
        rw [← textK_textC ya hkk xb hce.1 (fun h => hk2 h)] at ht
        exact ⟨⟨t, he, ht.eq, by rw [ht.size]; exact hsz⟩, HB.out.trans ((Below.refl wr.heap.size wr).drew.trans hb |>.mono HB.out.size), keep_cell hb ca1, keep_cell hb cb0, keep_cell hb cb1⟩)
      have HTS := Lib.hid hts
      clear hr1 hr2 hca hcb hga hgb hce hchk hts k1 k2 ca0 hkk hk2 hsz
      by_cases hk0 : k = 0
      · subst hk0
        rw [show ((0 : Nat) : Int) = 0 from rfl] at hia hib
        go_wp2
        go_region_held3 (fun u => u.cell? ⟨ba, oa + 1, none⟩ = some (.int .i64 ya) ∧ u.cell? ⟨bb, ob, none⟩ = some (.int .u64 (xb : Int)) ∧ u.cell? ⟨bb, ob + 1, none⟩ = some (.string yb)) (first | go_keep | (exact ⟨m1, m2, m3⟩))
          ((go_at_call 92; refine CK.out.mono ?_; rintro e w' ⟨⟨t, rfl, ht, hts⟩, hb, m1, m2, m3⟩; have hZ := Lib.hid ht; clear ht; have p1 : ¬ (9223372036854775807 < tb.size + t.size) := by omega))
        have HB3 := Lib.hid hb
        have HTn := Lib.hid (show tb ++ t = ⟨(Lib.join (((cs.zip rs).take (0 + 1)).map txP) [44]).toArray⟩ from by
          have e1 := HT.out
          have e2 := HTS.out
          rw [if_pos trivial] at e2
          rw [e1, hZ.out, e2]
          apply ByteArray.ext
          simp [Lib.join])
        have hsz3 : (tb ++ t).size ≤ 600 * (0 + 1) := by rw [ByteArray.size_append]; omega
        clear hb m1 m2 m3 hZ hia hib ca1 cb0 cb1 p1 CK
        go_wp2
        go_roundw
        case rel => exact ⟨0 + 1, _, by omega, by go_num, rfl, HB3, HTn, hsz3⟩
        case measure => simp [intOf]; omega
      · have d1 : decide ((k : Int) > 0) = true := decide_eq_true (by omega)
        have p0 : ¬ (9223372036854775807 < tb.size + 1) := by omega
        have p00 : ¬ (9223372036854775807 < tb.size + (⟨#[44]⟩ : ByteArray).size) := by
          have : (⟨#[44]⟩ : ByteArray).size = 1 := rfl
          omega
        have hz44 : (tb ++ (⟨#[44]⟩ : ByteArray)).size = tb.size + 1 := by rw [ByteArray.size_append]; rfl
        have HZ44 := Lib.hid hz44
        clear hz44
        go_wp2
        obtain ⟨tc, htc⟩ : ∃ tc : ByteArray, tc = tb ++ (⟨#[44]⟩ : ByteArray) := ⟨_, rfl⟩
        rw [← htc]
        have hcz : tc.size = tb.size + 1 := by rw [htc]; exact HZ44.out
        have hcz' : tc.size ≤ 600 * k + 1 := by omega
        have HTC := Lib.hid htc
        clear htc hcz
        go_region_held3 (fun u => u.cell? ⟨ba, oa + 1, none⟩ = some (.int .i64 ya) ∧ u.cell? ⟨bb, ob, none⟩ = some (.int .u64 (xb : Int)) ∧ u.cell? ⟨bb, ob + 1, none⟩ = some (.string yb)) (first | go_keep | (exact ⟨m1, m2, m3⟩))
          ((go_at_call 92; refine CK.out.mono ?_; rintro e w' ⟨⟨t, rfl, ht, hts⟩, hb, m1, m2, m3⟩; have hZ := Lib.hid ht; clear ht; have p1 : ¬ (9223372036854775807 < tc.size + t.size) := by omega))
        have HB3 := Lib.hid hb
        have HTn := Lib.hid (show tc ++ t = ⟨(Lib.join (((cs.zip rs).take (k + 1)).map txP) [44]).toArray⟩ from by
          have e1 := HT.out
          have e2 := HTS.out
          rw [if_neg hk0] at e2
          rw [HTC.out, e1, hZ.out, e2]
          apply ByteArray.ext
          simp)
        have hsz3 : (tc ++ t).size ≤ 600 * (k + 1) := by rw [ByteArray.size_append]; omega
        clear hb m1 m2 m3 hZ hia hib ca1 cb0 cb1 p0 p00 p1 CK
        go_wp2
        go_roundw
        case rel => exact ⟨k + 1, _, by omega, by go_num, rfl, HB3, HTn, hsz3⟩
        case measure => simp [intOf]; omega
    · obtain rfl : k = n := by omega
      have HF := Lib.hid (show tb = ⟨(textR cs rs).toArray⟩ from by
        have := HT.out
        rwa [List.take_of_length_le (by rw [List.length_zip, ← HL.out, ← HN.out]; omega)] at this)
      clear hlt
      go_wp2
      go_ret
      exact ⟨⟨tb, rfl, HF.out, by have h9 : (textR cs rs).length = tb.size := by rw [HF.out]; simp [ByteArray.size]
                                  rw [h9]; omega⟩, HB.out⟩

end Go.Proofs.YtfpidkcdgebnpaaGreatDoor


/-
  The document's own answers for layer 6: Read.
-/
namespace Go.Proofs.YtfpidkcdgebnpaaGreatDoor
open Go.RowKit Go.Shelf

set_option maxHeartbeats 8000000 in
theorem ref_Read06F (v1 : Value) (t : ByteArray) (cs : List ColB) (l : List UInt8) (w : World) (h1 : RdC w v1 cs) (ht : RdS t l) (hC : CS cs) (hl : l.length ≤ 100000) :
    Calls Tryz.prog 61 #[v1, .string t] w (RdRowF w cs l) := by
  have hl1 := h1.len
  have R1 := Lib.hid (fun wz (hz : Below w.heap.size w wz) => h1.later hz (Nat.le_refl _))
  obtain ⟨x, hx⟩ : ∃ x, x = errS (colsL cs) := ⟨_, rfl⟩
  have SC := Lib.hid (show Calls Tryz.prog 40 #[v1] w fun e w' => e = .returned (.int .i64 (x : Int)) ∧ Below w.heap.size w w' from by
    rw [hx]; exact ref_Check05 v1 cs w h1 hC)
  obtain ⟨n, hn⟩ : ∃ n, n = cs.length := ⟨_, rfl⟩
  rw [← hn] at hl1
  have HN := Lib.hid hn
  have CU := Lib.hid (fun wz => ref_Cut05 44 t l wz ht hl)
  rw [show (((44 : UInt8).toNat : Nat) : Int) = 44 from rfl] at CU
  clear h1 hn ht
  by_cases h0 : x = 0
  · have hz8 := errS_zero (show errS (colsL cs) = 0 from by omega)
    rw [colsL_length, ← HN.out] at hz8
    obtain ⟨hn0, hn8, _, _⟩ := hz8
    subst h0
    rw [show ((0 : Nat) : Int) = 0 from rfl] at SC
    by_cases hcut : (cutL 44 l).length = n
    · have HC := Lib.hid hcut
      have HE := Lib.hid (show rowE cs l = errQ (cs.zip (strL (cutL 44 l))) from by unfold rowE; rw [if_neg (by omega), if_neg (by rw [hcut, HN.out]; simp)]; rfl)
      have hlz : cs.length = (strL (cutL 44 l)).length := by rw [strL_length, hcut, HN.out]
      have HLZ := Lib.hid hlz
      clear hx hcut hlz
      go_enter Tryz.func61, Tryz.ntmps61
      go_wp2_with fail
      refine SC.out.mono ?_
      rintro e w1 ⟨rfl, hb⟩
      have B1 := Lib.hid hb
      clear hb SC
      go_wp2_with fail
      refine (CU.out w1).mono ?_
      rintro e w2 ⟨pv, rfl, hO, hb⟩
      have B2 := Lib.hid (B1.out.trans (hb.mono B1.out.size))
      have hsl : (strL (cutL 44 l)).length = n := by rw [strL_length, HC.out]
      have hss := hO.rd (by rw [hsl]; omega)
      have hlp := hss.len
      rw [hsl] at hlp
      have P1 := Lib.hid (fun wz (hz : Below w2.heap.size w2 wz) => hss.later hz (Nat.le_refl _))
      have HB2 := Lib.hid (Below.refl w2.heap.size w2)
      have HO0 := Lib.hid (OwnE.nil w2 w2.heap.size)
      clear hb hO hss hsl CU
      go_wp2
      go_loopw [8, 9] (fun a i wr => ∃ k : Nat, k ≤ n ∧ i = .int .i64 k ∧ Hid (OwnE wr w2.heap.size a (cellsQ ((cs.zip (strL (cutL 44 l))).take k))) ∧ Hid (Below w2.heap.size w2 wr) ∧ Hid (errQ ((cs.zip (strL (cutL 44 l))).take k) = 0)) (fun _ i _ => n - (intOf i).toNat)
      case atStart => exact ⟨0, by omega, rfl, HO0, HB2, Lib.hid rfl⟩
      case round =>
        clear HB2 HO0
        obtain ⟨k, hk, rfl, HO, HB, HP⟩ := hrel
        by_cases hlt : k < n
        · have k1 : k < cs.length := by rw [← HN.out]; exact hlt
          have k2 : k < (strL (cutL 44 l)).length := by rw [← HLZ.out]; exact k1
          have HBw := Lib.hid (B2.out.trans (HB.out.mono B2.out.size))
          have hr1 := R1.out wr HBw.out
          have hr2 := P1.out wr HB.out
          obtain ⟨ba, oa, hia, hca, _⟩ := hr1.get k1
          obtain ⟨bb, ob, hib, hcb, _⟩ := hr2.get k2
          obtain ⟨ca0, ca1⟩ := hca _ hr1
          have cb0 := hcb _ hr2
          have hzk := zip_get cs (strL (cutL 44 l)) HLZ.out k k1
          have hsx : RdS ((strL (cutL 44 l)).getD k default) ((strL (cutL 44 l)).getD k default).data.toList := by
            have hmem : (strL (cutL 44 l)).getD k default ∈ strL (cutL 44 l) := by
              rw [show (strL (cutL 44 l)).getD k default = (strL (cutL 44 l))[k] from by simp [List.getD, k2]]
              exact List.getElem_mem _
            generalize (strL (cutL 44 l)).getD k default = z at hmem ⊢
            unfold strL at hmem
            obtain ⟨p, hp9, rfl⟩ := List.mem_map.1 hmem
            exact ⟨rfl, by have := cutL_part 44 l p hp9; simp; omega⟩
          rcases hga : cs.getD k default with ⟨xa, ya⟩
          obtain ⟨xb, hgb⟩ : ∃ xb, xb = (strL (cutL 44 l)).getD k default := ⟨_, rfl⟩
          rw [hga] at ca0 ca1 hzk
          rw [← hgb] at cb0 hzk hsx
          dsimp only at ca0 ca1
          obtain ⟨c, hc⟩ : ∃ c, c = cellO (rdo ((xa, ya), xb)) := ⟨_, rfl⟩
          obtain ⟨j, hj⟩ : ∃ j, j = codeO (rdo ((xa, ya), xb)) := ⟨_, rfl⟩
          have CR := Lib.hid (fun wz (hz : Below wr.heap.size wr wz) => (show Calls Tryz.prog 90 #[.int .i64 ya, .string xb] wz fun e w' => e = .returned (.tuple #[.agg #[.int .u64 (c.1 : Int), .string c.2], .int .i64 (j : Int)]) ∧ Below wz.heap.size wz w' ∧
              w'.cell? ⟨ba, oa + 1, none⟩ = some (.int .i64 ya) ∧ w'.cell? ⟨bb, ob, none⟩ = some (.string xb) from by
            refine (ref_Read ya xb xb.data.toList wz hsx).mono ?_
            rintro e w' ⟨he, hb⟩
            rw [← readR_eq] at he
            exact ⟨by rw [rdVal_of he, rdVal_co, hc, hj]; rfl, hb, keep_cell hb (keep_cell hz ca1), keep_cell hb (keep_cell hz cb0)⟩))
          have HEQ := Lib.hid (show errQ ((cs.zip (strL (cutL 44 l))).take (k + 1)) = j from by rw [hzk, errQ_snoc _ _ HP.out, hj])
          have HCQ := Lib.hid (show cellsQ ((cs.zip (strL (cutL 44 l))).take (k + 1)) = cellsQ ((cs.zip (strL (cutL 44 l))).take k) ++ [c] from by rw [hzk]; unfold cellsQ; rw [List.map_append, hc]; rfl)
          rcases c with ⟨cn, ct⟩
          have hn1 := World.new_ne wr ⟨ba, oa + 1, none⟩ ca1
          have hn2 := World.new_ne wr ⟨bb, ob, none⟩ cb0
          clear hr1 hr2 hca hcb hga hgb hc hj hsx hzk k1 k2 ca0
          by_cases h0 : j = 0
          · subst h0
            rw [show ((0 : Nat) : Int) = 0 from rfl] at CR
            go_wp2
            go_region_held3 (fun u => u.cell? ⟨ba, oa + 1, none⟩ = some (.int .i64 ya) ∧ u.cell? ⟨bb, ob, none⟩ = some (.string xb)) (first | go_keep | (exact ⟨m1, m2⟩))
              ((go_at_call 90; refine (CR.out _ (by first | exact (Below.refl wr.heap.size wr).drew | exact ((Below.refl wr.heap.size wr).drew).alloc (Nat.le_refl _) _)).mono ?_; rintro e w' ⟨rfl, hb, m1, m2⟩; try (have m5 : w'.heap[wr.heap.size]? = some (.cells #[.int .u64 0, .string ⟨#[]⟩] 71 (0, 0)) := (hb.block _ (by simp)).trans (heap_alloc_new wr.drew _); have m6 := new_cellC m5 (i := 0) rfl; have m7 := new_cellC m5 (i := 1) rfl; have m8 := frozen_of_row w' wr.heap.size 0 _ _ m5; have m9 := frozen_of_row w' wr.heap.size 1 _ _ m5)))
            · have q6 : (w'.alloc (.cells #[.int .u64 (cn : Int), .string ct] 71)).heap[w'.heap.size]? = some (.cells #[.int .u64 (cn : Int), .string ct] 71 (0, 0)) := heap_alloc_new w' _
              have b6 : Below wr.heap.size wr (w'.alloc (.cells #[.int .u64 (cn : Int), .string ct] 71)) := ((Below.refl wr.heap.size wr).drew.trans hb).alloc (by have := hb.size; exact this) _
              generalize w'.alloc (.cells #[.int .u64 (cn : Int), .string ct] 71) = W6 at q6 b6 ⊢
              generalize w'.heap.size = P at q6 ⊢
              have HB6 := Lib.hid b6
              have hws6 : wr.heap.size ≤ W6.heap.size := b6.size
              have e1 := new_cellC q6 (i := 0) rfl
              have e2 := new_cellC q6 (i := 1) rfl
              have HOA := Lib.hid ((HO.out.later b6 (Nat.le_refl _)).alloc (.cells #[.int .u64 (cn : Int), .string ct] 71))
              have HBA := Lib.hid (((HB.out.trans (b6.mono HB.out.size))).alloc (by have := HB.out.size; omega) (.cells #[.int .u64 (cn : Int), .string ct] 71))
              have hone := one_cellv W6 (cn, ct)
              have HONE := Lib.hid hone
              have hpl : (cellsQ ((cs.zip (strL (cutL 44 l))).take k)).length ≤ k := by simp only [cellsQ, List.length_map, List.length_take]; omega
              have hn6 : ((cellsQ ((cs.zip (strL (cutL 44 l))).take k)).length + 1) * 24 ≤ 140737488355328 := by omega
              have hz6 : w2.heap.size ≤ (W6.alloc (.cells #[.int .u64 (cn : Int), .string ct] 71)).heap.size := by have := HB.out.size; simp; omega
              clear hb b6 q6 hone hpl m1 m2 ca1 cb0 hia hib CR hn1 hn2
              go_wp2_with (with_reducible refine wplE_append w2.heap.size _ ?hs1 HOA.out ⟨W6.heap.size, 0, none⟩ (cn, ct) ?hx1 HONE.out hn6 hz6 w2.heap.size w2 HBA.out (Nat.le_refl _) ?_)
              all_goals (try rfl)
              intro v7 w7 hO7 hB7 hg7
              have HO7 := Lib.hid (show OwnE w7 w2.heap.size v7 (cellsQ ((cs.zip (strL (cutL 44 l))).take (k + 1))) from by rw [HCQ.out]; exact hO7)
              have HB7 := Lib.hid hB7
              clear hO7 hB7 hg7 e1 e2
              go_wp2
              go_roundw
              case rel => exact ⟨k + 1, by omega, by go_num, HO7, HB7, HEQ⟩
              case measure => simp [intOf]; omega
            · have q6 : ((w'.setCell ⟨wr.heap.size, 0, none⟩ (.int .u64 (cn : Int))).setCell ⟨wr.heap.size, 1, none⟩ (.string ct)).heap[wr.heap.size]? = some (.cells #[.int .u64 (cn : Int), .string ct] 71 (0, 0)) := block_setCell (k := 1) (block_setCell (k := 0) m5 _) _
              have b6 : Below wr.heap.size wr ((w'.setCell ⟨wr.heap.size, 0, none⟩ (.int .u64 (cn : Int))).setCell ⟨wr.heap.size, 1, none⟩ (.string ct)) := (((((Below.refl wr.heap.size wr).drew).alloc (Nat.le_refl _) _).trans (hb.mono (by simp))).setCell (p := ⟨wr.heap.size, 0, none⟩) (Nat.le_refl _) _).setCell (p := ⟨wr.heap.size, 1, none⟩) (Nat.le_refl _) _
              generalize (w'.setCell ⟨wr.heap.size, 0, none⟩ (.int .u64 (cn : Int))).setCell ⟨wr.heap.size, 1, none⟩ (.string ct) = W6 at q6 b6 ⊢
              obtain ⟨P, hP⟩ : ∃ P, P = wr.heap.size := ⟨_, rfl⟩
              rw [← hP] at q6 ⊢
              clear m5 m6 m7 m8 m9 hP
              have HB6 := Lib.hid b6
              have hws6 : wr.heap.size ≤ W6.heap.size := b6.size
              have e1 := new_cellC q6 (i := 0) rfl
              have e2 := new_cellC q6 (i := 1) rfl
              have HOA := Lib.hid ((HO.out.later b6 (Nat.le_refl _)).alloc (.cells #[.int .u64 (cn : Int), .string ct] 71))
              have HBA := Lib.hid (((HB.out.trans (b6.mono HB.out.size))).alloc (by have := HB.out.size; omega) (.cells #[.int .u64 (cn : Int), .string ct] 71))
              have hone := one_cellv W6 (cn, ct)
              have HONE := Lib.hid hone
              have hpl : (cellsQ ((cs.zip (strL (cutL 44 l))).take k)).length ≤ k := by simp only [cellsQ, List.length_map, List.length_take]; omega
              have hn6 : ((cellsQ ((cs.zip (strL (cutL 44 l))).take k)).length + 1) * 24 ≤ 140737488355328 := by omega
              have hz6 : w2.heap.size ≤ (W6.alloc (.cells #[.int .u64 (cn : Int), .string ct] 71)).heap.size := by have := HB.out.size; simp; omega
              clear hb b6 q6 hone hpl m1 m2 ca1 cb0 hia hib CR hn1 hn2
              go_wp2_with (with_reducible refine wplE_append w2.heap.size _ ?hs2 HOA.out ⟨W6.heap.size, 0, none⟩ (cn, ct) ?hx2 HONE.out hn6 hz6 w2.heap.size w2 HBA.out (Nat.le_refl _) ?_)
              all_goals (try rfl)
              intro v7 w7 hO7 hB7 hg7
              have HO7 := Lib.hid (show OwnE w7 w2.heap.size v7 (cellsQ ((cs.zip (strL (cutL 44 l))).take (k + 1))) from by rw [HCQ.out]; exact hO7)
              have HB7 := Lib.hid hB7
              clear hO7 hB7 hg7 e1 e2
              go_wp2
              go_roundw
              case rel => exact ⟨k + 1, by omega, by go_num, HO7, HB7, HEQ⟩
              case measure => simp [intOf]; omega
          · have q : ((j : Int) != 0) = true := by rw [bne_iff_ne]; omega
            go_wp2
            go_region_held3 (fun u => u.cell? ⟨ba, oa + 1, none⟩ = some (.int .i64 ya) ∧ u.cell? ⟨bb, ob, none⟩ = some (.string xb)) (first | go_keep | (exact ⟨m1, m2⟩))
              ((go_at_call 90; refine (CR.out _ (by first | exact (Below.refl wr.heap.size wr).drew | exact ((Below.refl wr.heap.size wr).drew).alloc (Nat.le_refl _) _)).mono ?_; rintro e w' ⟨rfl, hb, m1, m2⟩; try (have m5 : w'.heap[wr.heap.size]? = some (.cells #[.int .u64 0, .string ⟨#[]⟩] 71 (0, 0)) := (hb.block _ (by simp)).trans (heap_alloc_new wr.drew _); have m6 := new_cellC m5 (i := 0) rfl; have m7 := new_cellC m5 (i := 1) rfl; have m8 := frozen_of_row w' wr.heap.size 0 _ _ m5; have m9 := frozen_of_row w' wr.heap.size 1 _ _ m5)))
            · have q6 : (w'.alloc (.cells #[.int .u64 (cn : Int), .string ct] 71)).heap[w'.heap.size]? = some (.cells #[.int .u64 (cn : Int), .string ct] 71 (0, 0)) := heap_alloc_new w' _
              have b6 : Below wr.heap.size wr (w'.alloc (.cells #[.int .u64 (cn : Int), .string ct] 71)) := ((Below.refl wr.heap.size wr).drew.trans hb).alloc (by have := hb.size; exact this) _
              generalize w'.alloc (.cells #[.int .u64 (cn : Int), .string ct] 71) = W6 at q6 b6 ⊢
              generalize w'.heap.size = P at q6 ⊢
              have HB6 := Lib.hid (HBw.out.trans (b6.mono HBw.out.size))
              clear hb b6 q6 m1 m2 ca1 cb0 hia hib CR hn1 hn2
              go_wp2
              go_ret2
              have hE0 : rowE cs l = j := by rw [HE.out, errQ_take (k := k + 1) (by rw [HEQ.out]; exact h0), HEQ.out]
              have hrow : rowC cs l = [] := by unfold rowC; rw [if_neg (by rw [hE0]; exact h0)]
              exact ⟨_, by rw [hE0]; rfl, HB6.out, by rw [hrow]; exact RdE.nil _, by rw [hrow]; exact farR_nil _ _⟩
            · have q6 : ((w'.setCell ⟨wr.heap.size, 0, none⟩ (.int .u64 (cn : Int))).setCell ⟨wr.heap.size, 1, none⟩ (.string ct)).heap[wr.heap.size]? = some (.cells #[.int .u64 (cn : Int), .string ct] 71 (0, 0)) := block_setCell (k := 1) (block_setCell (k := 0) m5 _) _
              have b6 : Below wr.heap.size wr ((w'.setCell ⟨wr.heap.size, 0, none⟩ (.int .u64 (cn : Int))).setCell ⟨wr.heap.size, 1, none⟩ (.string ct)) := (((((Below.refl wr.heap.size wr).drew).alloc (Nat.le_refl _) _).trans (hb.mono (by simp))).setCell (p := ⟨wr.heap.size, 0, none⟩) (Nat.le_refl _) _).setCell (p := ⟨wr.heap.size, 1, none⟩) (Nat.le_refl _) _
              generalize (w'.setCell ⟨wr.heap.size, 0, none⟩ (.int .u64 (cn : Int))).setCell ⟨wr.heap.size, 1, none⟩ (.string ct) = W6 at q6 b6 ⊢
              obtain ⟨P, hP⟩ : ∃ P, P = wr.heap.size := ⟨_, rfl⟩
              rw [← hP] at q6 ⊢
              clear m5 m6 m7 m8 m9 hP
              have HB6 := Lib.hid (HBw.out.trans (b6.mono HBw.out.size))
              clear hb b6 q6 m1 m2 ca1 cb0 hia hib CR hn1 hn2
              go_wp2
              go_ret2
              have hE0 : rowE cs l = j := by rw [HE.out, errQ_take (k := k + 1) (by rw [HEQ.out]; exact h0), HEQ.out]
              have hrow : rowC cs l = [] := by unfold rowC; rw [if_neg (by rw [hE0]; exact h0)]
              exact ⟨_, by rw [hE0]; rfl, HB6.out, by rw [hrow]; exact RdE.nil _, by rw [hrow]; exact farR_nil _ _⟩
        · obtain rfl : k = n := by omega
          have hfull : (cs.zip (strL (cutL 44 l))).take k = cs.zip (strL (cutL 44 l)) := List.take_of_length_le (by rw [List.length_zip, ← HLZ.out, ← HN.out]; omega)
          have HF := Lib.hid hfull
          clear hlt hfull
          go_wp2
          go_ret2
          have hE0 : rowE cs l = 0 := by rw [HE.out, ← HF.out]; exact HP.out
          have hrow : rowC cs l = cellsQ (cs.zip (strL (cutL 44 l))) := by unfold rowC; rw [if_pos hE0]; rfl
          refine ⟨_, by rw [hE0]; rfl, B2.out.trans (HB.out.mono B2.out.size), ?_, ?_⟩
          · rw [hrow, ← HF.out]
            exact HO.out.rd (by simp [cellsQ]; omega)
          · rw [hrow, ← HF.out]
            exact HO.out.far B2.out.size
    · have HE := Lib.hid (show rowE cs l = 6 from by unfold rowE; rw [if_neg (by omega), if_pos (by rw [← HN.out]; exact hcut)])
      have HR := Lib.hid (show rowC cs l = [] from by unfold rowC; rw [if_neg (by rw [HE.out]; decide)])
      have HC := Lib.hid hcut
      have hclen := cutL_le 44 l
      obtain ⟨q, hq⟩ : ∃ q, q = (cutL 44 l).length := ⟨_, rfl⟩
      rw [← hq] at hclen hcut
      have HQ := Lib.hid hq
      clear hx hq
      go_enter Tryz.func61, Tryz.ntmps61
      go_wp2_with fail
      refine SC.out.mono ?_
      rintro e w1 ⟨rfl, hb⟩
      have B1 := Lib.hid hb
      clear hb SC
      go_wp2_with fail
      refine (CU.out w1).mono ?_
      rintro e w2 ⟨pv, rfl, hO, hb⟩
      have B2 := Lib.hid (B1.out.trans (hb.mono B1.out.size))
      have hlp := (hO.rd (by rw [strL_length, ← HQ.out]; omega)).len
      rw [strL_length, ← HQ.out] at hlp
      have q1 : ((q : Int) != (n : Int)) = true := by rw [bne_iff_ne]; omega
      have q2 : (q != n) = true := by simpa using hcut
      clear hb hO CU hcut
      go_wp2
      go_ret2
      exact ⟨_, by rw [HE.out]; rfl, B2.out, by rw [HR.out]; exact RdE.nil _, by rw [HR.out]; exact farR_nil _ _⟩
  · have HE := Lib.hid (show rowE cs l = x from by unfold rowE; rw [if_pos (by omega), hx])
    have HR := Lib.hid (show rowC cs l = [] from by unfold rowC; rw [if_neg (by rw [HE.out]; exact h0)])
    have q : ((x : Int) != 0) = true := by rw [bne_iff_ne]; omega
    clear hx
    go_enter Tryz.func61, Tryz.ntmps61
    go_wp2_with fail
    refine SC.out.mono ?_
    rintro e w1 ⟨rfl, hb⟩
    have B1 := Lib.hid hb
    clear hb
    go_wp2
    go_ret2
    exact ⟨_, by rw [HE.out]; rfl, B1.out, by rw [HR.out]; exact RdE.nil _, by rw [HR.out]; exact farR_nil _ _⟩

theorem ref_Read06 (v1 : Value) (t : ByteArray) (cs : List ColB) (l : List UInt8) (w : World) (h1 : RdC w v1 cs) (ht : RdS t l) (hC : CS cs) (hl : l.length ≤ 100000) :
    Calls Tryz.prog 61 #[v1, .string t] w (RdRow w cs l) :=
  (ref_Read06F v1 t cs l w h1 ht hC hl).mono fun e w' ⟨tv, a, b, c, _⟩ => ⟨tv, a, b, c⟩

end Go.Proofs.YtfpidkcdgebnpaaGreatDoor


/-
  The document's own answers for layer 8: the texts between a semicolon and a blank.
-/
namespace Go.Proofs.YtfpidkcdgebnpaaGreatDoor
open Go.RowKit Go.Shelf

def lastL (L : List (List UInt8)) : List UInt8 := L.getD (L.length - 1) []
/-- What is cut, and what is left, at the last one's end. -/
def glue (L : List (List UInt8)) : List (List UInt8) → List (List UInt8)
  | [] => L
  | h :: t => L.take (L.length - 1) ++ (lastL L ++ h) :: t
theorem take_last {L : List (List UInt8)} (h : 0 < L.length) : L.take (L.length - 1) ++ [lastL L] = L := by
  unfold lastL
  have hk : L.length - 1 < L.length := by omega
  have e : L.getD (L.length - 1) [] = L[L.length - 1] := by simp [List.getD, hk]
  rw [e, ← List.take_succ_eq_append_getElem hk, List.take_of_length_le (by omega)]
theorem glue_end {L : List (List UInt8)} (h : 0 < L.length) : glue L [[]] = L := by
  show L.take (L.length - 1) ++ [lastL L ++ []] = L
  rw [List.append_nil]; exact take_last h
theorem glue_sep {L M : List (List UInt8)} (h : 0 < L.length) (hm : M ≠ []) : glue L ([] :: M) = glue (L ++ [[]]) M := by
  cases M with
  | nil => exact absurd rfl hm
  | cons a t =>
    have e1 : lastL (L ++ [[]]) = [] := by unfold lastL; simp [List.getD]
    show L.take (L.length - 1) ++ (lastL L ++ []) :: (a :: t) = (L ++ [[]]).take ((L ++ [[]]).length - 1) ++ (lastL (L ++ [[]]) ++ a) :: t
    rw [e1, List.append_nil, List.nil_append]
    have e2 : (L ++ [[]]).take ((L ++ [[]]).length - 1) = L := by simp
    rw [e2]
    have e3 : (L.take (L.length - 1) ++ [lastL L]) ++ (a :: t) = L ++ (a :: t) := by rw [take_last h]
    rw [List.append_assoc] at e3
    exact e3
theorem glue_char {L M : List (List UInt8)} {x : UInt8} (h : 0 < L.length) (hm : M ≠ []) : glue L (consHead x M) = glue (L.set (L.length - 1) (lastL L ++ [x])) M := by
  cases M with
  | nil => exact absurd rfl hm
  | cons a t =>
    have hk : L.length - 1 < L.length := by omega
    have e1 : lastL (L.set (L.length - 1) (lastL L ++ [x])) = lastL L ++ [x] := by
      unfold lastL
      rw [List.length_set]
      simp [List.getD, hk]
    show L.take (L.length - 1) ++ (lastL L ++ x :: a) :: t = (L.set (L.length - 1) (lastL L ++ [x])).take ((L.set (L.length - 1) (lastL L ++ [x])).length - 1) ++ (lastL (L.set (L.length - 1) (lastL L ++ [x])) ++ a) :: t
    rw [e1, List.length_set, List.take_set, List.set_eq_of_length_le (by simp)]
    simp
theorem cut2_char {x : UInt8} {r : List UInt8} (h : ¬ (x = 59 ∧ r.head? = some 32)) : cut2 (x :: r) = consHead x (cut2 r) := by
  cases r with
  | nil => rfl
  | cons y r =>
    rw [cut2, if_neg (fun h9 => h ⟨h9.1, by rw [h9.2]; rfl⟩)]

set_option maxHeartbeats 16000000 in
theorem ref_cut08 (s : ByteArray) (l : List UInt8) (w : World) (h : RdS s l) (hl : l.length ≤ 100000) :
    Calls Tryz.prog 59 #[.string s] w fun e w' => ∃ v, e = .returned v ∧ OwnT w' w.heap.size v (strL (cut2 l)) ∧ Below w.heap.size w w' := by
  have hlen := h.len
  have hidx := h.idx
  have HS := Lib.hid h
  have hO0 : OwnT (w.alloc (.cells #[.string ⟨#[]⟩] 9)) w.heap.size (.slice (some ⟨w.heap.size, 0, none⟩) 1 1) [⟨#[]⟩] :=
    ⟨⟨rfl, .inr ⟨w.heap.size, 1, _, rfl, Nat.le_refl _, heap_alloc_new w _, by decide, by decide, rfl, rfl⟩⟩, by intro y hy; simp [strV] at hy; rw [hy]; rfl, by intro y hy z hz; simp [strV] at hy; rw [hy] at hz; simp at hz; rw [hz]; rfl⟩
  have HO := Lib.hid (show OwnT (w.alloc (.cells #[.string ⟨#[]⟩] 9)) w.heap.size (.slice (some ⟨w.heap.size, 0, none⟩) 1 1) (strL [[]]) from hO0)
  have HB := Lib.hid ((Below.refl w.heap.size w).alloc (Nat.le_refl _) (.cells #[.string ⟨#[]⟩] 9))
  have HGL := Lib.hid (show glue [[]] (cut2 (l.drop 0)) = cut2 l from by
    rw [List.drop_zero]
    cases hc : cut2 l with
    | nil => exact absurd hc (cut2_ne l)
    | cons a t => rfl)
  clear h hO0
  go_enter Tryz.func59, Tryz.ntmps59
  go_wp2
  go_loopw [3, 4] (fun a i wr => ∃ (k : Nat) (L : List (List UInt8)), k ≤ l.length ∧ i = .int .i64 k ∧ Hid (OwnT wr w.heap.size a (strL L)) ∧ Hid (Below w.heap.size w wr) ∧ Hid (glue L (cut2 (l.drop k)) = cut2 l) ∧ Hid (0 < L.length ∧ L.length ≤ k + 1 ∧ ∀ p ∈ L, p.length ≤ k)) (fun _ i _ => l.length - (intOf i).toNat)
  case atStart => exact ⟨0, [[]], by omega, rfl, HO, HB, HGL, Lib.hid ⟨by simp, by simp, by simp⟩⟩
  case round =>
    clear HO HB HGL
    obtain ⟨k, L, hk, rfl, HO, HB, HG, HL⟩ := hrel
    obtain ⟨hL0, hL1, hL2⟩ := HL.out
    by_cases hlt : k < l.length
    · have hx := hidx k hlt
      obtain ⟨d, hd⟩ : ∃ d, d = l.getD k 0 := ⟨_, rfl⟩
      have hd9 : at8 l k = (d.toNat : Int) := by rw [hd]; rfl
      rw [hd9] at hx
      have hdr : l.drop k = d :: l.drop (k + 1) := by rw [List.drop_eq_getElem_cons hlt, hd]; simp [List.getD, hlt]
      have hwb := HB.out.size
      have hdn := d.toNat_lt
      have HDR := Lib.hid hdr
      have HD := Lib.hid hd
      clear hd hd9 hdr
      by_cases hnx : k + 1 < l.length
      · have hx1 := hidx (k + 1) hnx
        obtain ⟨e, he⟩ : ∃ e, e = l.getD (k + 1) 0 := ⟨_, rfl⟩
        have he9 : at8 l (k + 1) = (e.toNat : Int) := by rw [he]; rfl
        rw [he9, show ((k + 1 : Nat) : Int) = (k : Int) + 1 from by omega] at hx1
        have hdr1 : l.drop (k + 1) = e :: l.drop (k + 2) := by rw [List.drop_eq_getElem_cons hnx, he]; simp [List.getD, hnx]
        have HDR1 := Lib.hid hdr1
        have hen := e.toNat_lt
        have hwj : IntKind.i64.wrap ((k : Int) + 1) = (k : Int) + 1 := IntWalk.i64_in _ (by omega)
        have hpos : decide ((k : Int) + 1 < (l.length : Int)) = true := decide_eq_true (by omega)
        clear he he9 hdr1 hidx
        by_cases hd5 : d = 59
        · have q5 : ((d.toNat : Int) == 59) = true := by rw [hd5]; rfl
          have q5n : (d.toNat == 59) = true := by rw [hd5]; rfl
          by_cases he3 : e = 32
          · have q3 : ((e.toNat : Int) == 32) = true := by rw [he3]; rfl
            have q3n : (e.toNat == 32) = true := by rw [he3]; rfl
            have HG2 := Lib.hid (show glue (L ++ [[]]) (cut2 (l.drop (k + 2))) = cut2 l from by
              rw [← glue_sep hL0 (cut2_ne _), ← HG.out, HDR.out, HDR1.out, cut2, if_pos ⟨hd5, he3⟩])
            have HO1 := Lib.hid (HO.out.alloc (.cells #[.string ⟨#[]⟩] 9))
            have HB1 := Lib.hid (HB.out.alloc HB.out.size (.cells #[.string ⟨#[]⟩] 9))
            have hll : (strL L).length = L.length := strL_length L
            clear hd5 he3 HG
            go_wp2_with (with_reducible refine wplT_append w.heap.size _ ?hs HO1.out ⟨wr.heap.size, 0, none⟩ ⟨#[]⟩ ?hx (one_str wr ⟨#[]⟩) ?hn ?hbase w.heap.size w HB1.out (Nat.le_refl _) ?_)
            case hs => rfl
            case hx => rfl
            case hn => rw [hll]; omega
            case hbase => simp; omega
            intro v5 w5 hO5 hB5 hg5
            have HO5 := Lib.hid (show OwnT w5 w.heap.size v5 (strL (L ++ [[]])) from by
              have e9 : strL (L ++ [[]]) = strL L ++ [⟨#[]⟩] := by unfold strL; rw [List.map_append]; rfl
              rw [e9]; exact hO5)
            have HB5 := Lib.hid hB5
            clear hO5 hB5 hg5 hll HO1 HB1
            go_wp2
            go_roundw
            case rel => exact ⟨k + 2, L ++ [[]], by omega, by go_num, HO5, HB5, HG2, Lib.hid ⟨by simp, by simp; omega, by
              intro p hp
              rcases List.mem_append.1 hp with hp | hp
              · have := hL2 p hp; omega
              · rw [List.mem_singleton.1 hp]; simp⟩⟩
            case measure => simp [intOf]; omega
          · have q3 : ((e.toNat : Int) == 32) = false := by
              rw [beq_eq_false_iff_ne]
              intro e9
              exact he3 (UInt8.toNat_inj.mp (by show e.toNat = 32; omega))
            have q3n : (e.toNat == 32) = false := by
              rw [beq_eq_false_iff_ne]
              intro e9
              exact he3 (UInt8.toNat_inj.mp (by show e.toNat = 32; omega))
            have HNC := Lib.hid (show ¬ (d = 59 ∧ (l.drop (k + 1)).head? = some 32) from fun h9 => he3 (by have := h9.2; rw [HDR1.out] at this; simpa using this))
            clear hd5 he3
            obtain ⟨n, hn⟩ : ∃ n, L.length = n + 1 := ⟨L.length - 1, by omega⟩
            have hll : (strL L).length = n + 1 := by rw [strL_length, hn]
            have hrd := HO.out.rd (by omega)
            have hle := hrd.len
            rw [hll, show ((n + 1 : Nat) : Int) = (n : Int) + 1 from by omega] at hle
            obtain ⟨b, o, hi, hcl, hfz, hbb, hset⟩ := HO.out.at (i := n) (by omega) (by omega)
            have hget : (strL L).getD n default = ⟨(L.getD n []).toArray⟩ := by
              unfold strL; simp [List.getD, hn]
            rw [hget] at hcl
            obtain ⟨lst, hlst⟩ : ∃ lst : ByteArray, lst = ⟨(L.getD n []).toArray⟩ := ⟨_, rfl⟩
            rw [← hlst] at hcl
            have hext := slice_one HS.out hlt
            rw [← HD.out] at hext
            obtain ⟨db, hdb⟩ : ∃ db : ByteArray, db = ⟨#[d]⟩ := ⟨_, rfl⟩
            rw [← hdb] at hext
            have hlm : L.getD n [] ∈ L := by
              rw [show L.getD n [] = L[n]'(by omega) from by simp [List.getD, hn]]
              exact List.getElem_mem _
            have hlp := hL2 _ hlm
            have hlz : lst.size ≤ 100000 := by
              have h1 : lst.size = (L.getD n []).length := by rw [hlst]; simp [ByteArray.size]
              omega
            have hdz : db.size = 1 := by rw [hdb]; rfl
            have p1 : ¬ (9223372036854775807 < lst.size + db.size) := by omega
            have p2 : ¬ (9223372036854775807 < lst.size + 1) := by omega
            have hsz : s.size = l.length := by rw [HS.out.eq]; simp [ByteArray.size]
            have hk0 : (0 : Int) ≤ (k : Int) := by omega
            have hk1 : (k : Int) ≤ (k : Int) + 1 := by omega
            have hk2 : (k : Int) + 1 ≤ (s.size : Int) := by omega
            have b1 : -9223372036854775808 ≤ (n : Int) ∧ (n : Int) ≤ 9223372036854775807 := by omega
            have b2 : -9223372036854775808 ≤ (k : Int) + 1 ∧ (k : Int) + 1 ≤ 9223372036854775807 := by omega
            have e3 : ((k : Int) + 1).toNat = k + 1 := by omega
            obtain ⟨L2, hL2e⟩ : ∃ L2, L2 = L.set n (L.getD n [] ++ [d]) := ⟨_, rfl⟩
            have HSN2 := Lib.hid (show strL L2 = (strL L).set n (lst ++ db) from by
              rw [hL2e]
              unfold strL
              rw [List.map_set]
              congr 1
              rw [hlst, hdb]
              apply ByteArray.ext
              simp)
            have HG2 := Lib.hid (show glue L2 (cut2 (l.drop (k + 1))) = cut2 l from by
              have e9 : L2 = L.set (L.length - 1) (lastL L ++ [d]) := by
                rw [hL2e]; unfold lastL
                rw [show L.length - 1 = n from by omega]
              rw [e9, ← glue_char hL0 (cut2_ne _), ← HG.out, HDR.out, cut2_char HNC.out])
            have HL2 := Lib.hid (show 0 < L2.length ∧ L2.length ≤ k + 1 + 1 ∧ ∀ p ∈ L2, p.length ≤ k + 1 from by
              rw [hL2e]
              refine ⟨by rw [List.length_set]; omega, by rw [List.length_set]; omega, fun p hp => ?_⟩
              rcases List.mem_or_eq_of_mem_set hp with hp | rfl
              · have := hL2 p hp; omega
              · simp at hlp ⊢; omega)
            have w1 := w64_pred n b1
            have w0 := IntWalk.i64_in _ b1
            have w00 := w64_in b1
            have w22 := w64_in b2
            have w2 := IntWalk.i64_in _ b2
            clear b1 b2
            have HSET := Lib.hid hset
            clear hll hrd hget hlst hdb hset hL2 hlm hlp hL2e hn hL1 hL0 HG HNC HD HDR
            go_wp2
            refine OrdR.wp_region_ord (way_only5 (fun j => j = b)) [(0, false), (1, false), (2, false), (3, false), (4, false), (5, false), (6, false), (7, false), (8, false), (10, false), (11, false), (12, false), (13, false), (14, false), (9, true), (15, false), (16, false), (17, true)] (by kernel_rfl) rfl (by kernel_rfl) (by kernel_rfl) (fun _ _ _ d _ h => by cases d <;> exact h) ?_
            refine OrdR.ord_still rfl rfl (by kernel_rfl) (fun K hK => ?_)
            go_big_quiet_op
            refine hK _ ?_; clear hK K
            refine OrdR.ord_still rfl rfl (by kernel_rfl) (fun K hK => ?_)
            go_big_quiet_op
            refine hK _ ?_; clear hK K
            refine OrdR.ord_still rfl rfl (by kernel_rfl) (fun K hK => ?_)
            go_big_quiet_op
            refine hK _ ?_; clear hK K
            refine OrdR.ord_still rfl rfl (by kernel_rfl) (fun K hK => ?_)
            go_big_quiet_op
            refine hK _ ?_; clear hK K
            refine OrdR.ord_still rfl rfl (by kernel_rfl) (fun K hK => ?_)
            go_big_quiet_op
            refine hK _ ?_; clear hK K
            refine OrdR.ord_still rfl rfl (by kernel_rfl) (fun K hK => ?_)
            go_big_quiet_op
            refine hK _ ?_; clear hK K
            refine OrdR.ord_still rfl rfl (by kernel_rfl) (fun K hK => ?_)
            go_big_quiet_op
            refine hK _ ?_; clear hK K
            refine OrdR.ord_still rfl rfl (by kernel_rfl) (fun K hK => ?_)
            go_big_quiet_op
            refine hK _ ?_; clear hK K
            refine OrdR.ord_still rfl rfl (by kernel_rfl) (fun K hK => ?_)
            go_big_quiet_op
            refine hK _ ?_; clear hK K
            refine OrdR.ord_still rfl rfl (by kernel_rfl) (fun K hK => ?_)
            go_big_quiet_op
            refine hK _ ?_; clear hK K
            refine OrdR.ord_still rfl rfl (by kernel_rfl) (fun K hK => ?_)
            go_big_quiet_op
            refine hK _ ?_; clear hK K
            refine OrdR.ord_still rfl rfl (by kernel_rfl) (fun K hK => ?_)
            go_big_quiet_op
            refine hK _ ?_; clear hK K
            refine OrdR.ord_still rfl rfl (by kernel_rfl) (fun K hK => ?_)
            go_big_quiet_op
            refine hK _ ?_; clear hK K
            refine OrdR.ord_still rfl rfl (by kernel_rfl) (fun K hK => ?_)
            go_big_quiet_op
            refine hK _ ?_; clear hK K
            refine OrdR.ord_loud rfl (by kernel_rfl) (fun K hK => ?_)
            go_big_op
            refine hK _ _ (Only.refl _ _) ?_; clear hK K
            refine OrdR.ord_still rfl rfl (by kernel_rfl) (fun K hK => ?_)
            go_big_quiet_op
            refine hK _ ?_; clear hK K
            refine OrdR.ord_still rfl rfl (by kernel_rfl) (fun K hK => ?_)
            go_big_quiet_op
            refine hK _ ?_; clear hK K
            refine OrdR.ord_loud rfl (by kernel_rfl) (fun K hK => ?_)
            go_big_op
            refine hK _ _ (only_set wr.drew b o _) ?_; clear hK K
            refine OrdR.ord_nil ?_
            clear w0 w00 w1 w2 w22 e3
            have HB6 := Lib.hid ((HB.out.setCell (p := ⟨b, o, none⟩) hbb (.string (lst ++ db))).drew)
            have HO6 := Lib.hid (show OwnT (wr.setCell ⟨b, o, none⟩ (.string (lst ++ db))).drew w.heap.size u3 (strL L2) from by
              rw [HSN2.out]; exact OwnT.drew (HSET.out (lst ++ db)))
            clear hcl hfz
            go_wp2
            go_roundw
            case rel => exact ⟨k + 1, L2, by omega, by go_num, HO6, HB6, HG2, HL2⟩
            case measure => simp [intOf]; omega
        · have q5 : ((d.toNat : Int) == 59) = false := by
            rw [beq_eq_false_iff_ne]
            intro e9
            exact hd5 (UInt8.toNat_inj.mp (by show d.toNat = 59; omega))
          have q5n : (d.toNat == 59) = false := by
            rw [beq_eq_false_iff_ne]
            intro e9
            exact hd5 (UInt8.toNat_inj.mp (by show d.toNat = 59; omega))
          have HNC := Lib.hid (show ¬ (d = 59 ∧ (l.drop (k + 1)).head? = some 32) from fun h9 => hd5 h9.1)
          clear hd5 hx1
          obtain ⟨n, hn⟩ : ∃ n, L.length = n + 1 := ⟨L.length - 1, by omega⟩
          have hll : (strL L).length = n + 1 := by rw [strL_length, hn]
          have hrd := HO.out.rd (by omega)
          have hle := hrd.len
          rw [hll, show ((n + 1 : Nat) : Int) = (n : Int) + 1 from by omega] at hle
          obtain ⟨b, o, hi, hcl, hfz, hbb, hset⟩ := HO.out.at (i := n) (by omega) (by omega)
          have hget : (strL L).getD n default = ⟨(L.getD n []).toArray⟩ := by
            unfold strL; simp [List.getD, hn]
          rw [hget] at hcl
          obtain ⟨lst, hlst⟩ : ∃ lst : ByteArray, lst = ⟨(L.getD n []).toArray⟩ := ⟨_, rfl⟩
          rw [← hlst] at hcl
          have hext := slice_one HS.out hlt
          rw [← HD.out] at hext
          obtain ⟨db, hdb⟩ : ∃ db : ByteArray, db = ⟨#[d]⟩ := ⟨_, rfl⟩
          rw [← hdb] at hext
          have hlm : L.getD n [] ∈ L := by
            rw [show L.getD n [] = L[n]'(by omega) from by simp [List.getD, hn]]
            exact List.getElem_mem _
          have hlp := hL2 _ hlm
          have hlz : lst.size ≤ 100000 := by
            have h1 : lst.size = (L.getD n []).length := by rw [hlst]; simp [ByteArray.size]
            omega
          have hdz : db.size = 1 := by rw [hdb]; rfl
          have p1 : ¬ (9223372036854775807 < lst.size + db.size) := by omega
          have p2 : ¬ (9223372036854775807 < lst.size + 1) := by omega
          have hsz : s.size = l.length := by rw [HS.out.eq]; simp [ByteArray.size]
          have hk0 : (0 : Int) ≤ (k : Int) := by omega
          have hk1 : (k : Int) ≤ (k : Int) + 1 := by omega
          have hk2 : (k : Int) + 1 ≤ (s.size : Int) := by omega
          have b1 : -9223372036854775808 ≤ (n : Int) ∧ (n : Int) ≤ 9223372036854775807 := by omega
          have b2 : -9223372036854775808 ≤ (k : Int) + 1 ∧ (k : Int) + 1 ≤ 9223372036854775807 := by omega
          have e3 : ((k : Int) + 1).toNat = k + 1 := by omega
          obtain ⟨L2, hL2e⟩ : ∃ L2, L2 = L.set n (L.getD n [] ++ [d]) := ⟨_, rfl⟩
          have HSN2 := Lib.hid (show strL L2 = (strL L).set n (lst ++ db) from by
            rw [hL2e]
            unfold strL
            rw [List.map_set]
            congr 1
            rw [hlst, hdb]
            apply ByteArray.ext
            simp)
          have HG2 := Lib.hid (show glue L2 (cut2 (l.drop (k + 1))) = cut2 l from by
            have e9 : L2 = L.set (L.length - 1) (lastL L ++ [d]) := by
              rw [hL2e]; unfold lastL
              rw [show L.length - 1 = n from by omega]
            rw [e9, ← glue_char hL0 (cut2_ne _), ← HG.out, HDR.out, cut2_char HNC.out])
          have HL2 := Lib.hid (show 0 < L2.length ∧ L2.length ≤ k + 1 + 1 ∧ ∀ p ∈ L2, p.length ≤ k + 1 from by
            rw [hL2e]
            refine ⟨by rw [List.length_set]; omega, by rw [List.length_set]; omega, fun p hp => ?_⟩
            rcases List.mem_or_eq_of_mem_set hp with hp | rfl
            · have := hL2 p hp; omega
            · simp at hlp ⊢; omega)
          have w1 := w64_pred n b1
          have w0 := IntWalk.i64_in _ b1
          have w00 := w64_in b1
          have w22 := w64_in b2
          have w2 := IntWalk.i64_in _ b2
          clear b1 b2
          have HSET := Lib.hid hset
          clear hll hrd hget hlst hdb hset hL2 hlm hlp hL2e hn hL1 hL0 HG HNC HD HDR
          go_wp2
          refine OrdR.wp_region_ord (way_only5 (fun j => j = b)) [(0, false), (1, false), (2, false), (3, false), (4, false), (5, false), (6, false), (7, false), (8, false), (10, false), (11, false), (12, false), (13, false), (14, false), (9, true), (15, false), (16, false), (17, true)] (by kernel_rfl) rfl (by kernel_rfl) (by kernel_rfl) (fun _ _ _ d _ h => by cases d <;> exact h) ?_
          refine OrdR.ord_still rfl rfl (by kernel_rfl) (fun K hK => ?_)
          go_big_quiet_op
          refine hK _ ?_; clear hK K
          refine OrdR.ord_still rfl rfl (by kernel_rfl) (fun K hK => ?_)
          go_big_quiet_op
          refine hK _ ?_; clear hK K
          refine OrdR.ord_still rfl rfl (by kernel_rfl) (fun K hK => ?_)
          go_big_quiet_op
          refine hK _ ?_; clear hK K
          refine OrdR.ord_still rfl rfl (by kernel_rfl) (fun K hK => ?_)
          go_big_quiet_op
          refine hK _ ?_; clear hK K
          refine OrdR.ord_still rfl rfl (by kernel_rfl) (fun K hK => ?_)
          go_big_quiet_op
          refine hK _ ?_; clear hK K
          refine OrdR.ord_still rfl rfl (by kernel_rfl) (fun K hK => ?_)
          go_big_quiet_op
          refine hK _ ?_; clear hK K
          refine OrdR.ord_still rfl rfl (by kernel_rfl) (fun K hK => ?_)
          go_big_quiet_op
          refine hK _ ?_; clear hK K
          refine OrdR.ord_still rfl rfl (by kernel_rfl) (fun K hK => ?_)
          go_big_quiet_op
          refine hK _ ?_; clear hK K
          refine OrdR.ord_still rfl rfl (by kernel_rfl) (fun K hK => ?_)
          go_big_quiet_op
          refine hK _ ?_; clear hK K
          refine OrdR.ord_still rfl rfl (by kernel_rfl) (fun K hK => ?_)
          go_big_quiet_op
          refine hK _ ?_; clear hK K
          refine OrdR.ord_still rfl rfl (by kernel_rfl) (fun K hK => ?_)
          go_big_quiet_op
          refine hK _ ?_; clear hK K
          refine OrdR.ord_still rfl rfl (by kernel_rfl) (fun K hK => ?_)
          go_big_quiet_op
          refine hK _ ?_; clear hK K
          refine OrdR.ord_still rfl rfl (by kernel_rfl) (fun K hK => ?_)
          go_big_quiet_op
          refine hK _ ?_; clear hK K
          refine OrdR.ord_still rfl rfl (by kernel_rfl) (fun K hK => ?_)
          go_big_quiet_op
          refine hK _ ?_; clear hK K
          refine OrdR.ord_loud rfl (by kernel_rfl) (fun K hK => ?_)
          go_big_op
          refine hK _ _ (Only.refl _ _) ?_; clear hK K
          refine OrdR.ord_still rfl rfl (by kernel_rfl) (fun K hK => ?_)
          go_big_quiet_op
          refine hK _ ?_; clear hK K
          refine OrdR.ord_still rfl rfl (by kernel_rfl) (fun K hK => ?_)
          go_big_quiet_op
          refine hK _ ?_; clear hK K
          refine OrdR.ord_loud rfl (by kernel_rfl) (fun K hK => ?_)
          go_big_op
          refine hK _ _ (only_set wr.drew b o _) ?_; clear hK K
          refine OrdR.ord_nil ?_
          clear w0 w00 w1 w2 w22 e3
          have HB6 := Lib.hid ((HB.out.setCell (p := ⟨b, o, none⟩) hbb (.string (lst ++ db))).drew)
          have HO6 := Lib.hid (show OwnT (wr.setCell ⟨b, o, none⟩ (.string (lst ++ db))).drew w.heap.size u3 (strL L2) from by
            rw [HSN2.out]; exact OwnT.drew (HSET.out (lst ++ db)))
          clear hcl hfz
          go_wp2
          go_roundw
          case rel => exact ⟨k + 1, L2, by omega, by go_num, HO6, HB6, HG2, HL2⟩
          case measure => simp [intOf]; omega
      · have hwj : IntKind.i64.wrap ((k : Int) + 1) = (k : Int) + 1 := IntWalk.i64_in _ (by omega)
        have hpos : decide ((k : Int) + 1 < (l.length : Int)) = false := decide_eq_false (by omega)
        have HNC := Lib.hid (show ¬ (d = 59 ∧ (l.drop (k + 1)).head? = some 32) from fun h9 => by
          have := h9.2
          rw [List.drop_of_length_le (by omega)] at this
          simp at this)
        clear hidx
        obtain ⟨n, hn⟩ : ∃ n, L.length = n + 1 := ⟨L.length - 1, by omega⟩
        have hll : (strL L).length = n + 1 := by rw [strL_length, hn]
        have hrd := HO.out.rd (by omega)
        have hle := hrd.len
        rw [hll, show ((n + 1 : Nat) : Int) = (n : Int) + 1 from by omega] at hle
        obtain ⟨b, o, hi, hcl, hfz, hbb, hset⟩ := HO.out.at (i := n) (by omega) (by omega)
        have hget : (strL L).getD n default = ⟨(L.getD n []).toArray⟩ := by
          unfold strL; simp [List.getD, hn]
        rw [hget] at hcl
        obtain ⟨lst, hlst⟩ : ∃ lst : ByteArray, lst = ⟨(L.getD n []).toArray⟩ := ⟨_, rfl⟩
        rw [← hlst] at hcl
        have hext := slice_one HS.out hlt
        rw [← HD.out] at hext
        obtain ⟨db, hdb⟩ : ∃ db : ByteArray, db = ⟨#[d]⟩ := ⟨_, rfl⟩
        rw [← hdb] at hext
        have hlm : L.getD n [] ∈ L := by
          rw [show L.getD n [] = L[n]'(by omega) from by simp [List.getD, hn]]
          exact List.getElem_mem _
        have hlp := hL2 _ hlm
        have hlz : lst.size ≤ 100000 := by
          have h1 : lst.size = (L.getD n []).length := by rw [hlst]; simp [ByteArray.size]
          omega
        have hdz : db.size = 1 := by rw [hdb]; rfl
        have p1 : ¬ (9223372036854775807 < lst.size + db.size) := by omega
        have p2 : ¬ (9223372036854775807 < lst.size + 1) := by omega
        have hsz : s.size = l.length := by rw [HS.out.eq]; simp [ByteArray.size]
        have hk0 : (0 : Int) ≤ (k : Int) := by omega
        have hk1 : (k : Int) ≤ (k : Int) + 1 := by omega
        have hk2 : (k : Int) + 1 ≤ (s.size : Int) := by omega
        have b1 : -9223372036854775808 ≤ (n : Int) ∧ (n : Int) ≤ 9223372036854775807 := by omega
        have b2 : -9223372036854775808 ≤ (k : Int) + 1 ∧ (k : Int) + 1 ≤ 9223372036854775807 := by omega
        have e3 : ((k : Int) + 1).toNat = k + 1 := by omega
        obtain ⟨L2, hL2e⟩ : ∃ L2, L2 = L.set n (L.getD n [] ++ [d]) := ⟨_, rfl⟩
        have HSN2 := Lib.hid (show strL L2 = (strL L).set n (lst ++ db) from by
          rw [hL2e]
          unfold strL
          rw [List.map_set]
          congr 1
          rw [hlst, hdb]
          apply ByteArray.ext
          simp)
        have HG2 := Lib.hid (show glue L2 (cut2 (l.drop (k + 1))) = cut2 l from by
          have e9 : L2 = L.set (L.length - 1) (lastL L ++ [d]) := by
            rw [hL2e]; unfold lastL
            rw [show L.length - 1 = n from by omega]
          rw [e9, ← glue_char hL0 (cut2_ne _), ← HG.out, HDR.out, cut2_char HNC.out])
        have HL2 := Lib.hid (show 0 < L2.length ∧ L2.length ≤ k + 1 + 1 ∧ ∀ p ∈ L2, p.length ≤ k + 1 from by
          rw [hL2e]
          refine ⟨by rw [List.length_set]; omega, by rw [List.length_set]; omega, fun p hp => ?_⟩
          rcases List.mem_or_eq_of_mem_set hp with hp | rfl
          · have := hL2 p hp; omega
          · simp at hlp ⊢; omega)
        have w1 := w64_pred n b1
        have w0 := IntWalk.i64_in _ b1
        have w00 := w64_in b1
        have w22 := w64_in b2
        have w2 := IntWalk.i64_in _ b2
        clear b1 b2
        have HSET := Lib.hid hset
        clear hll hrd hget hlst hdb hset hL2 hlm hlp hL2e hn hL1 hL0 HG HNC HD HDR
        go_wp2
        refine OrdR.wp_region_ord (way_only5 (fun j => j = b)) [(0, false), (1, false), (2, false), (3, false), (4, false), (5, false), (6, false), (7, false), (8, false), (10, false), (11, false), (12, false), (13, false), (14, false), (9, true), (15, false), (16, false), (17, true)] (by kernel_rfl) rfl (by kernel_rfl) (by kernel_rfl) (fun _ _ _ d _ h => by cases d <;> exact h) ?_
        refine OrdR.ord_still rfl rfl (by kernel_rfl) (fun K hK => ?_)
        go_big_quiet_op
        refine hK _ ?_; clear hK K
        refine OrdR.ord_still rfl rfl (by kernel_rfl) (fun K hK => ?_)
        go_big_quiet_op
        refine hK _ ?_; clear hK K
        refine OrdR.ord_still rfl rfl (by kernel_rfl) (fun K hK => ?_)
        go_big_quiet_op
        refine hK _ ?_; clear hK K
        refine OrdR.ord_still rfl rfl (by kernel_rfl) (fun K hK => ?_)
        go_big_quiet_op
        refine hK _ ?_; clear hK K
        refine OrdR.ord_still rfl rfl (by kernel_rfl) (fun K hK => ?_)
        go_big_quiet_op
        refine hK _ ?_; clear hK K
        refine OrdR.ord_still rfl rfl (by kernel_rfl) (fun K hK => ?_)
        go_big_quiet_op
        refine hK _ ?_; clear hK K
        refine OrdR.ord_still rfl rfl (by kernel_rfl) (fun K hK => ?_)
        go_big_quiet_op
        refine hK _ ?_; clear hK K
        refine OrdR.ord_still rfl rfl (by kernel_rfl) (fun K hK => ?_)
        go_big_quiet_op
        refine hK _ ?_; clear hK K
        refine OrdR.ord_still rfl rfl (by kernel_rfl) (fun K hK => ?_)
        go_big_quiet_op
        refine hK _ ?_; clear hK K
        refine OrdR.ord_still rfl rfl (by kernel_rfl) (fun K hK => ?_)
        go_big_quiet_op
        refine hK _ ?_; clear hK K
        refine OrdR.ord_still rfl rfl (by kernel_rfl) (fun K hK => ?_)
        go_big_quiet_op
        refine hK _ ?_; clear hK K
        refine OrdR.ord_still rfl rfl (by kernel_rfl) (fun K hK => ?_)
        go_big_quiet_op
        refine hK _ ?_; clear hK K
        refine OrdR.ord_still rfl rfl (by kernel_rfl) (fun K hK => ?_)
        go_big_quiet_op
        refine hK _ ?_; clear hK K
        refine OrdR.ord_still rfl rfl (by kernel_rfl) (fun K hK => ?_)
        go_big_quiet_op
        refine hK _ ?_; clear hK K
        refine OrdR.ord_loud rfl (by kernel_rfl) (fun K hK => ?_)
        go_big_op
        refine hK _ _ (Only.refl _ _) ?_; clear hK K
        refine OrdR.ord_still rfl rfl (by kernel_rfl) (fun K hK => ?_)
        go_big_quiet_op
        refine hK _ ?_; clear hK K
        refine OrdR.ord_still rfl rfl (by kernel_rfl) (fun K hK => ?_)
        go_big_quiet_op
        refine hK _ ?_; clear hK K
        refine OrdR.ord_loud rfl (by kernel_rfl) (fun K hK => ?_)
        go_big_op
        refine hK _ _ (only_set wr.drew b o _) ?_; clear hK K
        refine OrdR.ord_nil ?_
        clear w0 w00 w1 w2 w22 e3
        have HB6 := Lib.hid ((HB.out.setCell (p := ⟨b, o, none⟩) hbb (.string (lst ++ db))).drew)
        have HO6 := Lib.hid (show OwnT (wr.setCell ⟨b, o, none⟩ (.string (lst ++ db))).drew w.heap.size u3 (strL L2) from by
          rw [HSN2.out]; exact OwnT.drew (HSET.out (lst ++ db)))
        clear hcl hfz
        go_wp2
        go_roundw
        case rel => exact ⟨k + 1, L2, by omega, by go_num, HO6, HB6, HG2, HL2⟩
        case measure => simp [intOf]; omega
    · obtain rfl : k = l.length := by omega
      have HF := Lib.hid (show L = cut2 l from by
        have := HG.out
        rw [List.drop_length] at this
        rw [← this]
        exact (glue_end hL0).symm)
      have HO3 := Lib.hid (show OwnT wr w.heap.size u3 (strL (cut2 l)) from by rw [← HF.out]; exact HO.out)
      clear hlt
      go_wp2
      go_ret
      exact ⟨_, rfl, HO3.out, HB.out⟩

end Go.Proofs.YtfpidkcdgebnpaaGreatDoor

