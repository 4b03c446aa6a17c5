/-
  The document's own answers for layer 6: Text, of a row that may be.
-/
import Derived.Test.YtkljkpffpdpphaaGreatDoorGRowL
import Derived.Test.YtkljkpffpdpphaaGreatDoorGHex
import Derived.Test.YtkljkpffpdpphaaGreatDoorRowPlain
import Derived.Test.YtkljkpffpdpphaaGreatDoorGReadMath
set_option linter.unusedVariables false
set_option linter.unusedSimpArgs false
set_option maxRecDepth 1000000
namespace Go.Proofs.YtkljkpffpdpphaaGreatDoor
open Go.RowKit Go.Shelf

theorem textL_succ {cs : List ColB} {rs : List CellB} (hl : cs.length = rs.length) {k : Nat} (h : k < cs.length) : Lib.join (((cs.zip rs).take (k + 1)).map txP) [44] = if k = 0 then txP (cs.getD k default, rs.getD k default) else Lib.join (((cs.zip rs).take k).map txP) [44] ++ [44] ++ txP (cs.getD k default, rs.getD k default) := by
  rw [zip_get cs rs hl k h, List.map_append, List.map_singleton, join_snoc]
  by_cases h0 : k = 0
  · rw [if_pos h0, if_pos (by rw [h0]; rfl)]
  · rw [if_neg h0, if_neg (by
      intro e
      have := congrArg List.length e
      rw [List.length_map, List.length_take, List.length_zip, List.length_nil] at this
      omega)]

set_option maxHeartbeats 8000000 in
theorem ref_Text06 (v1 v2 : Value) (cs : List ColB) (rs : List CellB) (w : World) (h1 : RdC w v1 cs) (h2 : RdE w v2 rs) (hC : CS cs) (hE : CES rs) (h0 : errRow cs rs = 0) :
    Calls Tryz.prog 21 #[v1, v2] w fun e w' => (∃ t, e = .returned (.string t) ∧ RdS t (textR cs rs)) ∧ Below w.heap.size w w' := by
  have hxl := errRow_len h0
  have hz8 := errS_zero hxl.1
  rw [colsL_length] at hz8
  have hc8 := hz8.2.1
  have hl2 := h2.len
  have hsm := h2.small
  have R1 := Lib.hid (fun wz (hz : Below w.heap.size w wz) => h1.later hz (Nat.le_refl _))
  have R2 := Lib.hid (fun wz (hz : Below w.heap.size w wz) => h2.later hz (Nat.le_refl _))
  obtain ⟨n, hn⟩ : ∃ n, n = cs.length := ⟨_, rfl⟩
  rw [hxl.2.1, ← hn] at hl2 hsm
  rw [← hn] at hc8
  have HN := Lib.hid hn
  have HL := Lib.hid hxl.2.1.symm
  have HP := Lib.hid (errP_zero hxl.2.2)
  have HB0 := Lib.hid (Below.refl w.heap.size w)
  clear h1 h2 hxl hz8 hn h0
  go_enter Tryz.func21, Tryz.ntmps21
  go_wp2
  go_loopw [5, 6] (fun a i wr => ∃ (k : Nat) (tb : ByteArray), k ≤ n ∧ i = .int .i64 k ∧ a = .string tb ∧ Hid (Below w.heap.size w wr) ∧ Hid (tb = ⟨(Lib.join (((cs.zip rs).take k).map txP) [44]).toArray⟩) ∧ tb.size ≤ 600 * k) (fun _ i _ => n - (intOf i).toNat)
  case atStart => exact ⟨0, _, by omega, rfl, rfl, HB0, Lib.hid rfl, by decide⟩
  case round =>
    clear HB0
    obtain ⟨k, tb, hk, rfl, rfl, HB, HT, htz⟩ := hrel
    by_cases hlt : k < n
    · have k1 : k < cs.length := by rw [← HN.out]; exact hlt
      have k2 : k < rs.length := by rw [← HL.out]; exact k1
      have hr1 := R1.out wr HB.out
      have hr2 := R2.out wr HB.out
      obtain ⟨ba, oa, hia, hca, _⟩ := hr1.get k1
      obtain ⟨bb, ob, hib, hcb, _⟩ := hr2.get k2
      obtain ⟨ca0, ca1⟩ := hca _ hr1
      obtain ⟨cb0, cb1⟩ := hcb _ hr2
      have hce := hE.get k2
      have hchk := HP.out _ (zip_mem cs rs HL.out k k1)
      have hts := textL_succ HL.out k1
      rcases hga : cs.getD k default with ⟨xa, ya⟩
      rcases hgb : rs.getD k default with ⟨xb, yb⟩
      rw [hga] at ca0 ca1
      rw [hgb] at cb0 cb1 hce
      rw [hga, hgb] at hchk hts
      dsimp only at ca0 ca1 cb0 cb1
      obtain ⟨hkk, _, _, hk2, _, _⟩ := check_zero hchk
      have hsz := (txP_small hce.1 hchk).1
      have CK := Lib.hid (show Calls Tryz.prog 38 #[.int .i64 ya, .agg #[.int .u64 (xb : Int), .string yb]] wr.drew fun e w' => (∃ t, e = .returned (.string t) ∧ t = ⟨(txP ((xa, ya), (xb, yb))).toArray⟩ ∧ t.size ≤ 512) ∧ Below w.heap.size w w' ∧
          w'.cell? ⟨ba, oa + 1, none⟩ = some (.int .i64 ya) ∧ w'.cell? ⟨bb, ob, none⟩ = some (.int .u64 (xb : Int)) ∧ w'.cell? ⟨bb, ob + 1, none⟩ = some (.string yb) from by
        refine (ref_Text ya xb yb yb.data.toList wr.drew hkk hce.1 (fun h => by have := hk2 h; dsimp only at this; omega) (CES.rdS hce) (by have := (check_zero hchk).2.2.2.2.2; dsimp only at this; omega)).mono ?_
        rintro e w' ⟨⟨t, he, ht⟩, hb⟩
        rw [← textK_textC ya hkk xb hce.1 (fun h => hk2 h)] at ht
        exact ⟨⟨t, he, ht.eq, by rw [ht.size]; exact hsz⟩, HB.out.trans ((Below.refl wr.heap.size wr).drew.trans hb |>.mono HB.out.size), keep_cell hb ca1, keep_cell hb cb0, keep_cell hb cb1⟩)
      have HTS := Lib.hid hts
      clear hr1 hr2 hca hcb hga hgb hce hchk hts k1 k2 ca0 hkk hk2 hsz
      by_cases hk0 : k = 0
      · subst hk0
        rw [show ((0 : Nat) : Int) = 0 from rfl] at hia hib
        go_wp2
        go_region_held3 (fun u => u.cell? ⟨ba, oa + 1, none⟩ = some (.int .i64 ya) ∧ u.cell? ⟨bb, ob, none⟩ = some (.int .u64 (xb : Int)) ∧ u.cell? ⟨bb, ob + 1, none⟩ = some (.string yb)) (first | go_keep | (exact ⟨m1, m2, m3⟩))
          ((go_at_call 38; refine CK.out.mono ?_; rintro e w' ⟨⟨t, rfl, ht, hts⟩, hb, m1, m2, m3⟩; have hZ := Lib.hid ht; clear ht; have p1 : ¬ (9223372036854775807 < tb.size + t.size) := by omega))
        have HB3 := Lib.hid hb
        have HTn := Lib.hid (show tb ++ t = ⟨(Lib.join (((cs.zip rs).take (0 + 1)).map txP) [44]).toArray⟩ from by
          have e1 := HT.out
          have e2 := HTS.out
          rw [if_pos trivial] at e2
          rw [e1, hZ.out, e2]
          apply ByteArray.ext
          simp [Lib.join])
        have hsz3 : (tb ++ t).size ≤ 600 * (0 + 1) := by rw [ByteArray.size_append]; omega
        clear hb m1 m2 m3 hZ hia hib ca1 cb0 cb1 p1 CK
        go_wp2
        go_roundw
        case rel => exact ⟨0 + 1, _, by omega, by go_num, rfl, HB3, HTn, hsz3⟩
        case measure => simp [intOf]; omega
      · have d1 : decide ((k : Int) > 0) = true := decide_eq_true (by omega)
        have p0 : ¬ (9223372036854775807 < tb.size + 1) := by omega
        have p00 : ¬ (9223372036854775807 < tb.size + (⟨#[44]⟩ : ByteArray).size) := by
          have : (⟨#[44]⟩ : ByteArray).size = 1 := rfl
          omega
        have hz44 : (tb ++ (⟨#[44]⟩ : ByteArray)).size = tb.size + 1 := by rw [ByteArray.size_append]; rfl
        have HZ44 := Lib.hid hz44
        clear hz44
        go_wp2
        obtain ⟨tc, htc⟩ : ∃ tc : ByteArray, tc = tb ++ (⟨#[44]⟩ : ByteArray) := ⟨_, rfl⟩
        rw [← htc]
        have hcz : tc.size = tb.size + 1 := by rw [htc]; exact HZ44.out
        have hcz' : tc.size ≤ 600 * k + 1 := by omega
        have HTC := Lib.hid htc
        clear htc hcz
        go_region_held3 (fun u => u.cell? ⟨ba, oa + 1, none⟩ = some (.int .i64 ya) ∧ u.cell? ⟨bb, ob, none⟩ = some (.int .u64 (xb : Int)) ∧ u.cell? ⟨bb, ob + 1, none⟩ = some (.string yb)) (first | go_keep | (exact ⟨m1, m2, m3⟩))
          ((go_at_call 38; refine CK.out.mono ?_; rintro e w' ⟨⟨t, rfl, ht, hts⟩, hb, m1, m2, m3⟩; have hZ := Lib.hid ht; clear ht; have p1 : ¬ (9223372036854775807 < tc.size + t.size) := by omega))
        have HB3 := Lib.hid hb
        have HTn := Lib.hid (show tc ++ t = ⟨(Lib.join (((cs.zip rs).take (k + 1)).map txP) [44]).toArray⟩ from by
          have e1 := HT.out
          have e2 := HTS.out
          rw [if_neg hk0] at e2
          rw [HTC.out, e1, hZ.out, e2]
          apply ByteArray.ext
          simp)
        have hsz3 : (tc ++ t).size ≤ 600 * (k + 1) := by rw [ByteArray.size_append]; omega
        clear hb m1 m2 m3 hZ hia hib ca1 cb0 cb1 p0 p00 p1 CK
        go_wp2
        go_roundw
        case rel => exact ⟨k + 1, _, by omega, by go_num, rfl, HB3, HTn, hsz3⟩
        case measure => simp [intOf]; omega
    · obtain rfl : k = n := by omega
      have HF := Lib.hid (show tb = ⟨(textR cs rs).toArray⟩ from by
        have := HT.out
        rwa [List.take_of_length_le (by rw [List.length_zip, ← HL.out, ← HN.out]; omega)] at this)
      clear hlt
      go_wp2
      go_ret
      exact ⟨⟨tb, rfl, HF.out, by have h9 : (textR cs rs).length = tb.size := by rw [HF.out]; simp [ByteArray.size]
                                  rw [h9]; omega⟩, HB.out⟩

end Go.Proofs.YtkljkpffpdpphaaGreatDoor
