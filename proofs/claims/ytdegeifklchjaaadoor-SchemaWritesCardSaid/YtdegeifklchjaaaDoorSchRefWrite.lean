/-
  The document's own answers for layer 5: Write, Print.
-/
import Derived.Test.YtdegeifklchjaaaDoorSchWrite
import Derived.Test.YtdegeifklchjaaaDoorWireRef
import Derived.Test.YtdegeifklchjaaaDoorCrcRef
set_option linter.unusedVariables false
set_option linter.unusedSimpArgs false
set_option maxRecDepth 1000000
namespace Go.Proofs.YtdegeifklchjaaaDoor
open Go.RowKit Go.Shelf

set_option maxHeartbeats 4000000 in
theorem ref_Write05 (v : Value) (cs : List ColB) (w : World) (h : RdC w v cs) (hC : CS cs) (h0 : errS (colsL cs) = 0) :
    Calls Tryd.prog 17 #[v] w (RetB w (wrS (colsL cs))) := by
  have hlen := h.len
  have hsm := h.small
  have HZ := Lib.hid h0
  obtain ⟨z1, z2, z3, z4⟩ := errS_zero h0
  rw [colsL_length] at z1 z2
  have HH := Lib.hid h
  clear h h0
  go_enter Tryd.func17, Tryd.ntmps17
  go_wp2_with fail
  refine (ref_Uint (cs.length : Int) (by omega) (by omega) w).mono ?_
  rintro e w2 ⟨u, rfl, hO, hb⟩
  rw [Int.toNat_natCast] at hO
  have HO := Lib.hid hO
  have HB2 := Lib.hid hb
  clear hb hO
  go_wp2
  go_loopw [3, 4] (fun a i wr => ∃ k : Nat, k ≤ cs.length ∧ i = .int .i64 k ∧ Hid (Below w.heap.size w wr) ∧ Hid (Own wr w.heap.size a (encU cs.length ++ wrCols ((colsL cs).take k))) ∧ Hid ((encU cs.length ++ wrCols ((colsL cs).take k)).length ≤ 10 + 60 * k)) (fun _ i _ => cs.length - (intOf i).toNat)
  case atStart =>
    refine ⟨0, by omega, rfl, HB2, ?_, Lib.hid ?_⟩
    · simpa [wrCols] using HO
    · have := encU_le cs.length (by omega); simpa [wrCols] using this
  case round =>
    clear HO HB2
    obtain ⟨k, hk, rfl, HB, HO, HLen⟩ := hrel
    by_cases hlt : k < cs.length
    · have hr := HH.out.later HB.out (Nat.le_refl _)
      obtain ⟨b, o, hidx, hcell, hblk⟩ := hr.get hlt
      obtain ⟨hc0, hc1⟩ := hcell _ hr
      obtain ⟨hs1, hk1, hk2⟩ := hC.get hlt
      have hz := z4 ((colsL cs).getD k default) (by
        rw [show (colsL cs).getD k default = (colsL cs)[k]'(by rw [colsL_length]; exact hlt) from by simp [List.getD, colsL_length, hlt]]
        exact List.getElem_mem _)
      rw [colsL_getD hlt] at hz
      have hws := wrCols_succ (cs := colsL cs) (k := k) (by rw [colsL_length]; exact hlt)
      rw [colsL_getD hlt] at hws
      have HR := Lib.hid hr
      rcases hcg : cs.getD k default with ⟨s, kd⟩
      rw [hcg] at hc0 hc1 hs1 hk1 hk2 hz hws
      have HCell := Lib.hid hcell
      rw [hcg] at HCell
      dsimp only at hc0 hc1 hs1 hk1 hk2
      have hS := rdS_of hs1
      obtain ⟨l, hl⟩ : ∃ l, l = s.data.toList := ⟨_, rfl⟩
      rw [← hl] at hS
      have hz : l.length ≤ 32 ∧ 0 ≤ kd ∧ kd ≤ 5 := by rw [hl]; exact hz
      have hws : wrCols ((colsL cs).take (k + 1)) = (wrCols ((colsL cs).take k) ++ encB l) ++ [UInt8.ofNat kd.toNat] := by rw [hl]; exact hws
      have HWS := Lib.hid hws
      have HS := Lib.hid hS
      obtain ⟨bv, w4, hrun, hRd, hb⟩ := bytes_of_str HS.out wr
      have HB4 := Lib.hid (HB.out.trans (hb.mono HB.out.size))
      have HO4 := Lib.hid (HO.out.later hb (Nat.le_refl _))
      have HRd := Lib.hid hRd
      clear hr hcell hcg hl hS hws hs1 z4 hb hRd
      go_wp2_with fail
      refine (ref_Bytes bv l w4 HRd.out).mono ?_
      rintro e w5 ⟨y, rfl, hO5, hb⟩
      have HB5 := Lib.hid (HB4.out.trans (hb.mono HB4.out.size))
      have HO5 := Lib.hid (HO4.out.later hb (Nat.le_refl _))
      have hY := hO5.rd (by have := encU_le l.length (by omega); unfold encB; simp; omega)
      have HY := Lib.hid hY
      clear hb hO5 hY hrun hc0 hc1
      go_wp2_with (with_reducible refine wpl_append w.heap.size _ _ ?hs HO5.out _ (encB l) ?hx HY.out ?hn ?hbase w.heap.size w HB5.out (Nat.le_refl _) ?_)
      case hs => rfl
      case hx => rfl
      case hn => have := encU_le l.length (by omega); have := HLen.out; unfold encB; simp at this ⊢; omega
      case hbase => exact HB5.out.size
      intro v6 w6 hO6 hB6 hg6
      have HO6 := Lib.hid hO6
      have HB6 := Lib.hid hB6
      have c1 := (HCell.out w6 (HH.out.later HB6.out (Nat.le_refl _))).2
      have hkn : kd.toNat < 256 := by omega
      clear hO6 hB6 hg6
      have hbelA : Below w.heap.size w (w6.alloc (.cells #[.int .u8 kd] 5)) := HB6.out.alloc HB6.out.size _
      have HbA := Lib.hid hbelA
      clear hbelA
      go_wp2_with (with_reducible refine wpl_append w.heap.size _ _ ?hs (HO6.out.alloc _) _ [UInt8.ofNat kd.toNat] ?hx (rd_one w6 kd (by omega) (by omega)) ?hn ?hbase w.heap.size w HbA.out (Nat.le_refl _) ?_)
      case hs => rfl
      case hx => rfl
      case hn => have := encU_le l.length (by omega); have := HLen.out; unfold encB; simp at this ⊢; omega
      case hbase => exact HbA.out.size
      intro v8 w8 hO8 hB8 hg8
      have HO8 := Lib.hid (show Own w8 w.heap.size v8 (encU cs.length ++ wrCols ((colsL cs).take (k + 1))) by rw [HWS.out, ← List.append_assoc, ← List.append_assoc]; exact hO8)
      have HB8 := Lib.hid hB8
      have HL8 := Lib.hid (show (encU cs.length ++ wrCols ((colsL cs).take (k + 1))).length ≤ 10 + 60 * (k + 1) by
        have h1 := encU_le l.length (by omega); have h2 := HLen.out
        rw [HWS.out]; unfold encB; simp at h2 ⊢; omega)
      clear hO8 hB8 hg8 c1
      go_wp2
      go_roundw
      case rel => exact ⟨k + 1, by omega, by go_num, HB8, HO8, HL8⟩
      case measure => simp [intOf]; omega
    · obtain rfl : k = cs.length := by omega
      have ht : (colsL cs).take cs.length = colsL cs := List.take_of_length_le (by rw [colsL_length]; omega)
      have HO2 := Lib.hid (show Own wr w.heap.size u3 (wrS (colsL cs)) by
        have := HO.out
        rw [ht] at this
        unfold wrS; rw [colsL_length]; exact this)
      clear hlt ht
      go_wp2
      go_ret
      exact ⟨_, rfl, HO2.out, HB.out⟩

theorem ref_Print05 (v : Value) (cs : List ColB) (w : World) (h : RdC w v cs) (hC : CS cs) (h0 : errS (colsL cs) = 0) :
    Calls Tryd.prog 18 #[v] w fun e w' => e = .returned (.int .u32 (Crc.sum (wrS (colsL cs)) : Nat)) ∧ Below w.heap.size w w' := by
  have hwl := wrS_small h0
  go_enter Tryd.func18, Tryd.ntmps18
  go_wp2_with fail
  refine (ref_Write05 v cs w h hC h0).mono ?_
  rintro e w1 ⟨u, rfl, hO, hb⟩
  have HB1 := Lib.hid hb
  have HR := Lib.hid (hO.rd (by omega))
  clear hb hO h0
  go_wp2_with fail
  refine (ref_Sum u _ _ HR.out).mono ?_
  rintro e w2 ⟨rfl, rfl⟩
  go_wp2
  go_ret
  exact ⟨rfl, HB1.out⟩

end Go.Proofs.YtdegeifklchjaaaDoor
