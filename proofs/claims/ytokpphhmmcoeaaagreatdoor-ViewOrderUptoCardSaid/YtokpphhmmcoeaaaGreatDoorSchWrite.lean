/-
  Package schema: Write, Print.
-/
import Derived.Test.YtokpphhmmcoeaaaGreatDoorGSchema
import Derived.Test.YtokpphhmmcoeaaaGreatDoorGBaseB
import Derived.Test.YtokpphhmmcoeaaaGreatDoorGWire
import Derived.Test.YtokpphhmmcoeaaaGreatDoorGCrcW
set_option linter.unusedVariables false
set_option linter.unusedSimpArgs false
set_option maxRecDepth 1000000
namespace Go.Proofs.YtokpphhmmcoeaaaGreatDoor
open Go.RowKit Go.Shelf

theorem wrCols_small : ∀ (cs : List Col), (∀ c ∈ cs, c.1.length ≤ 32) → (wrCols cs).length ≤ 60 * cs.length
  | [], _ => by simp [wrCols]
  | c :: r, h => by
    have ih := wrCols_small r (fun x hx => h x (by simp [hx]))
    have hc := h c (by simp)
    have := encU_le c.1.length (by omega)
    have e : (wrCol c).length = (encU c.1.length).length + c.1.length + 1 := by unfold wrCol encB; simp; omega
    unfold wrCols at ih ⊢
    rw [List.flatMap_cons, List.length_append, List.length_cons, e]
    omega
theorem wrS_small {cs : List Col} (h : errS cs = 0) : (wrS cs).length ≤ 1000 := by
  obtain ⟨h1, h2, _, h4⟩ := errS_zero h
  have := wrCols_small cs (fun c hc => (h4 c hc).1)
  have := encU_le cs.length (by omega)
  unfold wrS
  rw [List.length_append]
  omega

/-- What Write answers. -/
def WrO (w : World) (cs : List Col) (e : Ending) (w' : World) : Prop :=
  ∃ v, e = .returned (.tuple #[v, .int .i64 (errS cs : Nat)]) ∧ Below w.heap.size w w' ∧ ((errS cs ≠ 0 ∧ v = .slice none 0 0) ∨ (errS cs = 0 ∧ Own w' w.heap.size v (wrS cs)))

set_option maxHeartbeats 4000000 in
theorem schema_Write (v : Value) (cs : List ColB) (w : World) (h : RdC w v cs) (hC : CS cs) (hT : Tabs w) :
    Calls Tryz.prog 33 #[v] w (WrO w (colsL cs)) := by
  have hlen := h.len
  have hsm := h.small
  have hcd := errS_codes (colsL cs)
  by_cases h0 : errS (colsL cs) = 0
  · have HZ := Lib.hid h0
    obtain ⟨z1, z2, z3, z4⟩ := errS_zero h0
    rw [colsL_length] at z1 z2
    have HH := Lib.hid h
    clear h h0
    go_enter Tryz.func33, Tryz.ntmps33
    go_wp2_with fail
    refine (schema_Check v cs w HH.out hC hT).mono ?_
    rintro e w1 ⟨rfl, hb⟩
    rw [HZ.out]
    have HB1 := Lib.hid hb
    clear hb
    go_wp2_with fail
    refine (wire_Uint (cs.length : Int) (by omega) (by omega) w1).mono ?_
    rintro e w2 ⟨u, rfl, hO, hb⟩
    rw [Int.toNat_natCast] at hO
    have HO := Lib.hid (hO.base HB1.out.size)
    have HB2 := Lib.hid (HB1.out.trans (hb.mono HB1.out.size))
    clear hb hO
    go_wp2
    go_loopw [5, 19] (fun a i wr => ∃ k : Nat, k ≤ cs.length ∧ i = .int .i64 k ∧ Hid (Below w.heap.size w wr) ∧ Hid (Own wr w.heap.size a (encU cs.length ++ wrCols ((colsL cs).take k))) ∧ Hid ((encU cs.length ++ wrCols ((colsL cs).take k)).length ≤ 10 + 60 * k)) (fun _ i _ => cs.length - (intOf i).toNat)
    case atStart =>
      refine ⟨0, by omega, rfl, HB2, ?_, Lib.hid ?_⟩
      · simpa [wrCols] using HO
      · have := encU_le cs.length (by omega); simpa [wrCols] using this
    case round =>
      clear HO HB2
      obtain ⟨k, hk, rfl, HB, HO, HLen⟩ := hrel
      by_cases hlt : k < cs.length
      · have hr := HH.out.later HB.out (Nat.le_refl _)
        obtain ⟨b, o, hidx, hcell, hblk⟩ := hr.get hlt
        obtain ⟨hc0, hc1⟩ := hcell _ hr
        obtain ⟨hs1, hk1, hk2⟩ := hC.get hlt
        have hz := z4 ((colsL cs).getD k default) (by
          rw [show (colsL cs).getD k default = (colsL cs)[k]'(by rw [colsL_length]; exact hlt) from by simp [List.getD, colsL_length, hlt]]
          exact List.getElem_mem _)
        rw [colsL_getD hlt] at hz
        have hws := wrCols_succ (cs := colsL cs) (k := k) (by rw [colsL_length]; exact hlt)
        rw [colsL_getD hlt] at hws
        rcases hcg : cs.getD k default with ⟨s, kd⟩
        rw [hcg] at hc0 hc1 hs1 hk1 hk2 hz hws
        dsimp only at hc0 hc1 hs1 hk1 hk2
        have hS := rdS_of hs1
        obtain ⟨l, hl⟩ : ∃ l, l = s.data.toList := ⟨_, rfl⟩
        rw [← hl] at hS
        have hz : l.length ≤ 32 ∧ 0 ≤ kd ∧ kd ≤ 5 := by rw [hl]; exact hz
        have hws : wrCols ((colsL cs).take (k + 1)) = (wrCols ((colsL cs).take k) ++ encB l) ++ [UInt8.ofNat kd.toNat] := by rw [hl]; exact hws
        have HWS := Lib.hid hws
        have HS := Lib.hid hS
        clear hr hcell hcg hl hS hws hs1 z4
        have HB1 := Lib.hid (HB.out.alloc HB.out.size (.cells #[.string s, .int .i64 kd] 68))
        have HO1 := Lib.hid (HO.out.alloc (.cells #[.string s, .int .i64 kd] 68))
        obtain ⟨N0, N1, N2⟩ := new1 wr (.cells #[.string s, .int .i64 kd] 68)
        obtain ⟨w3, hw3⟩ : ∃ w3, w3 = wr.alloc (.cells #[.string s, .int .i64 kd] 68) := ⟨_, rfl⟩
        obtain ⟨bv, w4, hrun, hRd, hb⟩ := bytes_of_str HS.out w3
        rw [hw3] at hrun
        rw [← hw3] at HB1 HO1 N1
        have HB4 := Lib.hid (HB1.out.trans (hb.mono HB1.out.size))
        have HO4 := Lib.hid (HO1.out.later hb (Nat.le_refl _))
        have Q4 := Lib.hid (keepB N1 hb)
        have HRd := Lib.hid hRd
        clear N0 N1 N2 hb hRd hw3
        go_wp2_with fail
        refine (wire_Bytes bv l w4 HRd.out).mono ?_
        rintro e w5 ⟨y, rfl, hO5, hb⟩
        have HB5 := Lib.hid (HB4.out.trans (hb.mono HB4.out.size))
        have HO5 := Lib.hid (HO4.out.later hb (Nat.le_refl _))
        have Q5 := Lib.hid (keepB Q4.out hb)
        have hY := hO5.rd (by have := encU_le l.length (by omega); unfold encB; simp; omega)
        have HY := Lib.hid hY
        clear hb hO5 hY hrun hc0 hc1
        go_wp2_with (with_reducible refine wpl_append w.heap.size _ _ ?hs HO5.out _ (encB l) ?hx HY.out ?hn ?hbase w.heap.size w HB5.out (Nat.le_refl _) ?_)
        case hs => rfl
        case hx => rfl
        case hn => have := encU_le l.length (by omega); have := HLen.out; unfold encB; simp at this ⊢; omega
        case hbase => exact HB5.out.size
        intro v6 w6 hO6 hB6 hg6
        have HO6 := Lib.hid hO6
        have HB6 := Lib.hid hB6
        have hlb := fun j hj => World.ownsRow.lt HO.out j hj
        have q6 := (hg6.block wr.heap.size (Nat.lt_of_lt_of_le (Array.getElem?_eq_some_iff.1 Q5.out).1 (Nat.le_refl _)) (fun hh => by have := (hlb _ hh.symm).2; omega)).trans Q5.out
        have c1 := new_cellC (i := 1) q6 rfl
        have hkn : kd.toNat < 256 := by omega
        clear hO6 hB6 hg6 hlb q6
        have hbelA : Below w.heap.size w (w6.alloc (.cells #[.int .u8 kd] 5)) := HB6.out.alloc HB6.out.size _
        have HbA := Lib.hid hbelA
        clear hbelA
        go_wp2_with (with_reducible refine wpl_append w.heap.size _ _ ?hs (HO6.out.alloc _) _ [UInt8.ofNat kd.toNat] ?hx (rd_one w6 kd (by omega) (by omega)) ?hn ?hbase w.heap.size w HbA.out (Nat.le_refl _) ?_)
        case hs => rfl
        case hx => rfl
        case hn => have := encU_le l.length (by omega); have := HLen.out; unfold encB; simp at this ⊢; omega
        case hbase => exact HbA.out.size
        intro v8 w8 hO8 hB8 hg8
        have HO8 := Lib.hid (show Own w8 w.heap.size v8 (encU cs.length ++ wrCols ((colsL cs).take (k + 1))) by rw [HWS.out, ← List.append_assoc, ← List.append_assoc]; exact hO8)
        have HB8 := Lib.hid hB8
        have HL8 := Lib.hid (show (encU cs.length ++ wrCols ((colsL cs).take (k + 1))).length ≤ 10 + 60 * (k + 1) by
          have h1 := encU_le l.length (by omega); have h2 := HLen.out
          rw [HWS.out]; unfold encB; simp at h2 ⊢; omega)
        clear hO8 hB8 hg8 c1
        go_wp2
        go_roundw
        case rel => exact ⟨k + 1, by omega, by go_num, HB8, HO8, HL8⟩
        case measure => simp [intOf]; omega
      · obtain rfl : k = cs.length := by omega
        have ht : (colsL cs).take cs.length = colsL cs := List.take_of_length_le (by rw [colsL_length]; omega)
        have HO2 := Lib.hid (show Own wr w.heap.size u5 (wrS (colsL cs)) by
          have := HO.out
          rw [ht] at this
          unfold wrS; rw [colsL_length]; exact this)
        clear hlt ht
        go_wp2
        go_ret2
        exact ⟨_, by rw [HZ.out]; rfl, HB.out, .inr ⟨HZ.out, HO2.out⟩⟩
  · have hne : (((errS (colsL cs) : Nat) : Int) != 0) = true := by simp; omega
    obtain ⟨x, hx⟩ : ∃ x, x = errS (colsL cs) := ⟨_, rfl⟩
    rw [← hx] at hne
    have hck := schema_Check v cs w h hC hT
    rw [← hx] at hck
    have HX := Lib.hid hx
    clear hx h
    go_enter Tryz.func33, Tryz.ntmps33
    go_wp2_with fail
    refine hck.mono ?_
    rintro e w1 ⟨rfl, hb⟩
    have HB1 := Lib.hid hb
    clear hb hck
    go_wp2
    go_ret2
    exact ⟨_, by rw [← HX.out]; rfl, HB1.out, .inl ⟨h0, rfl⟩⟩

theorem schema_Print (v : Value) (cs : List ColB) (w : World) (h : RdC w v cs) (hC : CS cs) (hT : Tabs w) :
    Calls Tryz.prog 19 #[v] w fun e w' => e = .returned (.tuple #[.int .u32 ((if errS (colsL cs) = 0 then Crc.sum (wrS (colsL cs)) else 0 : Nat) : Int), .int .i64 (errS (colsL cs) : Nat)]) ∧ Below w.heap.size w w' := by
  by_cases h0 : errS (colsL cs) = 0
  · rw [if_pos h0]
    have HZ := Lib.hid h0
    have hw := errS_zero h0
    have hwl := wrS_small h0
    clear h0 hw
    go_enter Tryz.func19, Tryz.ntmps19
    go_wp2_with fail
    refine (schema_Write v cs w h hC hT).mono ?_
    rintro e w1 ⟨u, rfl, hb, ⟨hh, _⟩ | ⟨_, hO⟩⟩
    · exact absurd HZ.out hh
    rw [HZ.out]
    have HB1 := Lib.hid hb
    have HR := Lib.hid (hO.rd (by omega))
    clear hb hO
    go_wp2_with fail
    refine (crc_Sum u _ _ HR.out).mono ?_
    rintro e w2 ⟨rfl, hb⟩
    have HB2 := Lib.hid (HB1.out.trans (hb.mono HB1.out.size))
    clear hb
    go_wp2
    go_ret2
    exact ⟨by rw [HZ.out]; rfl, HB2.out⟩
  · rw [if_neg h0]
    have hne : (((errS (colsL cs) : Nat) : Int) != 0) = true := by simp; omega
    obtain ⟨x, hx⟩ : ∃ x, x = errS (colsL cs) := ⟨_, rfl⟩
    rw [← hx] at hne
    have HX := Lib.hid hx
    rw [← hx]
    go_enter Tryz.func19, Tryz.ntmps19
    go_wp2_with fail
    refine (schema_Write v cs w h hC hT).mono ?_
    rintro e w1 ⟨u, rfl, hb, ⟨_, rfl⟩ | ⟨hh, _⟩⟩
    · rw [← HX.out]
      have HB1 := Lib.hid hb
      clear hb hx
      go_wp2
      go_ret2
      exact ⟨rfl, HB1.out⟩
    · exact absurd hh h0

end Go.Proofs.YtokpphhmmcoeaaaGreatDoor
