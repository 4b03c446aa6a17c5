/-
  The document's own answers for layer 5: Check.
-/
import Derived.Test.YtdegeifklchjaaaDoorSchRefFine
import Derived.Deep.QuietTactic
import Derived.BigQuiet
set_option linter.unusedVariables false
set_option linter.unusedSimpArgs false
set_option maxRecDepth 1000000
namespace Go.Proofs.YtdegeifklchjaaaDoor
open Go.RowKit Go.Shelf

/-- 's[:i]' of a slice of columns. -/
theorem RdC.upto {w : World} {v : Value} {cs : List ColB} (h : RdC w v cs) (i : Nat) (hi : i ≤ cs.length) :
    ∃ v', (∀ u, (Instr.slice 22 v none (some (.int .i64 (i : Int))) none).run Tryd.prog u = .ok v' u) ∧ ∀ w', RdC w' v cs → RdC w' v' (cs.take i) := by
  obtain ⟨ao, cap, hv, hcap, hnil, hsome⟩ := RdG.shape h
  rw [List.length_map] at hcap hsome hv
  subst hv
  refine ⟨.slice ao i cap, fun u => ?_, fun w' h' => ?_⟩
  · rw [run_slice_h (P := Tryd.prog) u 22 ao cs.length cap Tryd.underlying22 .i64 i (by omega) (by omega)]
    simp [go_sem, Result.andThen, sliced]
  · have hsm := RdC.small h'
    have hlen : (cs.take i).length = i := by simp; omega
    refine ⟨⟨ao, cap, by rw [List.length_map, hlen], by rw [List.length_map, hlen]; omega, hnil, fun hp => hsome (by rw [List.length_map, hlen] at hp; omega)⟩, fun j hj k u hu => ?_, fun x hx => ?_, by rw [List.length_map, hlen]; omega⟩
    · rw [List.length_map, hlen] at hj
      have hjc : j < cs.length := by omega
      have e : ((cs.take i).map colV).getD j [] = (cs.map colV).getD j [] := by
        rw [getD_map colV _ j (by rw [hlen]; exact hj) default, getD_map colV _ j hjc default]
        congr 1
        simp [List.getD, hj]
      rw [e] at hu
      have := RdG.cells h' j (by rw [List.length_map]; exact hjc) k u hu
      obtain ⟨b, o, he⟩ := hsome (by omega)
      subst he
      rw [adr_lit] at this ⊢
      exact this
    · obtain ⟨c, _, rfl⟩ := List.mem_map.1 hx
      rfl

set_option maxHeartbeats 4000000 in
theorem ref_Check05 (v : Value) (cs : List ColB) (w : World) (h : RdC w v cs) (hC : CS cs) :
    Calls Tryd.prog 13 #[v] w fun e w' => e = .returned (.int .i64 (errS (colsL cs) : Nat)) ∧ Below w.heap.size w w' := by
  have hlen := h.len
  have hsm := h.small
  by_cases h0 : cs.length = 0
  · have HE := Lib.hid (show errS (colsL cs) = 4 by unfold errS; rw [colsL_length, if_pos h0])
    have q : ((cs.length : Int) == 0) = true := by rw [h0]; rfl
    clear h0 h
    go_enter Tryd.func13, Tryd.ntmps13
    go_wp2
    go_ret
    exact ⟨by rw [HE.out]; rfl, Below.refl _ _⟩
  have q : ((cs.length : Int) == 0) = false := by rw [beq_eq_false_iff_ne]; omega
  by_cases h8 : 8 < cs.length
  · have HE := Lib.hid (show errS (colsL cs) = 13 by unfold errS; rw [colsL_length, if_neg h0, if_pos h8])
    have q2 : decide ((cs.length : Int) > 8) = true := decide_eq_true (by omega)
    clear h0 h
    go_enter Tryd.func13, Tryd.ntmps13
    go_wp2
    go_ret
    exact ⟨by rw [HE.out]; rfl, Below.refl _ _⟩
  have q2 : decide ((cs.length : Int) > 8) = false := decide_eq_false (by omega)
  have HE := Lib.hid (show errS (colsL cs) = errFrom [] (colsL cs) by unfold errS; rw [colsL_length, if_neg h0, if_neg h8])
  clear h0
  have HH := Lib.hid h
  have HB0 := Lib.hid (Below.refl w.heap.size w)
  clear h
  go_enter Tryd.func13, Tryd.ntmps13
  go_wp2
  go_loopw [3] (fun i wr => ∃ k : Nat, k ≤ cs.length ∧ i = .int .i64 k ∧ Hid (Below w.heap.size w wr) ∧ Hid (errFrom [] (colsL cs) = errFrom (names ((colsL cs).take k)) ((colsL cs).drop k))) (fun i _ => cs.length - (intOf i).toNat)
  case atStart => exact ⟨0, by omega, rfl, HB0, Lib.hid rfl⟩
  case round =>
    clear HB0
    obtain ⟨k, hk, rfl, HB, HN⟩ := hrel
    by_cases hlt : k < cs.length
    · have hr := HH.out.later HB.out (Nat.le_refl _)
      obtain ⟨b, o, hidx, hcell, hblk⟩ := hr.get hlt
      obtain ⟨hc0, hc1⟩ := hcell _ hr
      obtain ⟨vu, hup, hur⟩ := hr.upto k hk
      have HU := Lib.hid (hur _ hr)
      obtain ⟨hs1, hk1, hk2⟩ := hC.get hlt
      have hst := errFrom_step (cs := colsL cs) (k := k) (by rw [colsL_length]; exact hlt)
      rw [colsL_getD hlt] at hst
      rcases hcg : cs.getD k default with ⟨s, kd⟩
      rw [hcg] at hc0 hc1 hs1 hk1 hk2 hst
      dsimp only at hc0 hc1 hs1 hk1 hk2
      have hS := rdS_of hs1
      obtain ⟨l, hl⟩ : ∃ l, l = s.data.toList := ⟨_, rfl⟩
      rw [← hl] at hS
      have hst : errFrom (names ((colsL cs).take k)) ((colsL cs).drop k) = if colErr (names ((colsL cs).take k)) (l, kd) ≠ 0 then colErr (names ((colsL cs).take k)) (l, kd) else errFrom (names ((colsL cs).take (k + 1))) ((colsL cs).drop (k + 1)) := by
        rw [hst]; unfold colL; rw [← hl]
      have HST := Lib.hid hst
      have hsl := hS.len
      have HS := Lib.hid hS
      have hnm : names (colsL (cs.take k)) = names ((colsL cs).take k) := by unfold colsL; rw [List.map_take]
      have hfn := fun u (hu : RdC u vu (cs.take k)) => ref_Fine s l vu (cs.take k) u HS.out hu
      rw [hnm] at hfn
      obtain ⟨ff, hff⟩ : ∃ ff, ff = fine l (names ((colsL cs).take k)) := ⟨_, rfl⟩
      rw [← hff] at hfn
      have HFN := Lib.hid hfn
      have HFF := Lib.hid hff
      clear hst hcg hcell hr hl hS hs1 hnm hfn hff hur
      by_cases h32 : 32 < l.length
      · have q3 : decide ((l.length : Int) > 32) = true := decide_eq_true (by omega)
        have HF := Lib.hid (show errS (colsL cs) = 7 by
          rw [HE.out, HN.out, HST.out]
          have e : colErr (names ((colsL cs).take k)) (l, kd) = 7 := by unfold colErr; exact if_pos h32
          rw [e]; rfl)
        go_wp2
        go_ret
        exact ⟨by rw [HF.out]; rfl, HB.out⟩
      · have q3 : decide ((l.length : Int) > 32) = false := decide_eq_false (by omega)
        cases ff with
        | false =>
          have HF := Lib.hid (show errS (colsL cs) = 2 by
            rw [HE.out, HN.out, HST.out]
            have e : colErr (names ((colsL cs).take k)) (l, kd) = 2 := by unfold colErr; rw [if_neg h32, if_pos HFF.out.symm]
            rw [e]; rfl)
          go_wp2_with fail
          go_quiet ((go_at_call 29; exact Calls.quiet_of_same (HFN.out _ (HU.out.later (below_drewN (Below.refl _ _) _) (Nat.le_refl _)))))
          go_wp2
          go_ret
          exact ⟨by rw [HF.out]; rfl, below_drewN HB.out _⟩
        | true =>
          by_cases hkd : 0 ≤ kd ∧ kd ≤ 5
          · have HN2 := Lib.hid (show errFrom [] (colsL cs) = errFrom (names ((colsL cs).take (k + 1))) ((colsL cs).drop (k + 1)) by
              rw [HN.out, HST.out]
              have e : colErr (names ((colsL cs).take k)) (l, kd) = 0 := by unfold colErr; rw [if_neg h32, if_neg (by rw [← HFF.out]; decide), if_neg (by dsimp only; omega)]
              rw [e]; rfl)
            have d1 : decide (kd < 0) = false := decide_eq_false (by omega)
            have d2 : decide (kd > 5) = false := decide_eq_false (by omega)
            go_wp2_with fail
            go_quiet ((go_at_call 29; exact Calls.quiet_of_same (HFN.out _ (HU.out.later (below_drewN (Below.refl _ _) _) (Nat.le_refl _)))))
            go_wp2
            go_roundw
            case rel => exact ⟨k + 1, by omega, by go_num, Lib.hid (below_drewN HB.out _), HN2⟩
            case measure => simp [intOf]; omega
          · have HF := Lib.hid (show errS (colsL cs) = 10 by
              rw [HE.out, HN.out, HST.out]
              have e : colErr (names ((colsL cs).take k)) (l, kd) = 10 := by unfold colErr; rw [if_neg h32, if_neg (by rw [← HFF.out]; decide), if_pos (by dsimp only; omega)]
              rw [e]; rfl)
            by_cases hk0 : kd < 0
            · have d1 : decide (kd < 0) = true := decide_eq_true hk0
              go_wp2_with fail
              go_quiet ((go_at_call 29; exact Calls.quiet_of_same (HFN.out _ (HU.out.later (below_drewN (Below.refl _ _) _) (Nat.le_refl _)))))
              go_wp2
              go_ret
              exact ⟨by rw [HF.out]; rfl, below_drewN HB.out _⟩
            · have d1 : decide (kd < 0) = false := decide_eq_false (by omega)
              have d2 : decide (kd > 5) = true := decide_eq_true (by omega)
              go_wp2_with fail
              go_quiet ((go_at_call 29; exact Calls.quiet_of_same (HFN.out _ (HU.out.later (below_drewN (Below.refl _ _) _) (Nat.le_refl _)))))
              go_wp2
              go_ret
              exact ⟨by rw [HF.out]; rfl, below_drewN HB.out _⟩
    · obtain rfl : k = cs.length := by omega
      have HF := Lib.hid (show errS (colsL cs) = 0 by
        rw [HE.out, HN.out, List.drop_of_length_le (by rw [colsL_length]; omega)]; rfl)
      clear hlt
      go_wp2
      go_ret
      exact ⟨by rw [HF.out]; rfl, HB.out⟩

end Go.Proofs.YtdegeifklchjaaaDoor
