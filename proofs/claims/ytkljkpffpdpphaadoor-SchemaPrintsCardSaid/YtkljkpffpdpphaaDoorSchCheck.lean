/-
  Package schema: Check.
-/
import Derived.Test.YtkljkpffpdpphaaDoorSchema
set_option linter.unusedVariables false
set_option linter.unusedSimpArgs false
set_option maxRecDepth 1000000
namespace Go.Proofs.YtkljkpffpdpphaaDoor
open Go.RowKit Go.Shelf

/-- A column as its name's bytes and its kind. -/
def colL (c : ColB) : Col := (c.1.data.toList, c.2)
def colsL (cs : List ColB) : List Col := cs.map colL
theorem colsL_length (cs : List ColB) : (colsL cs).length = cs.length := by simp [colsL]
theorem colsL_getD {cs : List ColB} {k : Nat} (h : k < cs.length) : (colsL cs).getD k default = colL (cs.getD k default) := by
  simp [colsL, List.getD, h]
theorem CS.get {cs : List ColB} (h : CS cs) {k : Nat} (hk : k < cs.length) : (cs.getD k default).1.size ≤ 140737488351232 ∧ -9223372036854775808 ≤ (cs.getD k default).2 ∧ (cs.getD k default).2 ≤ 9223372036854775807 := by
  have e : cs.getD k default = cs[k] := by simp [List.getD, hk]
  rw [e]; exact h _ (List.getElem_mem _)

set_option maxHeartbeats 4000000 in
theorem schema_Check (v : Value) (cs : List ColB) (w : World) (h : RdC w v cs) (hC : CS cs) (hT : Tabs w) :
    Calls Tryd.prog 14 #[v] w fun e w' => e = .returned (.int .i64 (errS (colsL cs) : Nat)) ∧ Below w.heap.size w w' := by
  have hlen := h.len
  have hsm := h.small
  by_cases h0 : cs.length = 0
  · have HE := Lib.hid (show errS (colsL cs) = 4 by unfold errS; rw [colsL_length, if_pos h0])
    have q : ((cs.length : Int) == 0) = true := by rw [h0]; rfl
    clear h0 h
    go_enter Tryd.func14, Tryd.ntmps14
    go_wp2
    go_ret
    exact ⟨by rw [HE.out]; rfl, Below.refl _ _⟩
  have q : ((cs.length : Int) == 0) = false := by rw [beq_eq_false_iff_ne]; omega
  by_cases h8 : 8 < cs.length
  · have HE := Lib.hid (show errS (colsL cs) = 13 by unfold errS; rw [colsL_length, if_neg h0, if_pos h8])
    have q2 : decide ((cs.length : Int) > 8) = true := decide_eq_true (by omega)
    clear h0 h
    go_enter Tryd.func14, Tryd.ntmps14
    go_wp2
    go_ret
    exact ⟨by rw [HE.out]; rfl, Below.refl _ _⟩
  have q2 : decide ((cs.length : Int) > 8) = false := decide_eq_false (by omega)
  have HE := Lib.hid (show errS (colsL cs) = errFrom [] (colsL cs) by unfold errS; rw [colsL_length, if_neg h0, if_neg h8])
  clear h0
  have HH := Lib.hid h
  clear h
  go_enter Tryd.func14, Tryd.ntmps14
  go_wp2_with fail
  refine (schema_namer w).mono ?_
  rintro e w1 ⟨rfl, hW, hb⟩
  have HW := Lib.hid hW
  have HB := Lib.hid hb
  clear hW hb
  go_wp2
  go_loopw [15] (fun i wr => ∃ k : Nat, k ≤ cs.length ∧ i = .int .i64 k ∧ Hid (Below w.heap.size w wr) ∧ Hid (Were wr (w.heap.size + 1) w.heap.size (names ((colsL cs).take k))) ∧ Hid (errFrom [] (colsL cs) = errFrom (names ((colsL cs).take k)) ((colsL cs).drop k))) (fun i _ => cs.length - (intOf i).toNat)
  case atStart => exact ⟨0, by omega, rfl, HB, HW, Lib.hid rfl⟩
  case round =>
    clear HW HB
    obtain ⟨k, hk, rfl, HB, HW, HN⟩ := hrel
    by_cases hlt : k < cs.length
    · have hr := HH.out.later HB.out (Nat.le_refl _)
      obtain ⟨b, o, hidx, hcell, hblk⟩ := hr.get hlt
      obtain ⟨hc0, hc1⟩ := hcell _ hr
      obtain ⟨hs1, hk1, hk2⟩ := hC.get hlt
      have hst := errFrom_step (cs := colsL cs) (k := k) (by rw [colsL_length]; exact hlt)
      rw [colsL_getD hlt] at hst
      rcases hcg : cs.getD k default with ⟨s, kd⟩
      rw [hcg] at hc0 hc1 hs1 hk1 hk2 hst
      dsimp only at hc0 hc1 hs1 hk1 hk2
      have hS := rdS_of hs1
      obtain ⟨l, hl⟩ : ∃ l, l = s.data.toList := ⟨_, rfl⟩
      rw [← hl] at hS
      have hst : errFrom (names ((colsL cs).take k)) ((colsL cs).drop k) = if colErr (names ((colsL cs).take k)) (l, kd) ≠ 0 then colErr (names ((colsL cs).take k)) (l, kd) else errFrom (names ((colsL cs).take (k + 1))) ((colsL cs).drop (k + 1)) := by
        rw [hst]; unfold colL; rw [← hl]
      have HST := Lib.hid hst
      have HG := Lib.hid hcg
      have hsl := hS.len
      have hidx' := hidx
      have HL := Lib.hid hl
      have HS := Lib.hid hS
      clear hst hcg hcell hr hl hS hs1
      by_cases h32 : 32 < l.length
      · have q3 : decide ((l.length : Int) > 32) = true := decide_eq_true (by omega)
        have HF := Lib.hid (show errS (colsL cs) = 7 by
          rw [HE.out, HN.out, HST.out]
          have e : colErr (names ((colsL cs).take k)) (l, kd) = 7 := by unfold colErr; exact if_pos h32
          rw [e]; rfl)
        go_wp2
        go_ret
        exact ⟨by rw [HF.out]; rfl, HB.out.alloc HB.out.size _⟩
      · have q3 : decide ((l.length : Int) > 32) = false := decide_eq_false (by omega)
        have HB1 := Lib.hid (HB.out.alloc HB.out.size (.cells #[.string s, .int .i64 kd] 51))
        obtain ⟨N0, N1, N2⟩ := new1 wr (.cells #[.string s, .int .i64 kd] 51)
        have HW1 := Lib.hid (HW.out.alloc (.cells #[.string s, .int .i64 kd] 51))
        have Q1 := Lib.hid N1
        have hwr := HB.out.size
        have hwl := HW.out.lt
        clear N0 N1 N2
        go_wp2_with fail
        refine (schema_fits s l (w.heap.size + 1) w.heap.size _ _ HS.out HW1.out (by simp [names]; omega)).mono ?_
        rintro e w2 ⟨rfl, hW2, hg⟩
        have HW2 := Lib.hid hW2
        have q2 := (hg.block wr.heap.size (by simp) (by simp; omega)).trans Q1.out
        have c0 := new_cellC (i := 0) q2 rfl
        have c1 := new_cellC (i := 1) q2 rfl
        have HB2 := Lib.hid (HB1.out.grown hg (by simp; omega) (fun j hj => by cases hj; exact Nat.le_refl _))
        have hn2 : names ((colsL cs).take (k + 1)) = names ((colsL cs).take k) ++ [l] := by
          rw [take_succD (by rw [colsL_length]; exact hlt) default, colsL_getD hlt, HG.out, HL.out]
          simp [names, colL]
        rw [← hn2] at hW2
        replace HW2 := Lib.hid hW2
        clear hW2 hg q2 HW1 hn2 hc0 hc1
        by_cases hf : fine l (names ((colsL cs).take k)) = true
        · rw [hf]
          go_wp2_with fail
          refine (schema_isKind kd w2 (hT.later HB2.out)).mono ?_
          rintro e w3 ⟨rfl, hb⟩
          have HB3 := Lib.hid (HB2.out.trans (hb.mono HB2.out.size))
          have HW3 := Lib.hid (HW2.out.later hb (Nat.le_refl _))
          clear hb c0 c1
          by_cases hkd : 0 ≤ kd ∧ kd ≤ 5
          · rw [show kindOk kd = true from decide_eq_true hkd]
            have HN2 := Lib.hid (show errFrom [] (colsL cs) = errFrom (names ((colsL cs).take (k + 1))) ((colsL cs).drop (k + 1)) by
              rw [HN.out, HST.out]
              have e : colErr (names ((colsL cs).take k)) (l, kd) = 0 := by unfold colErr; rw [if_neg h32, if_neg (by rw [hf]; decide), if_neg (by dsimp only; omega)]
              rw [e]; rfl)
            clear hf
            go_wp2
            go_roundw
            case rel => exact ⟨k + 1, by omega, by go_num, HB3, HW3, HN2⟩
            case measure => simp [intOf]; omega
          · rw [show kindOk kd = false from decide_eq_false hkd]
            have HF := Lib.hid (show errS (colsL cs) = 10 by
              rw [HE.out, HN.out, HST.out]
              have e : colErr (names ((colsL cs).take k)) (l, kd) = 10 := by unfold colErr; rw [if_neg h32, if_neg (by rw [hf]; decide), if_pos (by dsimp only; omega)]
              rw [e]; rfl)
            clear hf
            go_wp2
            go_ret
            exact ⟨by rw [HF.out]; rfl, HB3.out⟩
        · have hf' : fine l (names ((colsL cs).take k)) = false := by simpa using hf
          have HF := Lib.hid (show errS (colsL cs) = 2 by
            rw [HE.out, HN.out, HST.out]
            have e : colErr (names ((colsL cs).take k)) (l, kd) = 2 := by unfold colErr; rw [if_neg h32, if_pos hf']
            rw [e]; rfl)
          rw [hf']
          clear hf hf'
          go_wp2
          go_ret
          exact ⟨by rw [HF.out]; rfl, HB2.out⟩
    · obtain rfl : k = cs.length := by omega
      have HF := Lib.hid (show errS (colsL cs) = 0 by
        rw [HE.out, HN.out, List.drop_of_length_le (by rw [colsL_length]; omega)]; rfl)
      clear hlt
      go_wp2
      go_ret
      exact ⟨by rw [HF.out]; rfl, HB.out⟩

end Go.Proofs.YtkljkpffpdpphaaDoor
