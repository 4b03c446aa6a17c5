/-
  zset.Check, zset.checkRows.
-/
import Derived.Test.YtedfcnlhdicipaaDoorGZRef
import Derived.Test.YtedfcnlhdicipaaDoorRowCmp
set_option linter.unusedVariables false
set_option linter.unusedSimpArgs false
set_option maxRecDepth 1000000
namespace Go.Proofs.YtedfcnlhdicipaaDoor
open Go.RowKit Go.Shelf

set_option maxHeartbeats 4000000 in
theorem zset_Check (v1 v2 : Value) (cs : List ColB) (ps : List PairB) (w : World) (h1 : RdC w v1 cs) (h2 : RdP w v2 ps) (hC : CS cs) (hP : PSO ps) (hT : Tabs w) :
    Calls Tryd.prog 7 #[v1, v2] w fun e w' => e = .returned (.int .i64 (chkZ cs ps : Nat)) ∧ Below w.heap.size w w' := by
  have SC := Lib.hid (schema_Check v1 cs w h1 hC hT)
  have hl2 := h2.len
  have hsm := h2.small
  have HT := Lib.hid hT
  have H2 := Lib.hid h2
  have R1 := Lib.hid (fun wz (hz : Below w.heap.size w wz) => h1.later hz (Nat.le_refl _))
  clear h1 h2 hT
  obtain ⟨x, hx⟩ : ∃ x, x = errS (colsL cs) := ⟨_, rfl⟩
  rw [← hx] at SC
  by_cases h0 : x = 0
  · subst h0
    obtain ⟨n, hn⟩ : ∃ n, n = ps.length := ⟨_, rfl⟩
    rw [← hn] at hl2 hsm
    by_cases hbig : 1024 < n
    · have HE := Lib.hid (show chkZ cs ps = 13 from by unfold chkZ; rw [if_neg (by omega), if_pos (by omega)])
      clear hx hn
      go_enter Tryd.func7, Tryd.ntmps7
      go_wp2_with fail
      refine SC.out.mono ?_
      rintro e w1 ⟨rfl, hb⟩
      go_wp2
      go_ret
      exact ⟨by rw [HE.out]; rfl, hb⟩
    · have HE := Lib.hid (show chkZ cs ps = chkF cs none ps from by unfold chkZ; rw [if_neg (by omega), if_neg (by omega)])
      have HN := Lib.hid hn
      clear hx hn
      go_enter Tryd.func7, Tryd.ntmps7
      go_wp2_with fail
      refine SC.out.mono ?_
      rintro e w1 ⟨rfl, hb⟩
      have HB1 := Lib.hid hb
      clear hb SC
      go_wp2
      go_loopw [19] (fun i wr => ∃ k : Nat, k ≤ n ∧ i = .int .i64 k ∧ Hid (chkF cs none ps = chkF cs (prevR ps k) (ps.drop k)) ∧ Hid (Below w.heap.size w wr)) (fun i _ => n - (intOf i).toNat)
      case atStart => exact ⟨0, by omega, rfl, Lib.hid rfl, HB1⟩
      case round =>
        clear HB1
        obtain ⟨k, hk, rfl, HF, HB⟩ := hrel
        by_cases hlt : k < n
        · have k2 : k < ps.length := by rw [← HN.out]; exact hlt
          obtain ⟨b, o, rv, hi, c0, c1, hre, hbl⟩ := H2.out.get k2
          obtain ⟨hce, hww⟩ := hP.get k2
          obtain ⟨ao, nn, cap, rfl⟩ := hre.lit
          have HK := Lib.hid k2
          have HST := Lib.hid (fun a b c => chkF_step (cs := cs) k2 a b c)
          have HD := Lib.hid (drop_get k2)
          obtain ⟨p, hp⟩ : ∃ p, p = ps.getD k default := ⟨_, rfl⟩
          rw [← hp] at c1 hre hce hww HST HD
          rcases p with ⟨r, y⟩
          dsimp only at c1 hre hce hww HST HD
          have hc0 := (HB.out.cell (p := ⟨b, o, none⟩) hbl).trans c0
          have hc1 := (HB.out.cell (p := ⟨b, o + 1, none⟩) hbl).trans c1
          have NN := Lib.hid (new1 wr (.cells #[.slice ao nn cap, .int .i64 y] 48))
          have HBN := Lib.hid (HB.out.trans (NN.out.2.2.mono HB.out.size))
          have CK := Lib.hid (row_Check v1 _ cs r _ (R1.out _ HBN.out) (hre.later HBN.out (Nat.le_refl _)) hC hce (HT.out.later HBN.out))
          have HRE := Lib.hid hre
          have HCE := Lib.hid hce
          clear hp k2 hre hce c0 c1
          obtain ⟨c, hc⟩ : ∃ c, c = errRow cs r := ⟨_, rfl⟩
          rw [← hc] at CK HST
          have HCC := Lib.hid hc
          clear hc
          by_cases hcz : c = 0
          · subst hcz
            go_wp2_with fail
            refine CK.out.mono ?_
            rintro e w2 ⟨rfl, hb⟩
            have HB2 := Lib.hid (HBN.out.trans (hb.mono HBN.out.size))
            have hnb := (hb.block _ (by rw [NN.out.1]; omega)).trans NN.out.2.1
            have d0 := cell_of_row _ _ 0 _ _ _ hnb
            have d1 := cell_of_row _ _ 1 _ _ _ hnb
            simp at d0 d1
            clear hc0 hc1 hb HB CK hnb HBN NN
            by_cases hwz : y = 0
            · have HF2 := Lib.hid (show chkF cs none ps = 2 from by
                rw [HF.out, HD.out]; unfold chkF
                rw [if_neg (fun h9 => h9 HCC.out.symm), if_pos hwz])
              subst hwz
              clear HF
              go_wp2
              go_ret
              exact ⟨by rw [HE.out, HF2.out]; rfl, HB2.out⟩
            · have hyz : (y == 0) = false := by rw [Bool.eq_false_iff]; intro hh; exact hwz (beq_iff_eq.1 hh)
              have HY := Lib.hid hwz
              clear hwz
              by_cases hk0 : k = 0
              · subst hk0
                have HF2 := Lib.hid (HF.out.trans (HST.out (by simp) HY.out (fun r hr => by cases hr)))
                clear HF HST
                rw [show ((0 : Nat) : Int) = 0 from rfl] at hi
                go_wp2
                go_quiet (fail)
                go_wp2
                go_roundw
                case rel => exact ⟨1, by omega, rfl, HF2, Lib.hid (_root_.Go.below_drewN HB2.out _)⟩
                case measure => simp [intOf]; omega
              · obtain ⟨j, hj⟩ : ∃ j, k = j + 1 := ⟨k - 1, by omega⟩
                have j2 : j < ps.length := by have := HK.out; omega
                obtain ⟨b', o', rv', hi', c0', c1', hre', hbl'⟩ := H2.out.get j2
                obtain ⟨hce', _⟩ := hP.get j2
                have hc0' := (HB2.out.cell (p := ⟨b', o', none⟩) hbl').trans c0'
                have CC := Lib.hid (fun wz (hz : Below w2.heap.size w2 wz) => row_Compare v1 rv' _ cs (ps.getD j default).1 r wz (R1.out wz (HB2.out.trans (hz.mono HB2.out.size))) (hre'.later (HB2.out.trans (hz.mono HB2.out.size)) (Nat.le_refl _)) (HRE.out.later (HB2.out.trans (hz.mono HB2.out.size)) (Nat.le_refl _)) hC hce' HCE.out (HT.out.later (HB2.out.trans (hz.mono HB2.out.size))))
                have hsub : (k : Int) - 1 = (j : Int) := by omega
                have hwj : IntKind.i64.wrap (j : Int) = (j : Int) := IntWalk.i64_in _ (by omega)
                have hpos : decide (0 < k) = true := decide_eq_true (by omega)
                have HPR := Lib.hid (show prevR ps k = some (ps.getD j default).1 from by rw [hj]; rfl)
                obtain ⟨m, hm⟩ : ∃ m, m = cmpR cs (ps.getD j default).1 r := ⟨_, rfl⟩
                rw [← hm] at CC
                have HM := Lib.hid hm
                clear hm j2 hre' hce' hk0 c0' c1'
                have HJ := Lib.hid hj
                clear hj
                go_wp2
                go_still_tail 12, (by kernel_rfl)
                change wpList _ _ _ _ _ w2.drew
                have HB3 := Lib.hid HB2.out.drew
                have HD3 := Lib.hid ((Below.refl w2.heap.size w2).drew)
                clear d0 d1 hc0'
                go_wp2_with fail
                refine (CC.out _ HD3.out).mono ?_
                rintro e w3 ⟨rfl, hb⟩
                have HB4 := Lib.hid (HB3.out.trans (hb.mono HB3.out.size))
                clear hb HB3 HD3 CC
                by_cases hm0 : 0 ≤ m
                · have HF2 := Lib.hid (show chkF cs none ps = 9 from by
                    rw [HF.out, HD.out, HPR.out]; unfold chkF
                    rw [if_neg (fun h9 => h9 HCC.out.symm), if_neg HY.out]
                    show (if _ then _ else _) = _
                    rw [if_pos (by rw [← HM.out]; exact hm0)])
                  have hmd : decide (0 ≤ m) = true := decide_eq_true hm0
                  clear HF HST
                  go_wp2
                  go_ret
                  exact ⟨by rw [HE.out, HF2.out]; rfl, HB4.out⟩
                · have HF2 := Lib.hid (HF.out.trans (HST.out (by simp) HY.out (fun r hr => by rw [HPR.out] at hr; injection hr with hr; rw [← hr, ← HM.out]; omega)))
                  have hmd : decide (0 ≤ m) = false := decide_eq_false hm0
                  clear HF HST
                  go_wp2
                  go_roundw
                  case rel => exact ⟨k + 1, by omega, by go_num, HF2, HB4⟩
                  case measure => simp [intOf]; omega
          · have HF2 := Lib.hid (show chkF cs none ps = c from by
              rw [HF.out, HD.out]; unfold chkF
              rw [if_pos (by rw [← HCC.out]; exact hcz), HCC.out])
            have hcq : ((c : Int) != 0) = true := by rw [bne_iff_ne]; omega
            clear HF HST
            go_wp2_with fail
            refine CK.out.mono ?_
            rintro e w2 ⟨rfl, hb⟩
            have HB2 := Lib.hid (HBN.out.trans (hb.mono HBN.out.size))
            clear hb
            go_wp2
            go_ret
            exact ⟨by rw [HE.out, HF2.out]; rfl, HB2.out⟩
        · obtain rfl : k = n := by omega
          have HF2 := Lib.hid (show chkF cs none ps = 0 from by rw [HF.out, HN.out, List.drop_length]; simp [chkF])
          clear HF
          go_wp2
          go_ret
          exact ⟨by rw [HE.out, HF2.out]; rfl, HB.out⟩
  · have HE := Lib.hid (show chkZ cs ps = x from by unfold chkZ; rw [if_pos (by omega), hx])
    have q : ((x : Int) != 0) = true := by rw [bne_iff_ne]; omega
    clear hx
    go_enter Tryd.func7, Tryd.ntmps7
    go_wp2_with fail
    refine SC.out.mono ?_
    rintro e w1 ⟨rfl, hb⟩
    go_wp2
    go_ret
    exact ⟨by rw [HE.out]; rfl, hb⟩

theorem firstE_step {cs : List ColB} {ps : List PairB} {k : Nat} (h : k < ps.length) : firstE cs (ps.drop k) = if errRow cs (ps.getD k default).1 ≠ 0 then errRow cs (ps.getD k default).1 else firstE cs (ps.drop (k + 1)) := by
  rw [drop_get h]; rfl
/-- What is wrong with the schema, or with the first row of which something is. -/
def rowsE (cs : List ColB) (ps : List PairB) : Nat := if errS (colsL cs) ≠ 0 then errS (colsL cs) else firstE cs ps

end Go.Proofs.YtedfcnlhdicipaaDoor

