/-
  The document's Check and Same of layer 8.
-/
import Derived.Test.YtokpphhmmcoeaaaGreatDoorGZDefs
import Derived.Test.YtokpphhmmcoeaaaGreatDoorGRow
import Derived.StillTailTactics
import Derived.IntWalk
import Derived.WalkSmall
import Derived.Deep.QuietTactic
import Derived.BigQuiet
set_option linter.unusedVariables false
set_option linter.unusedSimpArgs false
set_option maxRecDepth 1000000
namespace Go.Proofs.YtokpphhmmcoeaaaGreatDoor
open Go.RowKit Go.Shelf

/-- The row ahead of place k. -/
def prevR (ps : List PairB) : Nat → Option (List CellB)
  | 0 => none
  | k + 1 => some (ps.getD k default).1
theorem drop_get {α : Type} [Inhabited α] {l : List α} {k : Nat} (h : k < l.length) : l.drop k = l.getD k default :: l.drop (k + 1) := by
  rw [List.drop_eq_getElem_cons h]; simp [List.getD, h]
theorem chkF_step {cs : List ColB} {ps : List PairB} {k : Nat} (h : k < ps.length) (h1 : errRow cs (ps.getD k default).1 = 0) (h2 : (ps.getD k default).2 ≠ 0) (h3 : ∀ r, prevR ps k = some r → cmpR cs r (ps.getD k default).1 < 0) :
    chkF cs (prevR ps k) (ps.drop k) = chkF cs (prevR ps (k + 1)) (ps.drop (k + 1)) := by
  rw [drop_get h]
  conv => lhs; unfold chkF
  rw [if_neg (fun h9 => h9 h1), if_neg h2]
  cases hq : prevR ps k with
  | none => rfl
  | some r =>
    have := h3 r hq
    show (if _ then _ else _) = _
    rw [if_neg (by omega)]; rfl

set_option maxHeartbeats 4000000 in
theorem ref_Check08 (v1 v2 : Value) (cs : List ColB) (ps : List PairB) (w : World) (h1 : RdC w v1 cs) (h2 : RdP w v2 ps) (hC : CS cs) (hP : PSO ps) :
    Calls Tryz.prog 30 #[v1, v2] w fun e w' => e = .returned (.int .i64 (chkZ cs ps : Nat)) ∧ Below w.heap.size w w' := by
  have SC := Lib.hid (ref_Check05 v1 cs w h1 hC)
  have hl2 := h2.len
  have hsm := h2.small
  have R1 := Lib.hid (fun wz (hz : Below w.heap.size w wz) => h1.later hz (Nat.le_refl _))
  have R2 := Lib.hid (fun wz (hz : Below w.heap.size w wz) => h2.later hz (Nat.le_refl _))
  clear h1 h2
  obtain ⟨x, hx⟩ : ∃ x, x = errS (colsL cs) := ⟨_, rfl⟩
  rw [← hx] at SC
  by_cases h0 : x = 0
  · subst h0
    obtain ⟨n, hn⟩ : ∃ n, n = ps.length := ⟨_, rfl⟩
    rw [← hn] at hl2 hsm
    by_cases hbig : 1024 < n
    · have HE := Lib.hid (show chkZ cs ps = 13 from by unfold chkZ; rw [if_neg (by omega), if_pos (by omega)])
      clear hx hn
      go_enter Tryz.func30, Tryz.ntmps30
      go_wp2_with fail
      refine SC.out.mono ?_
      rintro e w1 ⟨rfl, hb⟩
      go_wp2
      go_ret
      exact ⟨by rw [HE.out]; rfl, hb⟩
    · have HE := Lib.hid (show chkZ cs ps = chkF cs none ps from by unfold chkZ; rw [if_neg (by omega), if_neg (by omega)])
      have HN := Lib.hid hn
      clear hx hn
      go_enter Tryz.func30, Tryz.ntmps30
      go_wp2_with fail
      refine SC.out.mono ?_
      rintro e w1 ⟨rfl, hb⟩
      have HB1 := Lib.hid hb
      clear hb SC
      go_wp2
      go_loopw [6] (fun i wr => ∃ k : Nat, k ≤ n ∧ i = .int .i64 k ∧ Hid (chkF cs none ps = chkF cs (prevR ps k) (ps.drop k)) ∧ Hid (Below w.heap.size w wr)) (fun i _ => n - (intOf i).toNat)
      case atStart => exact ⟨0, by omega, rfl, Lib.hid rfl, HB1⟩
      case round =>
        clear HB1
        obtain ⟨k, hk, rfl, HF, HB⟩ := hrel
        by_cases hlt : k < n
        · have k2 : k < ps.length := by rw [← HN.out]; exact hlt
          obtain ⟨b, o, rv, hi, hc0, hc1, hre, hbl⟩ := (R2.out wr HB.out).get k2
          obtain ⟨hce, hww⟩ := hP.get k2
          have HK := Lib.hid k2
          have CK := Lib.hid (ref_Check06 v1 rv cs (ps.getD k default).1 wr (R1.out wr HB.out) hre hC hce)
          have HST := Lib.hid (fun a b c => chkF_step (cs := cs) k2 a b c)
          have HD := Lib.hid (drop_get k2)
          obtain ⟨p, hp⟩ : ∃ p, p = ps.getD k default := ⟨_, rfl⟩
          rw [← hp] at hc1 hre hce hww CK HST HD
          have HPK := Lib.hid hp
          have HRE := Lib.hid hre
          have HCE := Lib.hid hce
          clear hp k2 hre hce
          obtain ⟨c, hc⟩ : ∃ c, c = errRow cs p.1 := ⟨_, rfl⟩
          rw [← hc] at CK HST
          have HCC := Lib.hid hc
          clear hc
          by_cases hcz : c = 0
          · subst hcz
            go_wp2_with fail
            refine CK.out.mono ?_
            rintro e w2 ⟨rfl, hb⟩
            have HB2 := Lib.hid (HB.out.trans (hb.mono HB.out.size))
            have d0 := keep_cell hb hc0
            have d1 := keep_cell hb hc1
            have HRE2 := Lib.hid (HRE.out.later hb (Nat.le_refl _))
            clear hc0 hc1 hb HB HRE CK
            by_cases hwz : p.2 = 0
            · have HF2 := Lib.hid (show chkF cs none ps = 2 from by
                rw [HF.out, HD.out]; unfold chkF
                rw [if_neg (fun h9 => h9 HCC.out.symm), if_pos hwz])
              rw [hwz] at d1
              clear HF
              go_wp2
              go_ret
              exact ⟨by rw [HE.out, HF2.out]; rfl, HB2.out⟩
            · obtain ⟨y, hy⟩ : ∃ y, p.2 = y := ⟨_, rfl⟩
              rw [hy] at d1 hwz hww
              have hyz : (y == 0) = false := by rw [Bool.eq_false_iff]; intro hh; exact hwz (beq_iff_eq.1 hh)
              have HY := Lib.hid (show p.2 ≠ 0 from by rw [hy]; exact hwz)
              clear hy hwz
              by_cases hk0 : k = 0
              · subst hk0
                have HF2 := Lib.hid (HF.out.trans (HST.out (by simp) HY.out (fun r hr => by cases hr)))
                clear HF HST
                rw [show ((0 : Nat) : Int) = 0 from rfl] at hi
                go_wp2
                go_quiet (fail)
                go_wp2
                go_roundw
                case rel => exact ⟨1, by omega, rfl, HF2, Lib.hid (_root_.Go.below_drewN HB2.out _)⟩
                case measure => simp [intOf]; omega
              · obtain ⟨j, hj⟩ : ∃ j, k = j + 1 := ⟨k - 1, by omega⟩
                have j2 : j < ps.length := by have := HK.out; omega
                obtain ⟨b', o', rv', hi', hc0', hc1', hre', hbl'⟩ := (R2.out w2 HB2.out).get j2
                obtain ⟨hce', _⟩ := hP.get j2
                have CC := Lib.hid (fun wz (hz : Below w2.heap.size w2 wz) => ref_Compare06 v1 rv' rv cs (ps.getD j default).1 p.1 wz (R1.out wz (HB2.out.trans (hz.mono HB2.out.size))) (hre'.later hz (Nat.le_refl _)) (HRE2.out.later hz (Nat.le_refl _)) hC hce' HCE.out)
                have hsub : (k : Int) - 1 = (j : Int) := by omega
                have hwj : IntKind.i64.wrap (j : Int) = (j : Int) := IntWalk.i64_in _ (by omega)
                have hpos : decide (0 < k) = true := decide_eq_true (by omega)
                have HPR := Lib.hid (show prevR ps k = some (ps.getD j default).1 from by rw [hj]; rfl)
                obtain ⟨m, hm⟩ : ∃ m, m = cmpR cs (ps.getD j default).1 p.1 := ⟨_, rfl⟩
                rw [← hm] at CC
                have HM := Lib.hid hm
                clear hm j2 hre' hce' hk0
                have HJ := Lib.hid hj
                clear hj
                go_wp2
                go_still_tail 15, (by kernel_rfl)
                change wpList _ _ _ _ _ w2.drew
                have HB3 := Lib.hid HB2.out.drew
                have HD3 := Lib.hid ((Below.refl w2.heap.size w2).drew)
                clear d0 d1 hc0' hc1'
                go_wp2_with fail
                refine (CC.out _ HD3.out).mono ?_
                rintro e w3 ⟨rfl, hb⟩
                have HB4 := Lib.hid (HB3.out.trans (hb.mono HB3.out.size))
                clear hb HB3 HD3 CC
                by_cases hm0 : 0 ≤ m
                · have HF2 := Lib.hid (show chkF cs none ps = 9 from by
                    rw [HF.out, HD.out, HPR.out]; unfold chkF
                    rw [if_neg (fun h9 => h9 HCC.out.symm), if_neg HY.out]
                    show (if _ then _ else _) = _
                    rw [if_pos (by rw [← HM.out]; exact hm0)])
                  have hmd : decide (0 ≤ m) = true := decide_eq_true hm0
                  clear HF HST
                  go_wp2
                  go_ret
                  exact ⟨by rw [HE.out, HF2.out]; rfl, HB4.out⟩
                · have HF2 := Lib.hid (HF.out.trans (HST.out (by simp) HY.out (fun r hr => by rw [HPR.out] at hr; injection hr with hr; rw [← hr, ← HM.out]; omega)))
                  have hmd : decide (0 ≤ m) = false := decide_eq_false hm0
                  clear HF HST
                  go_wp2
                  go_roundw
                  case rel => exact ⟨k + 1, by omega, by go_num, HF2, HB4⟩
                  case measure => simp [intOf]; omega
          · have HF2 := Lib.hid (show chkF cs none ps = c from by
              rw [HF.out, HD.out]; unfold chkF
              rw [if_pos (by rw [← HCC.out]; exact hcz), HCC.out])
            have hcq : ((c : Int) != 0) = true := by rw [bne_iff_ne]; omega
            clear HF HST
            go_wp2_with fail
            refine CK.out.mono ?_
            rintro e w2 ⟨rfl, hb⟩
            have HB2 := Lib.hid (HB.out.trans (hb.mono HB.out.size))
            clear hb
            go_wp2
            go_ret
            exact ⟨by rw [HE.out, HF2.out]; rfl, HB2.out⟩
        · obtain rfl : k = n := by omega
          have HF2 := Lib.hid (show chkF cs none ps = 0 from by rw [HF.out, HN.out, List.drop_length]; simp [chkF])
          clear HF
          go_wp2
          go_ret
          exact ⟨by rw [HE.out, HF2.out]; rfl, HB.out⟩
  · have HE := Lib.hid (show chkZ cs ps = x from by unfold chkZ; rw [if_pos (by omega), hx])
    have q : ((x : Int) != 0) = true := by rw [bne_iff_ne]; omega
    clear hx
    go_enter Tryz.func30, Tryz.ntmps30
    go_wp2_with fail
    refine SC.out.mono ?_
    rintro e w1 ⟨rfl, hb⟩
    go_wp2
    go_ret
    exact ⟨by rw [HE.out]; rfl, hb⟩

end Go.Proofs.YtokpphhmmcoeaaaGreatDoor


/-
  The document's Same, Weight of layer 8.
-/
namespace Go.Proofs.YtokpphhmmcoeaaaGreatDoor
open Go.RowKit Go.Shelf

theorem takeP_step {α : Type} [Inhabited α] {a b : List α} {k : Nat} (h1 : k < a.length) (h2 : k < b.length) (h : a.take k = b.take k) (he : a.getD k default = b.getD k default) : a.take (k + 1) = b.take (k + 1) := by
  rw [List.take_add_one, List.take_add_one, h]
  simp [List.getD, h1, h2] at he
  simp [h1, h2, he]

set_option maxHeartbeats 4000000 in
theorem ref_Same08 (v1 v2 : Value) (ps qs : List PairB) (w : World) (h1 : RdP w v1 ps) (h2 : RdP w v2 qs) :
    Calls Tryz.prog 17 #[v1, v2] w fun e w' => e = .returned (.bool (decide (ps = qs))) ∧ Below w.heap.size w w' := by
  have hl1 := h1.len
  have hl2 := h2.len
  have hs1 := h1.small
  have hs2 := h2.small
  by_cases hn : ps.length = qs.length
  · obtain ⟨n, hn1⟩ : ∃ n, n = ps.length := ⟨_, rfl⟩
    have hn2 : n = qs.length := by omega
    rw [← hn1] at hl1 hs1
    rw [← hn2] at hl2
    have HN1 := Lib.hid hn1
    have HN2 := Lib.hid hn2
    have H1 := Lib.hid h1
    have H2 := Lib.hid h2
    have hb0 := Lib.hid (Below.refl w.heap.size w)
    clear hn hn1 hn2 h1 h2 hs2
    go_enter Tryz.func17, Tryz.ntmps17
    go_wp2
    go_loopw [5] (fun i wr => ∃ k : Nat, k ≤ n ∧ i = .int .i64 k ∧ Hid (ps.take k = qs.take k) ∧ Hid (Below w.heap.size w wr)) (fun i _ => n - (intOf i).toNat)
    case atStart => exact ⟨0, by omega, rfl, Lib.hid rfl, hb0⟩
    case round =>
      obtain ⟨k, hk, rfl, HT, HB⟩ := hrel
      clear hb0
      by_cases hlt : k < n
      · have k1 : k < ps.length := by rw [← HN1.out]; exact hlt
        have k2 : k < qs.length := by rw [← HN2.out]; exact hlt
        obtain ⟨b1, o1, rv1, hi1, c10, c11, re1, _⟩ := (H1.out.later HB.out (Nat.le_refl _)).get k1
        obtain ⟨b2, o2, rv2, hi2, c20, c21, re2, _⟩ := (H2.out.later HB.out (Nat.le_refl _)).get k2
        have hes := Lib.hid (fun he => takeP_step k1 k2 HT.out he)
        have hne := Lib.hid (show ps.getD k default ≠ qs.getD k default → ps ≠ qs from fun h hh => h (by rw [hh]))
        clear k1 k2
        rcases hpg : ps.getD k default with ⟨r, x⟩
        rcases hqg : qs.getD k default with ⟨s, y⟩
        rw [hpg] at c11 re1
        rw [hqg] at c21 re2
        rw [hpg, hqg] at hes hne
        dsimp only at c11 c21 re1 re2
        clear hpg hqg
        have SS := Lib.hid (fun wz (hz : Below wr.heap.size wr wz) => ref_Same06 rv1 rv2 r s wz (re1.later hz (Nat.le_refl _)) (re2.later hz (Nat.le_refl _)))
        clear re1 re2
        by_cases hxy : x = y
        · subst hxy
          by_cases hrs : r = s
          · subst hrs
            have HES := Lib.hid (hes.out rfl)
            clear hes hne
            go_wp2
            go_still_tail 22, (by kernel_rfl)
            change wpList _ _ _ _ _ wr.drew
            have HB3 := Lib.hid HB.out.drew
            have HD3 := Lib.hid ((Below.refl wr.heap.size wr).drew)
            clear c10 c11 c20 c21
            go_wp2_with fail
            refine (SS.out _ HD3.out).mono ?_
            rintro e w3 ⟨rfl, hb⟩
            have HB4 := Lib.hid (HB3.out.trans (hb.mono HB3.out.size))
            clear hb HB3 HD3 SS
            go_wp2
            go_roundw
            case rel => exact ⟨k + 1, by omega, by go_num, HES, HB4⟩
            case measure => simp [intOf]; omega
          · have HF := Lib.hid (show decide (ps = qs) = false from decide_eq_false (hne.out (fun h => hrs (by injection h))))
            have hd : decide (r = s) = false := decide_eq_false hrs
            rw [hd] at SS
            clear hrs hes hne hd
            go_wp2
            go_still_tail 22, (by kernel_rfl)
            change wpList _ _ _ _ _ wr.drew
            have HB3 := Lib.hid HB.out.drew
            have HD3 := Lib.hid ((Below.refl wr.heap.size wr).drew)
            clear c10 c11 c20 c21
            go_wp2_with fail
            refine (SS.out _ HD3.out).mono ?_
            rintro e w3 ⟨rfl, hb⟩
            have HB4 := Lib.hid (HB3.out.trans (hb.mono HB3.out.size))
            clear hb HB3 HD3 SS
            go_wp2
            go_ret
            exact ⟨by rw [HF.out]; rfl, HB4.out⟩
        · have HF := Lib.hid (show decide (ps = qs) = false from decide_eq_false (hne.out (fun h => hxy (by injection h))))
          have hq : (x != y) = true := by rw [bne_iff_ne]; exact hxy
          clear hxy hes hne SS
          go_wp2
          go_quiet (fail)
          go_wp2
          go_ret
          exact ⟨by rw [HF.out]; rfl, _root_.Go.below_drewN HB.out _⟩
      · obtain rfl : k = n := by omega
        have HF := Lib.hid (show decide (ps = qs) = true from decide_eq_true (by
          have := HT.out
          rwa [List.take_of_length_le (by rw [← HN1.out]; exact Nat.le_refl _), List.take_of_length_le (by rw [← HN2.out]; exact Nat.le_refl _)] at this))
        go_wp2
        go_ret
        exact ⟨by rw [HF.out]; rfl, HB.out⟩
  · have HF := Lib.hid (show decide (ps = qs) = false from decide_eq_false (fun h => hn (by rw [h])))
    have hq : ((ps.length : Int) != (qs.length : Int)) = true := by rw [bne_iff_ne]; omega
    obtain ⟨n, hn1⟩ : ∃ n, n = ps.length := ⟨_, rfl⟩
    obtain ⟨m, hm1⟩ : ∃ m, m = qs.length := ⟨_, rfl⟩
    rw [← hn1] at hl1 hq
    rw [← hm1] at hl2 hq
    clear h1 h2 hn hn1 hm1 hs1 hs2
    go_enter Tryz.func17, Tryz.ntmps17
    go_wp2
    go_ret
    exact ⟨by rw [HF.out]; rfl, Below.refl _ _⟩

theorem sumW_take {ps : List PairB} {k : Nat} (h : k < ps.length) (r : List CellB) : Z.sumW (ps.take (k + 1)) r = Z.sumW (ps.take k) r + if (ps.getD k default).1 = r then (ps.getD k default).2 else 0 := by
  have e : ps.take (k + 1) = ps.take k ++ [ps.getD k default] := by
    rw [List.take_add_one]; simp [List.getD, h]
  rw [e, Z.sumW_append]
  simp [Z.sumW]

end Go.Proofs.YtokpphhmmcoeaaaGreatDoor

