/-
  The document's Check and Same of layer 8.
-/
import Derived.Test.YtfpidkcdgebnpaaGreatDoorGZDefs
import Derived.Test.YtfpidkcdgebnpaaGreatDoorGRow
import Derived.StillTailTactics
import Derived.IntWalk
import Derived.WalkSmall
import Derived.Deep.QuietTactic
import Derived.BigQuiet
import Derived.Test.YtfpidkcdgebnpaaGreatDoorGW
set_option linter.unusedVariables false
set_option linter.unusedSimpArgs false
set_option maxRecDepth 1000000
namespace Go.Proofs.YtfpidkcdgebnpaaGreatDoor
open Go.RowKit Go.Shelf

/-- The row ahead of place k. -/
def prevR (ps : List PairB) : Nat → Option (List CellB)
  | 0 => none
  | k + 1 => some (ps.getD k default).1
theorem drop_get {α : Type} [Inhabited α] {l : List α} {k : Nat} (h : k < l.length) : l.drop k = l.getD k default :: l.drop (k + 1) := by
  rw [List.drop_eq_getElem_cons h]; simp [List.getD, h]
theorem chkF_step {cs : List ColB} {ps : List PairB} {k : Nat} (h : k < ps.length) (h1 : errRow cs (ps.getD k default).1 = 0) (h2 : (ps.getD k default).2 ≠ 0) (h3 : ∀ r, prevR ps k = some r → cmpR cs r (ps.getD k default).1 < 0) :
    chkF cs (prevR ps k) (ps.drop k) = chkF cs (prevR ps (k + 1)) (ps.drop (k + 1)) := by
  rw [drop_get h]
  conv => lhs; unfold chkF
  rw [if_neg (fun h9 => h9 h1), if_neg h2]
  cases hq : prevR ps k with
  | none => rfl
  | some r =>
    have := h3 r hq
    show (if _ then _ else _) = _
    rw [if_neg (by omega)]; rfl

set_option maxHeartbeats 4000000 in
theorem ref_Check08 (v1 v2 : Value) (cs : List ColB) (ps : List PairB) (w : World) (h1 : RdC w v1 cs) (h2 : RdP w v2 ps) (hC : CS cs) (hP : PSO ps) :
    Calls Tryz.prog 17 #[v1, v2] w fun e w' => e = .returned (.int .i64 (chkZ cs ps : Nat)) ∧ Below w.heap.size w w' := by
  have SC := Lib.hid (ref_Check05 v1 cs w h1 hC)
  have hl2 := h2.len
  have hsm := h2.small
  have R1 := Lib.hid (fun wz (hz : Below w.heap.size w wz) => h1.later hz (Nat.le_refl _))
  have R2 := Lib.hid (fun wz (hz : Below w.heap.size w wz) => h2.later hz (Nat.le_refl _))
  clear h1 h2
  obtain ⟨x, hx⟩ : ∃ x, x = errS (colsL cs) := ⟨_, rfl⟩
  rw [← hx] at SC
  by_cases h0 : x = 0
  · subst h0
    obtain ⟨n, hn⟩ : ∃ n, n = ps.length := ⟨_, rfl⟩
    rw [← hn] at hl2 hsm
    by_cases hbig : 1024 < n
    · have HE := Lib.hid (show chkZ cs ps = 13 from by unfold chkZ; rw [if_neg (by omega), if_pos (by omega)])
      clear hx hn
      go_enter Tryz.func17, Tryz.ntmps17
      go_wp2_with fail
      refine SC.out.mono ?_
      rintro e w1 ⟨rfl, hb⟩
      go_wp2
      go_ret
      exact ⟨by rw [HE.out]; rfl, hb⟩
    · have HE := Lib.hid (show chkZ cs ps = chkF cs none ps from by unfold chkZ; rw [if_neg (by omega), if_neg (by omega)])
      have HN := Lib.hid hn
      clear hx hn
      go_enter Tryz.func17, Tryz.ntmps17
      go_wp2_with fail
      refine SC.out.mono ?_
      rintro e w1 ⟨rfl, hb⟩
      have HB1 := Lib.hid hb
      clear hb SC
      go_wp2
      go_loopw [6] (fun i wr => ∃ k : Nat, k ≤ n ∧ i = .int .i64 k ∧ Hid (chkF cs none ps = chkF cs (prevR ps k) (ps.drop k)) ∧ Hid (Below w.heap.size w wr)) (fun i _ => n - (intOf i).toNat)
      case atStart => exact ⟨0, by omega, rfl, Lib.hid rfl, HB1⟩
      case round =>
        clear HB1
        obtain ⟨k, hk, rfl, HF, HB⟩ := hrel
        by_cases hlt : k < n
        · have k2 : k < ps.length := by rw [← HN.out]; exact hlt
          obtain ⟨b, o, rv, hi, hc0, hc1, hre, hbl⟩ := (R2.out wr HB.out).get k2
          obtain ⟨hce, hww⟩ := hP.get k2
          have HK := Lib.hid k2
          have CK := Lib.hid (ref_Check06 v1 rv cs (ps.getD k default).1 wr (R1.out wr HB.out) hre hC hce)
          have HST := Lib.hid (fun a b c => chkF_step (cs := cs) k2 a b c)
          have HD := Lib.hid (drop_get k2)
          obtain ⟨p, hp⟩ : ∃ p, p = ps.getD k default := ⟨_, rfl⟩
          rw [← hp] at hc1 hre hce hww CK HST HD
          have HPK := Lib.hid hp
          have HRE := Lib.hid hre
          have HCE := Lib.hid hce
          clear hp k2 hre hce
          obtain ⟨c, hc⟩ : ∃ c, c = errRow cs p.1 := ⟨_, rfl⟩
          rw [← hc] at CK HST
          have HCC := Lib.hid hc
          clear hc
          by_cases hcz : c = 0
          · subst hcz
            go_wp2_with fail
            refine CK.out.mono ?_
            rintro e w2 ⟨rfl, hb⟩
            have HB2 := Lib.hid (HB.out.trans (hb.mono HB.out.size))
            have d0 := keep_cell hb hc0
            have d1 := keep_cell hb hc1
            have HRE2 := Lib.hid (HRE.out.later hb (Nat.le_refl _))
            clear hc0 hc1 hb HB HRE CK
            by_cases hwz : p.2 = 0
            · have HF2 := Lib.hid (show chkF cs none ps = 2 from by
                rw [HF.out, HD.out]; unfold chkF
                rw [if_neg (fun h9 => h9 HCC.out.symm), if_pos hwz])
              rw [hwz] at d1
              clear HF
              go_wp2
              go_ret
              exact ⟨by rw [HE.out, HF2.out]; rfl, HB2.out⟩
            · obtain ⟨y, hy⟩ : ∃ y, p.2 = y := ⟨_, rfl⟩
              rw [hy] at d1 hwz hww
              have hyz : (y == 0) = false := by rw [Bool.eq_false_iff]; intro hh; exact hwz (beq_iff_eq.1 hh)
              have HY := Lib.hid (show p.2 ≠ 0 from by rw [hy]; exact hwz)
              clear hy hwz
              by_cases hk0 : k = 0
              · subst hk0
                have HF2 := Lib.hid (HF.out.trans (HST.out (by simp) HY.out (fun r hr => by cases hr)))
                clear HF HST
                rw [show ((0 : Nat) : Int) = 0 from rfl] at hi
                go_wp2
                go_quiet (fail)
                go_wp2
                go_roundw
                case rel => exact ⟨1, by omega, rfl, HF2, Lib.hid (_root_.Go.below_drewN HB2.out _)⟩
                case measure => simp [intOf]; omega
              · obtain ⟨j, hj⟩ : ∃ j, k = j + 1 := ⟨k - 1, by omega⟩
                have j2 : j < ps.length := by have := HK.out; omega
                obtain ⟨b', o', rv', hi', hc0', hc1', hre', hbl'⟩ := (R2.out w2 HB2.out).get j2
                obtain ⟨hce', _⟩ := hP.get j2
                have CC := Lib.hid (fun wz (hz : Below w2.heap.size w2 wz) => ref_Compare06 v1 rv' rv cs (ps.getD j default).1 p.1 wz (R1.out wz (HB2.out.trans (hz.mono HB2.out.size))) (hre'.later hz (Nat.le_refl _)) (HRE2.out.later hz (Nat.le_refl _)) hC hce' HCE.out)
                have hsub : (k : Int) - 1 = (j : Int) := by omega
                have hwj : IntKind.i64.wrap (j : Int) = (j : Int) := IntWalk.i64_in _ (by omega)
                have hpos : decide (0 < k) = true := decide_eq_true (by omega)
                have HPR := Lib.hid (show prevR ps k = some (ps.getD j default).1 from by rw [hj]; rfl)
                obtain ⟨m, hm⟩ : ∃ m, m = cmpR cs (ps.getD j default).1 p.1 := ⟨_, rfl⟩
                rw [← hm] at CC
                have HM := Lib.hid hm
                clear hm j2 hre' hce' hk0
                have HJ := Lib.hid hj
                clear hj
                go_wp2
                go_still_tail 15, (by kernel_rfl)
                change wpList _ _ _ _ _ w2.drew
                have HB3 := Lib.hid HB2.out.drew
                have HD3 := Lib.hid ((Below.refl w2.heap.size w2).drew)
                clear d0 d1 hc0' hc1'
                go_wp2_with fail
                refine (CC.out _ HD3.out).mono ?_
                rintro e w3 ⟨rfl, hb⟩
                have HB4 := Lib.hid (HB3.out.trans (hb.mono HB3.out.size))
                clear hb HB3 HD3 CC
                by_cases hm0 : 0 ≤ m
                · have HF2 := Lib.hid (show chkF cs none ps = 9 from by
                    rw [HF.out, HD.out, HPR.out]; unfold chkF
                    rw [if_neg (fun h9 => h9 HCC.out.symm), if_neg HY.out]
                    show (if _ then _ else _) = _
                    rw [if_pos (by rw [← HM.out]; exact hm0)])
                  have hmd : decide (0 ≤ m) = true := decide_eq_true hm0
                  clear HF HST
                  go_wp2
                  go_ret
                  exact ⟨by rw [HE.out, HF2.out]; rfl, HB4.out⟩
                · have HF2 := Lib.hid (HF.out.trans (HST.out (by simp) HY.out (fun r hr => by rw [HPR.out] at hr; injection hr with hr; rw [← hr, ← HM.out]; omega)))
                  have hmd : decide (0 ≤ m) = false := decide_eq_false hm0
                  clear HF HST
                  go_wp2
                  go_roundw
                  case rel => exact ⟨k + 1, by omega, by go_num, HF2, HB4⟩
                  case measure => simp [intOf]; omega
          · have HF2 := Lib.hid (show chkF cs none ps = c from by
              rw [HF.out, HD.out]; unfold chkF
              rw [if_pos (by rw [← HCC.out]; exact hcz), HCC.out])
            have hcq : ((c : Int) != 0) = true := by rw [bne_iff_ne]; omega
            clear HF HST
            go_wp2_with fail
            refine CK.out.mono ?_
            rintro e w2 ⟨rfl, hb⟩
            have HB2 := Lib.hid (HB.out.trans (hb.mono HB.out.size))
            clear hb
            go_wp2
            go_ret
            exact ⟨by rw [HE.out, HF2.out]; rfl, HB2.out⟩
        · obtain rfl : k = n := by omega
          have HF2 := Lib.hid (show chkF cs none ps = 0 from by rw [HF.out, HN.out, List.drop_length]; simp [chkF])
          clear HF
          go_wp2
          go_ret
          exact ⟨by rw [HE.out, HF2.out]; rfl, HB.out⟩
  · have HE := Lib.hid (show chkZ cs ps = x from by unfold chkZ; rw [if_pos (by omega), hx])
    have q : ((x : Int) != 0) = true := by rw [bne_iff_ne]; omega
    clear hx
    go_enter Tryz.func17, Tryz.ntmps17
    go_wp2_with fail
    refine SC.out.mono ?_
    rintro e w1 ⟨rfl, hb⟩
    go_wp2
    go_ret
    exact ⟨by rw [HE.out]; rfl, hb⟩

end Go.Proofs.YtfpidkcdgebnpaaGreatDoor


/-
  The document's Same, Weight of layer 8.
-/
namespace Go.Proofs.YtfpidkcdgebnpaaGreatDoor
open Go.RowKit Go.Shelf

theorem takeP_step {α : Type} [Inhabited α] {a b : List α} {k : Nat} (h1 : k < a.length) (h2 : k < b.length) (h : a.take k = b.take k) (he : a.getD k default = b.getD k default) : a.take (k + 1) = b.take (k + 1) := by
  rw [List.take_add_one, List.take_add_one, h]
  simp [List.getD, h1, h2] at he
  simp [h1, h2, he]

set_option maxHeartbeats 4000000 in
theorem ref_Same08 (v1 v2 : Value) (ps qs : List PairB) (w : World) (h1 : RdP w v1 ps) (h2 : RdP w v2 qs) :
    Calls Tryz.prog 15 #[v1, v2] w fun e w' => e = .returned (.bool (decide (ps = qs))) ∧ Below w.heap.size w w' := by
  have hl1 := h1.len
  have hl2 := h2.len
  have hs1 := h1.small
  have hs2 := h2.small
  by_cases hn : ps.length = qs.length
  · obtain ⟨n, hn1⟩ : ∃ n, n = ps.length := ⟨_, rfl⟩
    have hn2 : n = qs.length := by omega
    rw [← hn1] at hl1 hs1
    rw [← hn2] at hl2
    have HN1 := Lib.hid hn1
    have HN2 := Lib.hid hn2
    have H1 := Lib.hid h1
    have H2 := Lib.hid h2
    have hb0 := Lib.hid (Below.refl w.heap.size w)
    clear hn hn1 hn2 h1 h2 hs2
    go_enter Tryz.func15, Tryz.ntmps15
    go_wp2
    go_loopw [5] (fun i wr => ∃ k : Nat, k ≤ n ∧ i = .int .i64 k ∧ Hid (ps.take k = qs.take k) ∧ Hid (Below w.heap.size w wr)) (fun i _ => n - (intOf i).toNat)
    case atStart => exact ⟨0, by omega, rfl, Lib.hid rfl, hb0⟩
    case round =>
      obtain ⟨k, hk, rfl, HT, HB⟩ := hrel
      clear hb0
      by_cases hlt : k < n
      · have k1 : k < ps.length := by rw [← HN1.out]; exact hlt
        have k2 : k < qs.length := by rw [← HN2.out]; exact hlt
        obtain ⟨b1, o1, rv1, hi1, c10, c11, re1, _⟩ := (H1.out.later HB.out (Nat.le_refl _)).get k1
        obtain ⟨b2, o2, rv2, hi2, c20, c21, re2, _⟩ := (H2.out.later HB.out (Nat.le_refl _)).get k2
        have hes := Lib.hid (fun he => takeP_step k1 k2 HT.out he)
        have hne := Lib.hid (show ps.getD k default ≠ qs.getD k default → ps ≠ qs from fun h hh => h (by rw [hh]))
        clear k1 k2
        rcases hpg : ps.getD k default with ⟨r, x⟩
        rcases hqg : qs.getD k default with ⟨s, y⟩
        rw [hpg] at c11 re1
        rw [hqg] at c21 re2
        rw [hpg, hqg] at hes hne
        dsimp only at c11 c21 re1 re2
        clear hpg hqg
        have SS := Lib.hid (fun wz (hz : Below wr.heap.size wr wz) => ref_Same06 rv1 rv2 r s wz (re1.later hz (Nat.le_refl _)) (re2.later hz (Nat.le_refl _)))
        clear re1 re2
        by_cases hxy : x = y
        · subst hxy
          by_cases hrs : r = s
          · subst hrs
            have HES := Lib.hid (hes.out rfl)
            clear hes hne
            go_wp2
            go_still_tail 22, (by kernel_rfl)
            change wpList _ _ _ _ _ wr.drew
            have HB3 := Lib.hid HB.out.drew
            have HD3 := Lib.hid ((Below.refl wr.heap.size wr).drew)
            clear c10 c11 c20 c21
            go_wp2_with fail
            refine (SS.out _ HD3.out).mono ?_
            rintro e w3 ⟨rfl, hb⟩
            have HB4 := Lib.hid (HB3.out.trans (hb.mono HB3.out.size))
            clear hb HB3 HD3 SS
            go_wp2
            go_roundw
            case rel => exact ⟨k + 1, by omega, by go_num, HES, HB4⟩
            case measure => simp [intOf]; omega
          · have HF := Lib.hid (show decide (ps = qs) = false from decide_eq_false (hne.out (fun h => hrs (by injection h))))
            have hd : decide (r = s) = false := decide_eq_false hrs
            rw [hd] at SS
            clear hrs hes hne hd
            go_wp2
            go_still_tail 22, (by kernel_rfl)
            change wpList _ _ _ _ _ wr.drew
            have HB3 := Lib.hid HB.out.drew
            have HD3 := Lib.hid ((Below.refl wr.heap.size wr).drew)
            clear c10 c11 c20 c21
            go_wp2_with fail
            refine (SS.out _ HD3.out).mono ?_
            rintro e w3 ⟨rfl, hb⟩
            have HB4 := Lib.hid (HB3.out.trans (hb.mono HB3.out.size))
            clear hb HB3 HD3 SS
            go_wp2
            go_ret
            exact ⟨by rw [HF.out]; rfl, HB4.out⟩
        · have HF := Lib.hid (show decide (ps = qs) = false from decide_eq_false (hne.out (fun h => hxy (by injection h))))
          have hq : (x != y) = true := by rw [bne_iff_ne]; exact hxy
          clear hxy hes hne SS
          go_wp2
          go_quiet (fail)
          go_wp2
          go_ret
          exact ⟨by rw [HF.out]; rfl, _root_.Go.below_drewN HB.out _⟩
      · obtain rfl : k = n := by omega
        have HF := Lib.hid (show decide (ps = qs) = true from decide_eq_true (by
          have := HT.out
          rwa [List.take_of_length_le (by rw [← HN1.out]; exact Nat.le_refl _), List.take_of_length_le (by rw [← HN2.out]; exact Nat.le_refl _)] at this))
        go_wp2
        go_ret
        exact ⟨by rw [HF.out]; rfl, HB.out⟩
  · have HF := Lib.hid (show decide (ps = qs) = false from decide_eq_false (fun h => hn (by rw [h])))
    have hq : ((ps.length : Int) != (qs.length : Int)) = true := by rw [bne_iff_ne]; omega
    obtain ⟨n, hn1⟩ : ∃ n, n = ps.length := ⟨_, rfl⟩
    obtain ⟨m, hm1⟩ : ∃ m, m = qs.length := ⟨_, rfl⟩
    rw [← hn1] at hl1 hq
    rw [← hm1] at hl2 hq
    clear h1 h2 hn hn1 hm1 hs1 hs2
    go_enter Tryz.func15, Tryz.ntmps15
    go_wp2
    go_ret
    exact ⟨by rw [HF.out]; rfl, Below.refl _ _⟩

theorem sumW_take {ps : List PairB} {k : Nat} (h : k < ps.length) (r : List CellB) : Z.sumW (ps.take (k + 1)) r = Z.sumW (ps.take k) r + if (ps.getD k default).1 = r then (ps.getD k default).2 else 0 := by
  have e : ps.take (k + 1) = ps.take k ++ [ps.getD k default] := by
    rw [List.take_add_one]; simp [List.getD, h]
  rw [e, Z.sumW_append]
  simp [Z.sumW]

set_option maxHeartbeats 4000000 in
theorem ref_Weight08 (v1 v2 v3 : Value) (cs : List ColB) (ps : List PairB) (r : List CellB) (w : World) (h1 : RdC w v1 cs) (h2 : RdP w v2 ps) (h3 : RdE w v3 r) (hC : CS cs) (hP : PSO ps) (hR : CES r) :
    Calls Tryz.prog 23 #[v1, v2, v3] w fun e w' => e = .returned (.int .i64 (wgt cs ps r)) ∧ Below w.heap.size w w' := by
  have CK := Lib.hid (ref_Check08 v1 v2 cs ps w h1 h2 hC hP)
  have CR := Lib.hid (fun wz (hz : Below w.heap.size w wz) => ref_Check06 v1 v3 cs r wz (h1.later hz (Nat.le_refl _)) (h3.later hz (Nat.le_refl _)) hC hR)
  have hl2 := h2.len
  have hs2 := h2.small
  have H2 := Lib.hid h2
  have H3 := Lib.hid h3
  clear h1 h2 h3
  obtain ⟨c, hc⟩ : ∃ c, c = chkZ cs ps := ⟨_, rfl⟩
  obtain ⟨d, hd⟩ : ∃ d, d = errRow cs r := ⟨_, rfl⟩
  rw [← hc] at CK
  rw [← hd] at CR
  by_cases hcz : c = 0
  · by_cases hdz : d = 0
    · have HE := Lib.hid (show wgt cs ps r = Z.sumW ps r from by unfold wgt; rw [if_neg (by omega)])
      have HS := Lib.hid ((chkZ_zero hP).1 (show chkZ cs ps = 0 by omega)).2.2
      subst hcz hdz
      obtain ⟨n, hn⟩ : ∃ n, n = ps.length := ⟨_, rfl⟩
      rw [← hn] at hl2 hs2
      have HN := Lib.hid hn
      clear hc hd hn
      go_enter Tryz.func23, Tryz.ntmps23
      go_wp2_with fail
      refine CK.out.mono ?_
      rintro e w1 ⟨rfl, hb⟩
      have HB1 := Lib.hid hb
      clear hb CK
      go_wp2_with fail
      refine (CR.out _ HB1.out).mono ?_
      rintro e w2 ⟨rfl, hb⟩
      have HB2 := Lib.hid (HB1.out.trans (hb.mono HB1.out.size))
      clear hb CR HB1
      go_wp2
      go_loopw [7] (fun i wr => ∃ k : Nat, k ≤ n ∧ i = .int .i64 k ∧ Hid (∀ p ∈ ps.take k, p.1 ≠ r) ∧ Hid (Below w.heap.size w wr)) (fun i _ => n - (intOf i).toNat)
      case atStart => exact ⟨0, by omega, rfl, Lib.hid (by simp), HB2⟩
      case round =>
        clear HB2
        obtain ⟨k, hk, rfl, HT, HB⟩ := hrel
        by_cases hlt : k < n
        · have k2 : k < ps.length := by rw [← HN.out]; exact hlt
          obtain ⟨b, o, rv, hi, c0, c1, re, _⟩ := (H2.out.later HB.out (Nat.le_refl _)).get k2
          have SS := Lib.hid (ref_Same06 rv v3 (ps.getD k default).1 r wr re (H3.out.later HB.out (Nat.le_refl _)))
          have HK := Lib.hid k2
          have HG := Lib.hid (show ps.getD k default ∈ ps from by simp [List.getD, k2])
          obtain ⟨p, hp⟩ : ∃ p, p = ps.getD k default := ⟨_, rfl⟩
          rw [← hp] at c1 SS HG
          have HP' := Lib.hid hp
          clear hp k2 re
          by_cases hpr : p.1 = r
          · have hdd : decide (p.1 = r) = true := decide_eq_true hpr
            rw [hdd] at SS
            have HF := Lib.hid (show wgt cs ps r = p.2 from by rw [HE.out, ← hpr]; exact Z.sumW_mem (to_row cs) HS.out.srt HS.out.all p HG.out)
            obtain ⟨y, hy⟩ : ∃ y, y = p.2 := ⟨_, rfl⟩
            rw [← hy] at c1
            have HY := Lib.hid hy
            clear hdd hpr hy
            go_wp2_with fail
            refine SS.out.mono ?_
            rintro e w3 ⟨rfl, hb⟩
            have d1 := keep_cell hb c1
            have HB4 := Lib.hid (HB.out.trans (hb.mono HB.out.size))
            clear hb SS c0 c1
            go_wp2
            go_ret
            exact ⟨by rw [HF.out, ← HY.out]; rfl, HB4.out⟩
          · have hdd : decide (p.1 = r) = false := decide_eq_false hpr
            rw [hdd] at SS
            have HT2 := Lib.hid (show ∀ q ∈ ps.take (k + 1), q.1 ≠ r from by
              intro q hq
              have e : ps.take (k + 1) = ps.take k ++ [ps.getD k default] := by
                rw [List.take_add_one]; simp [List.getD, HK.out]
              rw [e, ← HP'.out] at hq
              rcases List.mem_append.1 hq with hq | hq
              · exact HT.out q hq
              · rw [List.mem_singleton.1 hq]; exact hpr)
            clear hdd hpr
            go_wp2_with fail
            refine SS.out.mono ?_
            rintro e w3 ⟨rfl, hb⟩
            have HB4 := Lib.hid (HB.out.trans (hb.mono HB.out.size))
            clear hb SS c0 c1
            go_wp2
            go_roundw
            case rel => exact ⟨k + 1, by omega, by go_num, HT2, HB4⟩
            case measure => simp [intOf]; omega
        · obtain rfl : k = n := by omega
          have HF := Lib.hid (show wgt cs ps r = 0 from by
            rw [HE.out]
            refine Z.sumW_no fun p hp => HT.out p ?_
            rwa [List.take_of_length_le (by rw [← HN.out]; exact Nat.le_refl _)])
          go_wp2
          go_ret
          exact ⟨by rw [HF.out]; rfl, HB.out⟩
    · have HE := Lib.hid (show wgt cs ps r = 0 from by unfold wgt; rw [if_pos (by omega)])
      subst hcz
      have q : ((d : Int) != 0) = true := by rw [bne_iff_ne]; omega
      clear hc hd
      go_enter Tryz.func23, Tryz.ntmps23
      go_wp2_with fail
      refine CK.out.mono ?_
      rintro e w1 ⟨rfl, hb⟩
      have HB1 := Lib.hid hb
      clear hb CK
      go_wp2_with fail
      refine (CR.out _ HB1.out).mono ?_
      rintro e w2 ⟨rfl, hb⟩
      have HB2 := Lib.hid (HB1.out.trans (hb.mono HB1.out.size))
      clear hb CR HB1
      go_wp2
      go_ret
      exact ⟨by rw [HE.out]; rfl, HB2.out⟩
  · have HE := Lib.hid (show wgt cs ps r = 0 from by unfold wgt; rw [if_pos (by omega)])
    have q : ((c : Int) != 0) = true := by rw [bne_iff_ne]; omega
    clear hc hd CR
    go_enter Tryz.func23, Tryz.ntmps23
    go_wp2_with fail
    refine CK.out.mono ?_
    rintro e w1 ⟨rfl, hb⟩
    have HB1 := Lib.hid hb
    clear hb CK
    go_wp2
    go_ret
    exact ⟨by rw [HE.out]; rfl, HB1.out⟩

end Go.Proofs.YtfpidkcdgebnpaaGreatDoor


/-
  The document's Neg of layer 8.
-/
namespace Go.Proofs.YtfpidkcdgebnpaaGreatDoor
open Go.RowKit Go.Shelf

theorem minB_snoc (ps : List PairB) (k : Nat) (h : k < ps.length) (h0 : minB (ps.take k) = false) : minB (ps.take (k + 1)) = ((ps.getD k default).2 == -9223372036854775808) := by
  have e : ps.take (k + 1) = ps.take k ++ [ps.getD k default] := by
    rw [List.take_add_one]; simp [List.getD, h]
  unfold minB at h0 ⊢
  rw [e, List.any_append, h0]; simp
theorem negs_snoc (ps : List PairB) (k : Nat) (h : k < ps.length) : Z.negs (ps.take (k + 1)) = Z.negs (ps.take k) ++ [((ps.getD k default).1, -(ps.getD k default).2)] := by
  have e : ps.take (k + 1) = ps.take k ++ [ps.getD k default] := by
    rw [List.take_add_one]; simp [List.getD, h]
  unfold Z.negs
  rw [e, List.map_append]; rfl
theorem minB_take {ps : List PairB} {k : Nat} (h : minB (ps.take k) = true) : minB ps = true := by
  unfold minB at h ⊢
  obtain ⟨p, hp, h⟩ := List.any_eq_true.1 h
  exact List.any_eq_true.2 ⟨p, List.mem_of_mem_take hp, h⟩

set_option maxHeartbeats 4000000 in
theorem ref_Neg08 (v1 v2 : Value) (cs : List ColB) (ps : List PairB) (w : World) (h1 : RdC w v1 cs) (h2 : RdP w v2 ps) (hC : CS cs) (hP : PSO ps) :
    Calls Tryz.prog 21 #[v1, v2] w fun e w' => ∃ v, e = .returned (.tuple #[v, .int .i64 (negE cs ps : Nat)]) ∧ RdP w' v (negO cs ps) ∧ Below w.heap.size w w' := by
  have CK := Lib.hid (ref_Check08 v1 v2 cs ps w h1 h2 hC hP)
  have hl2 := h2.len
  have hs2 := h2.small
  have H2 := Lib.hid h2
  clear h1 h2
  obtain ⟨c, hc⟩ : ∃ c, c = chkZ cs ps := ⟨_, rfl⟩
  rw [← hc] at CK
  by_cases hcz : c = 0
  · subst hcz
    have HE := Lib.hid (show negE cs ps = if minB ps = true then 12 else 0 from by unfold negE; rw [if_neg (by omega)])
    have HS := Lib.hid ((chkZ_zero hP).1 hc.symm)
    have hlen : ps.length ≤ 1024 := HS.out.2.1
    obtain ⟨n, hn⟩ : ∃ n, n = ps.length := ⟨_, rfl⟩
    rw [← hn] at hl2 hs2 hlen
    have HN := Lib.hid hn
    clear hc hn
    go_enter Tryz.func21, Tryz.ntmps21
    go_wp2_with fail
    refine CK.out.mono ?_
    rintro e w1 ⟨rfl, hb⟩
    have HB1 := Lib.hid hb
    have hsz1 := hb.size
    clear hb CK
    go_wp2
    go_loopw [7, 8] (fun tv i wr => ∃ (k : Nat) (tx : Value), tx = tv ∧ k ≤ n ∧ i = .int .i64 k ∧ Hid (minB (ps.take k) = false) ∧ Hid (OwnP wr w1.heap.size tx (Z.negs (ps.take k))) ∧ Hid (Below w1.heap.size w1 wr)) (fun _ i _ => n - (intOf i).toNat)
    case atStart => exact ⟨0, _, rfl, by omega, rfl, Lib.hid rfl, Lib.hid (OwnP.nil _ _), Lib.hid (Below.refl _ _)⟩
    case round =>
      obtain ⟨k, tx, rfl, hk, rfl, HM, HO, HB⟩ := hrel
      by_cases hlt : k < n
      · have k2 : k < ps.length := by rw [← HN.out]; exact hlt
        obtain ⟨b, o, rv, hi, c0, c1, re, hbl⟩ := ((H2.out.later HB1.out (Nat.le_refl _)).later HB.out (Nat.le_refl _)).get k2
        obtain ⟨hce, hww⟩ := hP.get k2
        have HMS := Lib.hid (minB_snoc ps k k2 HM.out)
        have HNS := Lib.hid (negs_snoc ps k k2)
        have hvl : (ps.getD k default).1.length ≤ 8 := by
          have := HS.out.2.2.all (ps.getD k default) (by simp [List.getD, k2])
          obtain ⟨h1, h2, _⟩ := errRow_len this.1
          have := ((errS_iffR (colsL cs)).1 h1).1.2
          unfold colsL at this; rw [List.length_map] at this; omega
        obtain ⟨p, hp⟩ : ∃ p, p = ps.getD k default := ⟨_, rfl⟩
        rw [← hp] at c1 re hce hww HMS HNS hvl
        clear hp k2
        rcases p with ⟨r, x⟩
        dsimp only at c1 re hce hww hvl
        by_cases hmin : x = -9223372036854775808
        · have HF := Lib.hid (show minB ps = true from minB_take (k := k + 1) (by rw [HMS.out]; simp [hmin]))
          subst hmin
          have HX := Lib.hid (show negO cs ps = [] from by unfold negO; rw [if_neg (by rw [HE.out, HF.out]; simp)])
          go_wp2_with fail
          refine (ref7_Neg (-9223372036854775808) (by exact hww) _).mono ?_
          rintro e w3 ⟨rfl, rfl⟩
          rw [show ngV (-9223372036854775808) = 0 from rfl, show ngE (-9223372036854775808) = 12 from rfl]
          go_wp2
          go_ret2
          exact ⟨_, by rw [HE.out, HF.out]; rfl, by rw [HX.out]; exact RdP.nil _, HB1.out.trans (HB.out.mono hsz1)⟩
        · have HM2 := Lib.hid (show minB (ps.take (k + 1)) = false from by rw [HMS.out, beq_eq_false_iff_ne]; exact hmin)
          go_wp2_with fail
          refine (ref7_Neg x hww _).mono ?_
          rintro e w3 ⟨rfl, rfl⟩
          rw [show ngV x = -x from if_neg hmin, show ngE x = 0 from if_neg hmin]
          obtain ⟨y, hy⟩ : ∃ y, y = -x := ⟨_, rfl⟩
          rw [← hy]
          have HY := Lib.hid hy
          have hre1 := re.later ((Below.refl wr.heap.size wr).alloc (Nat.le_refl _) (.cells #[] 71)) (Nat.le_refl _)
          have HRE := Lib.hid hre1
          have HOE := Lib.hid (ownE_empty wr wr.heap.size (Nat.le_refl _))
          have hszr : w1.heap.size ≤ wr.heap.size := HB.out.size
          clear hy hmin hre1 re
          go_wp2_with (with_reducible refine wplE_appendAll wr.heap.size _ ?hs HOE.out rv ?hx HRE.out ?hn ?hbase wr.heap.size wr ((Below.refl _ _).alloc (Nat.le_refl _) _) (Nat.le_refl _) ?_)
          case hs => rfl
          case hx => rfl
          case hn => simp; omega
          case hbase => simp
          intro v4 w4 ho4 hb4 _
          rw [List.nil_append] at ho4
          obtain ⟨ao4, n4, cap4, rfl⟩ := (ho4.rd (by omega)).lit
          have hsz4 : wr.heap.size ≤ w4.heap.size := hb4.size
          have HO4 := Lib.hid (((HO.out.later hb4 (Nat.le_refl _))).alloc (.cells #[.slice ao4 n4 cap4, .int .i64 y] 51))
          have HR4 := Lib.hid ((ho4.rd (by omega)).later ((Below.refl w4.heap.size w4).alloc (Nat.le_refl _) (.cells #[.slice ao4 n4 cap4, .int .i64 y] 51)) (Nat.le_refl _))
          have HF4 := Lib.hid (fun g (hg : tx.ownBlock = some g) => ho4.offB (HO.out.lt hg).2)
          have HB4 := Lib.hid ((HB.out.trans (hb4.mono hszr)).alloc (by omega) (.cells #[.slice ao4 n4 cap4, .int .i64 y] 51))
          have HG4 := Lib.hid (heap_alloc_new w4 (.cells #[.slice ao4 n4 cap4, .int .i64 y] 51))
          clear ho4 hb4 HRE HOE HO
          go_wp2_with (with_reducible refine wplP_append w1.heap.size _ ?hs HO4.out w4.heap.size (.slice ao4 n4 cap4) (r, y) ?hx HG4.out HR4.out HF4.out ?hn ?hbase w1.heap.size w1 HB4.out (Nat.le_refl _) ?_)
          case hs => rfl
          case hx => rfl
          case hn => simp [Z.negs]; omega
          case hbase => simp; omega
          intro v5 w5 ho5 hb5 _ _
          have HO5 := Lib.hid (show OwnP w5 w1.heap.size v5 (Z.negs (ps.take (k + 1))) from by rw [HNS.out, ← HY.out]; exact ho5)
          have HB5 := Lib.hid hb5
          clear ho5 hb5 HO4 HR4 HF4 HB4 HG4
          go_wp2
          go_roundw
          case rel => exact ⟨k + 1, _, rfl, by omega, by go_num, HM2, HO5, HB5⟩
          case measure => simp [intOf]; omega
      · obtain rfl : k = n := by omega
        have htk : ps.take k = ps := List.take_of_length_le (by rw [← HN.out]; exact Nat.le_refl _)
        rw [htk] at HM HO
        have HE2 := Lib.hid (show negE cs ps = 0 from by rw [HE.out, HM.out]; rfl)
        have HX := Lib.hid (show negO cs ps = Z.negs ps from by unfold negO; rw [if_pos HE2.out])
        clear htk
        go_wp2
        go_ret2
        exact ⟨_, by rw [HE2.out]; rfl, by rw [HX.out]; exact HO.out.rd (by have := HN.out; simp [Z.negs]; omega), HB1.out.trans (HB.out.mono hsz1)⟩
  · have HE := Lib.hid (show negE cs ps = c from by unfold negE; rw [if_pos (by omega), hc])
    have HX := Lib.hid (show negO cs ps = [] from by unfold negO; rw [if_neg (by rw [HE.out]; exact hcz)])
    have q : ((c : Int) != 0) = true := by rw [bne_iff_ne]; omega
    clear hc
    go_enter Tryz.func21, Tryz.ntmps21
    go_wp2_with fail
    refine CK.out.mono ?_
    rintro e w1 ⟨rfl, hb⟩
    have HB1 := Lib.hid hb
    clear hb CK
    go_wp2
    go_ret2
    exact ⟨_, by rw [HE.out]; rfl, by rw [HX.out]; exact RdP.nil _, HB1.out⟩

end Go.Proofs.YtfpidkcdgebnpaaGreatDoor

