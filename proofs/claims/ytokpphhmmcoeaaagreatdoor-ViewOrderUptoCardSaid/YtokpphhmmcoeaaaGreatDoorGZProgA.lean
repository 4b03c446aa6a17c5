/-
  zset.Check, zset.checkRows.
-/
import Derived.Test.YtokpphhmmcoeaaaGreatDoorGZRef
import Derived.Test.YtokpphhmmcoeaaaGreatDoorRowCmp
import Derived.Test.YtokpphhmmcoeaaaGreatDoorGBaseB
import Derived.Test.YtokpphhmmcoeaaaGreatDoorGZPure
import Derived.Test.YtokpphhmmcoeaaaGreatDoorGZDefs
import Derived.Test.YtokpphhmmcoeaaaGreatDoorShelf8
import Derived.Shelf.SlSortCmp.NoneTotal
import Derived.Test.YtokpphhmmcoeaaaGreatDoorGRow
import Derived.Test.YtokpphhmmcoeaaaGreatDoorGW
import Derived.WalkMore
set_option linter.unusedVariables false
set_option linter.unusedSimpArgs false
set_option maxRecDepth 1000000
namespace Go.Proofs.YtokpphhmmcoeaaaGreatDoor
open Go.RowKit Go.Shelf

set_option maxHeartbeats 4000000 in
theorem zset_Check (v1 v2 : Value) (cs : List ColB) (ps : List PairB) (w : World) (h1 : RdC w v1 cs) (h2 : RdP w v2 ps) (hC : CS cs) (hP : PSO ps) (hT : Tabs w) :
    Calls Tryz.prog 66 #[v1, v2] w fun e w' => e = .returned (.int .i64 (chkZ cs ps : Nat)) ∧ Below w.heap.size w w' := by
  have SC := Lib.hid (schema_Check v1 cs w h1 hC hT)
  have hl2 := h2.len
  have hsm := h2.small
  have HT := Lib.hid hT
  have H2 := Lib.hid h2
  have R1 := Lib.hid (fun wz (hz : Below w.heap.size w wz) => h1.later hz (Nat.le_refl _))
  clear h1 h2 hT
  obtain ⟨x, hx⟩ : ∃ x, x = errS (colsL cs) := ⟨_, rfl⟩
  rw [← hx] at SC
  by_cases h0 : x = 0
  · subst h0
    obtain ⟨n, hn⟩ : ∃ n, n = ps.length := ⟨_, rfl⟩
    rw [← hn] at hl2 hsm
    by_cases hbig : 1024 < n
    · have HE := Lib.hid (show chkZ cs ps = 13 from by unfold chkZ; rw [if_neg (by omega), if_pos (by omega)])
      clear hx hn
      go_enter Tryz.func66, Tryz.ntmps66
      go_wp2_with fail
      refine SC.out.mono ?_
      rintro e w1 ⟨rfl, hb⟩
      go_wp2
      go_ret
      exact ⟨by rw [HE.out]; rfl, hb⟩
    · have HE := Lib.hid (show chkZ cs ps = chkF cs none ps from by unfold chkZ; rw [if_neg (by omega), if_neg (by omega)])
      have HN := Lib.hid hn
      clear hx hn
      go_enter Tryz.func66, Tryz.ntmps66
      go_wp2_with fail
      refine SC.out.mono ?_
      rintro e w1 ⟨rfl, hb⟩
      have HB1 := Lib.hid hb
      clear hb SC
      go_wp2
      go_loopw [19] (fun i wr => ∃ k : Nat, k ≤ n ∧ i = .int .i64 k ∧ Hid (chkF cs none ps = chkF cs (prevR ps k) (ps.drop k)) ∧ Hid (Below w.heap.size w wr)) (fun i _ => n - (intOf i).toNat)
      case atStart => exact ⟨0, by omega, rfl, Lib.hid rfl, HB1⟩
      case round =>
        clear HB1
        obtain ⟨k, hk, rfl, HF, HB⟩ := hrel
        by_cases hlt : k < n
        · have k2 : k < ps.length := by rw [← HN.out]; exact hlt
          obtain ⟨b, o, rv, hi, c0, c1, hre, hbl⟩ := H2.out.get k2
          obtain ⟨hce, hww⟩ := hP.get k2
          obtain ⟨ao, nn, cap, rfl⟩ := hre.lit
          have HK := Lib.hid k2
          have HST := Lib.hid (fun a b c => chkF_step (cs := cs) k2 a b c)
          have HD := Lib.hid (drop_get k2)
          obtain ⟨p, hp⟩ : ∃ p, p = ps.getD k default := ⟨_, rfl⟩
          rw [← hp] at c1 hre hce hww HST HD
          rcases p with ⟨r, y⟩
          dsimp only at c1 hre hce hww HST HD
          have hc0 := (HB.out.cell (p := ⟨b, o, none⟩) hbl).trans c0
          have hc1 := (HB.out.cell (p := ⟨b, o + 1, none⟩) hbl).trans c1
          have NN := Lib.hid (new1 wr (.cells #[.slice ao nn cap, .int .i64 y] 75))
          have HBN := Lib.hid (HB.out.trans (NN.out.2.2.mono HB.out.size))
          have CK := Lib.hid (row_Check v1 _ cs r _ (R1.out _ HBN.out) (hre.later HBN.out (Nat.le_refl _)) hC hce (HT.out.later HBN.out))
          have HRE := Lib.hid hre
          have HCE := Lib.hid hce
          clear hp k2 hre hce c0 c1
          obtain ⟨c, hc⟩ : ∃ c, c = errRow cs r := ⟨_, rfl⟩
          rw [← hc] at CK HST
          have HCC := Lib.hid hc
          clear hc
          by_cases hcz : c = 0
          · subst hcz
            go_wp2_with fail
            refine CK.out.mono ?_
            rintro e w2 ⟨rfl, hb⟩
            have HB2 := Lib.hid (HBN.out.trans (hb.mono HBN.out.size))
            have hnb := (hb.block _ (by rw [NN.out.1]; omega)).trans NN.out.2.1
            have d0 := cell_of_row _ _ 0 _ _ _ hnb
            have d1 := cell_of_row _ _ 1 _ _ _ hnb
            simp at d0 d1
            clear hc0 hc1 hb HB CK hnb HBN NN
            by_cases hwz : y = 0
            · have HF2 := Lib.hid (show chkF cs none ps = 2 from by
                rw [HF.out, HD.out]; unfold chkF
                rw [if_neg (fun h9 => h9 HCC.out.symm), if_pos hwz])
              subst hwz
              clear HF
              go_wp2
              go_ret
              exact ⟨by rw [HE.out, HF2.out]; rfl, HB2.out⟩
            · have hyz : (y == 0) = false := by rw [Bool.eq_false_iff]; intro hh; exact hwz (beq_iff_eq.1 hh)
              have HY := Lib.hid hwz
              clear hwz
              by_cases hk0 : k = 0
              · subst hk0
                have HF2 := Lib.hid (HF.out.trans (HST.out (by simp) HY.out (fun r hr => by cases hr)))
                clear HF HST
                rw [show ((0 : Nat) : Int) = 0 from rfl] at hi
                go_wp2
                go_quiet (fail)
                go_wp2
                go_roundw
                case rel => exact ⟨1, by omega, rfl, HF2, Lib.hid (_root_.Go.below_drewN HB2.out _)⟩
                case measure => simp [intOf]; omega
              · obtain ⟨j, hj⟩ : ∃ j, k = j + 1 := ⟨k - 1, by omega⟩
                have j2 : j < ps.length := by have := HK.out; omega
                obtain ⟨b', o', rv', hi', c0', c1', hre', hbl'⟩ := H2.out.get j2
                obtain ⟨hce', _⟩ := hP.get j2
                have hc0' := (HB2.out.cell (p := ⟨b', o', none⟩) hbl').trans c0'
                have CC := Lib.hid (fun wz (hz : Below w2.heap.size w2 wz) => row_Compare v1 rv' _ cs (ps.getD j default).1 r wz (R1.out wz (HB2.out.trans (hz.mono HB2.out.size))) (hre'.later (HB2.out.trans (hz.mono HB2.out.size)) (Nat.le_refl _)) (HRE.out.later (HB2.out.trans (hz.mono HB2.out.size)) (Nat.le_refl _)) hC hce' HCE.out (HT.out.later (HB2.out.trans (hz.mono HB2.out.size))))
                have hsub : (k : Int) - 1 = (j : Int) := by omega
                have hwj : IntKind.i64.wrap (j : Int) = (j : Int) := IntWalk.i64_in _ (by omega)
                have hpos : decide (0 < k) = true := decide_eq_true (by omega)
                have HPR := Lib.hid (show prevR ps k = some (ps.getD j default).1 from by rw [hj]; rfl)
                obtain ⟨m, hm⟩ : ∃ m, m = cmpR cs (ps.getD j default).1 r := ⟨_, rfl⟩
                rw [← hm] at CC
                have HM := Lib.hid hm
                clear hm j2 hre' hce' hk0 c0' c1'
                have HJ := Lib.hid hj
                clear hj
                go_wp2
                go_still_tail 12, (by kernel_rfl)
                change wpList _ _ _ _ _ w2.drew
                have HB3 := Lib.hid HB2.out.drew
                have HD3 := Lib.hid ((Below.refl w2.heap.size w2).drew)
                clear d0 d1 hc0'
                go_wp2_with fail
                refine (CC.out _ HD3.out).mono ?_
                rintro e w3 ⟨rfl, hb⟩
                have HB4 := Lib.hid (HB3.out.trans (hb.mono HB3.out.size))
                clear hb HB3 HD3 CC
                by_cases hm0 : 0 ≤ m
                · have HF2 := Lib.hid (show chkF cs none ps = 9 from by
                    rw [HF.out, HD.out, HPR.out]; unfold chkF
                    rw [if_neg (fun h9 => h9 HCC.out.symm), if_neg HY.out]
                    show (if _ then _ else _) = _
                    rw [if_pos (by rw [← HM.out]; exact hm0)])
                  have hmd : decide (0 ≤ m) = true := decide_eq_true hm0
                  clear HF HST
                  go_wp2
                  go_ret
                  exact ⟨by rw [HE.out, HF2.out]; rfl, HB4.out⟩
                · have HF2 := Lib.hid (HF.out.trans (HST.out (by simp) HY.out (fun r hr => by rw [HPR.out] at hr; injection hr with hr; rw [← hr, ← HM.out]; omega)))
                  have hmd : decide (0 ≤ m) = false := decide_eq_false hm0
                  clear HF HST
                  go_wp2
                  go_roundw
                  case rel => exact ⟨k + 1, by omega, by go_num, HF2, HB4⟩
                  case measure => simp [intOf]; omega
          · have HF2 := Lib.hid (show chkF cs none ps = c from by
              rw [HF.out, HD.out]; unfold chkF
              rw [if_pos (by rw [← HCC.out]; exact hcz), HCC.out])
            have hcq : ((c : Int) != 0) = true := by rw [bne_iff_ne]; omega
            clear HF HST
            go_wp2_with fail
            refine CK.out.mono ?_
            rintro e w2 ⟨rfl, hb⟩
            have HB2 := Lib.hid (HBN.out.trans (hb.mono HBN.out.size))
            clear hb
            go_wp2
            go_ret
            exact ⟨by rw [HE.out, HF2.out]; rfl, HB2.out⟩
        · obtain rfl : k = n := by omega
          have HF2 := Lib.hid (show chkF cs none ps = 0 from by rw [HF.out, HN.out, List.drop_length]; simp [chkF])
          clear HF
          go_wp2
          go_ret
          exact ⟨by rw [HE.out, HF2.out]; rfl, HB.out⟩
  · have HE := Lib.hid (show chkZ cs ps = x from by unfold chkZ; rw [if_pos (by omega), hx])
    have q : ((x : Int) != 0) = true := by rw [bne_iff_ne]; omega
    clear hx
    go_enter Tryz.func66, Tryz.ntmps66
    go_wp2_with fail
    refine SC.out.mono ?_
    rintro e w1 ⟨rfl, hb⟩
    go_wp2
    go_ret
    exact ⟨by rw [HE.out]; rfl, hb⟩

theorem firstE_step {cs : List ColB} {ps : List PairB} {k : Nat} (h : k < ps.length) : firstE cs (ps.drop k) = if errRow cs (ps.getD k default).1 ≠ 0 then errRow cs (ps.getD k default).1 else firstE cs (ps.drop (k + 1)) := by
  rw [drop_get h]; rfl
/-- What is wrong with the schema, or with the first row of which something is. -/
def rowsE (cs : List ColB) (ps : List PairB) : Nat := if errS (colsL cs) ≠ 0 then errS (colsL cs) else firstE cs ps

set_option maxHeartbeats 4000000 in
theorem zset_checkRows (v1 v2 : Value) (cs : List ColB) (ps : List PairB) (w : World) (h1 : RdC w v1 cs) (h2 : RdP w v2 ps) (hC : CS cs) (hP : PSO ps) (hT : Tabs w) :
    Calls Tryz.prog 35 #[v1, v2] w fun e w' => e = .returned (.int .i64 (rowsE cs ps : Nat)) ∧ Below w.heap.size w w' := by
  have SC := Lib.hid (schema_Check v1 cs w h1 hC hT)
  have hl2 := h2.len
  have hsm := h2.small
  have HT := Lib.hid hT
  have H2 := Lib.hid h2
  have R1 := Lib.hid (fun wz (hz : Below w.heap.size w wz) => h1.later hz (Nat.le_refl _))
  clear h1 h2 hT
  obtain ⟨x, hx⟩ : ∃ x, x = errS (colsL cs) := ⟨_, rfl⟩
  rw [← hx] at SC
  by_cases h0 : x = 0
  · subst h0
    obtain ⟨n, hn⟩ : ∃ n, n = ps.length := ⟨_, rfl⟩
    rw [← hn] at hl2 hsm
    have HE := Lib.hid (show rowsE cs ps = firstE cs ps from by unfold rowsE; rw [if_neg (by omega)])
    have HN := Lib.hid hn
    clear hx hn
    go_enter Tryz.func35, Tryz.ntmps35
    go_wp2_with fail
    refine SC.out.mono ?_
    rintro e w1 ⟨rfl, hb⟩
    have HB1 := Lib.hid hb
    clear hb SC
    go_wp2
    go_loopw [16] (fun i wr => ∃ k : Nat, k ≤ n ∧ i = .int .i64 k ∧ Hid (firstE cs ps = firstE cs (ps.drop k)) ∧ Hid (Below w.heap.size w wr)) (fun i _ => n - (intOf i).toNat)
    case atStart => exact ⟨0, by omega, rfl, Lib.hid rfl, HB1⟩
    case round =>
      clear HB1
      obtain ⟨k, hk, rfl, HF, HB⟩ := hrel
      by_cases hlt : k < n
      · have k2 : k < ps.length := by rw [← HN.out]; exact hlt
        obtain ⟨b, o, rv, hi, c0, c1, hre, hbl⟩ := H2.out.get k2
        obtain ⟨hce, hww⟩ := hP.get k2
        obtain ⟨ao, nn, cap, rfl⟩ := hre.lit
        have HST := Lib.hid (firstE_step (cs := cs) k2)
        obtain ⟨p, hp⟩ : ∃ p, p = ps.getD k default := ⟨_, rfl⟩
        rw [← hp] at c1 hre hce hww HST
        rcases p with ⟨r, y⟩
        dsimp only at c1 hre hce hww HST
        have hc0 := (HB.out.cell (p := ⟨b, o, none⟩) hbl).trans c0
        have hc1 := (HB.out.cell (p := ⟨b, o + 1, none⟩) hbl).trans c1
        have NN := Lib.hid (new1 wr (.cells #[.slice ao nn cap, .int .i64 y] 75))
        have HBN := Lib.hid (HB.out.trans (NN.out.2.2.mono HB.out.size))
        have CK := Lib.hid (row_Check v1 _ cs r _ (R1.out _ HBN.out) (hre.later HBN.out (Nat.le_refl _)) hC hce (HT.out.later HBN.out))
        clear hp k2 hre hce c0 c1
        obtain ⟨c, hc⟩ : ∃ c, c = errRow cs r := ⟨_, rfl⟩
        rw [← hc] at CK HST
        clear hc
        by_cases hcz : c = 0
        · subst hcz
          have HF2 := Lib.hid (HF.out.trans (HST.out.trans (if_neg (fun h9 => h9 rfl))))
          go_wp2_with fail
          refine CK.out.mono ?_
          rintro e w2 ⟨rfl, hb⟩
          have HB2 := Lib.hid (HBN.out.trans (hb.mono HBN.out.size))
          clear hc0 hc1 hb HB CK HBN NN HF HST
          go_wp2
          go_roundw
          case rel => exact ⟨k + 1, by omega, by go_num, HF2, HB2⟩
          case measure => simp [intOf]; omega
        · have HF2 := Lib.hid (show firstE cs ps = c from HF.out.trans (HST.out.trans (if_pos hcz)))
          have hcq : ((c : Int) != 0) = true := by rw [bne_iff_ne]; omega
          clear HF HST
          go_wp2_with fail
          refine CK.out.mono ?_
          rintro e w2 ⟨rfl, hb⟩
          have HB2 := Lib.hid (HBN.out.trans (hb.mono HBN.out.size))
          clear hb
          go_wp2
          go_ret
          exact ⟨by rw [HE.out, HF2.out]; rfl, HB2.out⟩
      · obtain rfl : k = n := by omega
        have HF2 := Lib.hid (show firstE cs ps = 0 from by rw [HF.out, HN.out, List.drop_length]; simp [firstE])
        clear HF
        go_wp2
        go_ret
        exact ⟨by rw [HE.out, HF2.out]; rfl, HB.out⟩
  · have HE := Lib.hid (show rowsE cs ps = x from by unfold rowsE; rw [if_pos (by omega), hx])
    have q : ((x : Int) != 0) = true := by rw [bne_iff_ne]; omega
    clear hx
    go_enter Tryz.func35, Tryz.ntmps35
    go_wp2_with fail
    refine SC.out.mono ?_
    rintro e w1 ⟨rfl, hb⟩
    go_wp2
    go_ret
    exact ⟨by rw [HE.out]; rfl, hb⟩

end Go.Proofs.YtokpphhmmcoeaaaGreatDoor


/-
  zset.Collect's sort: slices.SortFunc of the shelf over pairs, by row.Compare.
-/
namespace Go.Proofs.YtokpphhmmcoeaaaGreatDoor
open Go.RowKit Go.Shelf

/-- What has grown, with draws: blocks behind. -/
theorem grow_of_below {W w' : World} (h : Below W.heap.size W w') (hd : W.drawn ≤ w'.drawn) : ∃ q os', w' = Go.Sort.grow (W.drewN q) os' := by
  refine ⟨w'.drawn - W.drawn, w'.heap.extract W.heap.size w'.heap.size, ?_⟩
  obtain ⟨hp, tp, dr, os, ou⟩ := w'
  obtain ⟨hp0, tp0, dr0, os0, ou0⟩ := W
  obtain ⟨h1, h2, h3, h4, h5⟩ := h
  dsimp only at h1 h2 h3 h4 h5 hd
  subst h1 h2 h3
  unfold Go.Sort.grow World.drewN
  dsimp only
  congr 1
  · apply Array.ext_getElem?
    intro i
    by_cases hi : i < hp0.size
    · rw [Array.getElem?_append_left hi]; exact h5 i hi
    · rw [Array.getElem?_append_right (by omega), Array.getElem?_extract]
      split
      · congr 1; omega
      · exact Array.getElem?_eq_none (by omega)
  · omega

section
variable {α : Type} [Inhabited α] {enc : α → List Value} {k : Nat} {w0 w : World} {blk off m : Nat} {dk : Array α} {os : Array Obj}

theorem sortW_heap (j : Nat) (hj : j < w.heap.size) : (sortWorldK enc k w blk off m dk os).heap[j]? = if blk = j then (w.heap[j]?).map (Go.Sort.onCells (Go.Sort.putCells id off (Go.Sort.flatK enc k dk))) else w.heap[j]? := by
  unfold sortWorldK Go.Sort.grow Go.Sort.putRowK Go.Sort.putRow Go.Sort.mapBlock Go.Sort.ahead
  dsimp only
  rw [Array.getElem?_append_left (by simpa using hj), Array.getElem?_modify]
theorem sortW_size : w.heap.size ≤ (sortWorldK enc k w blk off m dk os).heap.size := by
  unfold sortWorldK Go.Sort.grow Go.Sort.putRowK Go.Sort.putRow Go.Sort.mapBlock Go.Sort.ahead
  simp
theorem below_sortW {B : Nat} (h : Below B w0 w) (hb : B ≤ blk) (hB : B ≤ w.heap.size) : Below B w0 (sortWorldK enc k w blk off m dk os) := by
  refine h.trans ⟨rfl, rfl, rfl, sortW_size, fun j hj => ?_⟩
  rw [sortW_heap j (by omega), if_neg (by omega)]
end

set_option maxHeartbeats 1000000 in
/-- The comparison that is handed to the sort. -/
theorem collect_cmp (g0 : Nat) (v1 r1 r2 : Value) (cs : List ColB) (a b : List CellB) (x y : Int) (W : World) (h1 : RdC W v1 cs) (h2 : RdE W r1 a) (h3 : RdE W r2 b) (hC : CS cs) (hA : CES a) (hB : CES b) (hT : Tabs W) (hc : W.cell? ⟨g0, 0, none⟩ = some v1) :
    Calls Tryz.prog 38 #[.agg #[r1, .int .i64 x], .agg #[r2, .int .i64 y], .pointer (some ⟨g0, 0, none⟩)] W fun e w' => e = .returned (.int .i64 (cmpR cs a b)) ∧ Below W.heap.size W w' := by
  obtain ⟨ao, n, cap, rfl⟩ := h2.lit
  obtain ⟨ao', n', cap', rfl⟩ := h3.lit
  obtain ⟨N0, N1, N2, N3⟩ := new2 W (.cells #[.slice ao n cap, .int .i64 x] 75) (.cells #[.slice ao' n' cap', .int .i64 y] 75)
  have CK := Lib.hid (row_Compare v1 _ _ cs a b _ (h1.later N3 (Nat.le_refl _)) (h2.later N3 (Nat.le_refl _)) (h3.later N3 (Nat.le_refl _)) hC hA hB (hT.later N3))
  have NB := Lib.hid N3
  obtain ⟨c, hcc⟩ : ∃ c, c = cmpR cs a b := ⟨_, rfl⟩
  rw [← hcc] at CK ⊢
  have hbox := (N3.cell (p := ⟨g0, 0, none⟩) (World.block_lt_of_cell? W _ hc)).trans hc
  clear N0 N1 N2 N3 h1 h2 h3 hcc
  go_enter Tryz.func38, Tryz.ntmps38
  go_wp2_with fail
  refine CK.out.mono ?_
  rintro e w1 ⟨rfl, hb⟩
  have HB := Lib.hid (NB.out.trans (hb.mono NB.out.size))
  clear hb CK
  go_wp2
  go_ret
  exact ⟨rfl, HB.out⟩

/-! ### The sort -/

abbrev InL (us : List TriB) := { t : TriB // t ∈ us }
def encI {us : List TriB} (x : InL us) : List Value := triV x.1
def cfI (cs : List ColB) {us : List TriB} (x y : InL us) : Int := cmpR cs x.1.2.1 y.1.2.1
theorem swoI {cs : List ColB} {us : List TriB} (hv : ∀ t ∈ us, Vr cs t.2.1) : Go.Sort.SWO (ltOf (cfI cs (us := us))) where
  irrefl x := by
    have := (to_row cs).irr (hv x.1 x.2)
    unfold ltOf cfI; simp [this]
  trans x y z h1 h2 := by
    unfold ltOf cfI at *
    simp only [decide_eq_true_eq] at *
    exact (to_row cs).trans (hv x.1 x.2) (hv y.1 y.2) (hv z.1 z.2) h1 h2
  ntrans x y z h1 h2 := by
    unfold ltOf cfI at *
    simp only [decide_eq_false_iff_not] at *
    have vx := hv x.1 x.2
    have vy := hv y.1 y.2
    have vz := hv z.1 z.2
    have f1 := (to_row cs).flip vx vy
    have f2 := (to_row cs).flip vy vz
    have f3 := (to_row cs).flip vx vz
    intro h3
    by_cases e1 : cmpR cs y.1.2.1 x.1.2.1 = 0
    · have := ((to_row cs).zero vy vx).1 e1
      rw [this] at h2
      exact h2 h3
    · by_cases e2 : cmpR cs z.1.2.1 y.1.2.1 = 0
      · have := ((to_row cs).zero vz vy).1 e2
        rw [this] at h3
        exact h1 h3
      · have := (to_row cs).trans vz vy vx (by omega) (by omega)
        omega

theorem flatK_get {us : List TriB} [Inhabited (InL us)] (d : Array (InL us)) (t : Nat) (h : t < d.size * 2) : ((d.toList.map (fun x => triV x.1)).flatten)[t]? = some ((Go.Sort.flatK encI 2 d)[t]!) := by
  rw [Go.Sort.get_flatK _ _ _ t h]
  have h2 : t / 2 < d.size := by omega
  have e : (d.toList.map (fun x => triV x.1)).flatten[t / 2 * 2 + t % 2]? = some ((encI d[t / 2]!)[t % 2]!) := by
    refine flatten_at (n := 2) _ (fun x hx => by obtain ⟨y, _, rfl⟩ := List.mem_map.1 hx; rfl) (t / 2) (t % 2) _ (by simpa using h2) ?_
    have eg : (d.toList.map (fun x => triV x.1)).getD (t / 2) [] = encI d[t / 2]! := by
      rw [getElem!_pos d (t / 2) h2]
      simp [List.getD, h2, encI]
    rw [eg]
    have hl : (encI d[t / 2]!).length = 2 := rfl
    rw [getElem!_pos (encI d[t / 2]!) (t % 2) (by rw [hl]; omega)]
    exact List.getElem?_eq_getElem _
  have e2 : t / 2 * 2 + t % 2 = t := by omega
  rwa [e2] at e

theorem ownG_sorted {us : List TriB} [Inhabited (InL us)] {w : World} {base g cap n m : Nat} {os : Array Obj} {d : Array (InL us)} {vs : List (List Value)} (h : OwnG pairE w base (.slice (some ⟨g, 0, none⟩) n cap) vs) (hn : vs.length = n) (hd : d.size = n)
    (h1 : ∀ t ∈ us, t.1.oneCell' = true) : OwnG pairE (sortWorldK encI 2 w g 0 m d os) base (.slice (some ⟨g, 0, none⟩) n cap) ((d.toList.map (·.1)).map triV) := by
  obtain ⟨⟨h0, h2⟩, hwid, hone⟩ := h
  rcases h2 with ⟨hv, _⟩ | ⟨g', cap', cur, hv, hbg, hg, hnc, hm, hcs, ht⟩
  · simp at hv
  simp only [Value.slice.injEq, Option.some.injEq, Addr.mk.injEq] at hv
  obtain ⟨⟨rfl, _⟩, _, rfl⟩ := hv
  have hgl : g < w.heap.size := (Array.getElem?_eq_some_iff.1 hg).1
  have hlen : ((d.toList.map (·.1)).map triV).length = n := by simpa using hd
  have hw2 : ∀ x ∈ (d.toList.map (·.1)).map triV, x.length = pairE.n := fun x hx => by
    obtain ⟨t, _, rfl⟩ := List.mem_map.1 hx; rfl
  have hfl : ((d.toList.map (·.1)).map triV).flatten.length = n * 2 := by
    have := flatG_len _ hw2
    rw [hlen] at this; exact this
  refine ⟨⟨?_, .inr ⟨g, cap, Go.Sort.putCells id 0 (Go.Sort.flatK encI 2 d) cur, by rw [hlen], hbg, ?_, by omega, hm, ?_, ?_⟩⟩, hw2, ?_⟩
  · rw [hlen]; exact hfl
  · rw [sortW_heap g hgl, if_pos rfl, hg]; rfl
  · unfold Go.Sort.putCells; simpa using hcs
  · rw [hlen]
    show (Go.Sort.putCells id 0 (Go.Sort.flatK encI 2 d) cur).toList.take (n * 2) = _
    have hcs2 : cur.size = cap * 2 := hcs
    apply List.ext_getElem?
    intro t
    by_cases htl : t < n * 2
    · have e := flatK_get d t (by omega)
      rw [show d.toList.map (fun x => triV x.1) = (d.toList.map (·.1)).map triV from by rw [List.map_map]; rfl] at e
      rw [List.getElem?_take_of_lt htl, e, Array.getElem?_toList]
      have htc : t < cur.size := by rw [hcs2]; omega
      unfold Go.Sort.putCells
      rw [Array.getElem?_mapIdx, Array.getElem?_eq_getElem htc, Option.map_some, if_pos ⟨by omega, by rw [Go.Sort.size_flatK]; omega⟩]
      rfl
    · rw [List.getElem?_eq_none (by rw [List.length_take]; omega), List.getElem?_eq_none (by omega)]
  · intro x hx u hu
    obtain ⟨t, ht, rfl⟩ := List.mem_map.1 hx
    obtain ⟨y, _, rfl⟩ := List.mem_map.1 ht
    simp [triV] at hu
    rcases hu with rfl | rfl
    · exact h1 _ y.2
    · rfl

set_option maxHeartbeats 1000000 in
theorem sort_pairs (g0 : Nat) (v1 v : Value) (us : List TriB) (cs : List ColB) (w0 w : World) (base : Nat) (T0 : TypeId) (fr : Nat × Nat) (ho : OwnG pairE w base v (us.map triV)) (hB : w0.heap.size ≤ base) (hb : Below w0.heap.size w0 w)
    (hr : ∀ t ∈ us, RdE w0 t.1 t.2.1) (hv : ∀ t ∈ us, Vr cs t.2.1) (h1 : RdC w0 v1 cs) (hC : CS cs) (hT : Tabs w0) (hn : us.length ≤ 140737488351232)
    (hbox : w.heap[g0]? = some (.cells #[v1] T0 fr)) (hg0 : g0 < base) :
    Calls Tryz.prog 37 #[v, .func (.func 38) #[] #[.pointer (some ⟨g0, 0, none⟩)]] w fun e w' =>
      e = .returned (.tuple #[]) ∧ ∃ us' : List TriB, us'.Perm us ∧ Z.wsrt (cmpR cs) (us'.map (·.2)) ∧ OwnG pairE w' base v (us'.map triV) ∧ Below base w w' := by
  by_cases h0 : us = []
  · subst h0
    obtain ⟨ao, cap, e, _⟩ := RdG.shape (ho.rd (by simp))
    subst e
    exact (AnyF.slices_SortFunc_none Tryz.sortP ao cap _ w).mono fun e w' ⟨he, hw⟩ => ⟨he, [], List.Perm.refl _, by simp [Z.wsrt], by subst hw; exact ho, by subst hw; exact Below.refl _ _⟩
  · haveI : Inhabited (InL us) := ⟨⟨us.head h0, List.head_mem h0⟩⟩
    have hpos : 0 < us.length := List.length_pos_iff.2 h0
    obtain ⟨g, cap, hvv, hbg, _⟩ := OwnG.spot pairOk ho (by simpa using hpos) (by simpa using hn)
    rw [List.length_map] at hvv
    subst hvv
    have hlt := (ho.lt (k := g) rfl).2
    have hrd := ho.rd (by simpa using hn)
    have hwb : w0.heap.size ≤ w.heap.size := hb.size
    obtain ⟨d, hd⟩ : ∃ d : Array (InL us), d = us.attach.toArray := ⟨_, rfl⟩
    have hds : d.size = us.length := by rw [hd]; simp
    have hdl : d.toList.map (·.1) = us := by rw [hd]; exact List.attach_map_subtype_val us
    have hfroz : ∀ i, w.frozen? ⟨g, i, none⟩ = false := by
      rcases ho.1.2 with ⟨hv', _⟩ | ⟨g', cap', cur, hv', _, hg, _⟩
      · simp at hv'
      · simp only [Value.slice.injEq, Option.some.injEq, Addr.mk.injEq] at hv'
        obtain ⟨⟨rfl, _⟩, _⟩ := hv'
        intro i
        exact frozen_of_row _ _ _ _ _ hg
    have hH : Go.Sort.HoldsK encI 2 w g 0 d := by
      intro j hj
      rw [Go.Sort.size_flatK] at hj
      refine ⟨?_, hfroz _⟩
      have e := flatK_get d j hj
      rw [show d.toList.map (fun x => triV x.1) = us.map triV from by
        have := congrArg (List.map triV) hdl
        rw [List.map_map] at this
        exact this] at e
      obtain ⟨hi, hj2⟩ := flatG_inv (n := 2) (by decide) (us.map triV) hrd.wid j _ e
      have := hrd.cells (j / 2) hi (j % 2) _ hj2
      rw [adr_lit] at this
      have e2 : 0 + (j / 2 * 2 + j % 2) = 0 + j := by omega
      rw [show pairE.n = 2 from rfl, e2] at this
      exact this
    have eg : ∀ args w, (callFunc 38 args).run Tryz.prog w = .ok (.enter 38 args) w := enters_of Tryz.func38 (by kernel_rfl) rfl
    have hcmp : CmpLays Tryz.prog 38 #[.pointer (some ⟨g0, 0, none⟩)] encI 2 (cfI cs (us := us)) g 0 d.size w := by
      intro m os dk hdk x y
      obtain ⟨W, hW⟩ : ∃ W, W = sortWorldK encI 2 w g 0 m dk os := ⟨_, rfl⟩
      rw [← hW]
      have hbW : Below w0.heap.size w0 W := by rw [hW]; exact below_sortW hb (by omega) hwb
      have hg0l : g0 < w.heap.size := (Array.getElem?_eq_some_iff.1 hbox).1
      have hbx : W.heap[g0]? = some (.cells #[v1] T0 fr) := by rw [hW, sortW_heap g0 hg0l, if_neg (by omega)]; exact hbox
      have hc := cell_of_row _ _ 0 _ _ _ hbx
      have hk := collect_cmp g0 v1 x.1.1 y.1.1 cs x.1.2.1 y.1.2.1 x.1.2.2 y.1.2.2 W (h1.later hbW (Nat.le_refl _)) ((hr x.1 x.2).later hbW (Nat.le_refl _)) ((hr y.1 y.2).later hbW (Nat.le_refl _)) hC (hv x.1 x.2).2 (hv y.1 y.2).2 (hT.later hbW) (by simpa using hc)
      refine (Calls.drawn hk).mono ?_
      rintro e w' ⟨⟨rfl, hbl⟩, hdr⟩
      exact ⟨rfl, grow_of_below hbl (hdr (by intro h; cases h))⟩
    have hcon := AnyQ.slices_SortFunc Tryz.sortP 2 Tryz.isAgg75 Tryz.sizeOf75 encI (fun _ => rfl) (fun x u hu => triV_one (hr x.1 x.2) u hu) (cfI cs (us := us)) (swoI hv) 38 #[.pointer (some ⟨g0, 0, none⟩)] g 0 cap d w eg hcmp hH hlt (by omega)
    rw [hds] at hcon
    refine hcon.mono ?_
    rintro e w' ⟨he, d', n, os, hp, hs, rfl⟩
    obtain ⟨hp1, _, hp3⟩ := hp
    rw [hds] at hp1
    have hsz' : d'.size = us.length := by rw [hp1]
    have hex : ∀ x : Array (InL us), x.size = us.length → x.extract 0 us.length = x := fun x hx => by rw [← hx]; simp
    rw [hex d' hsz', hex d hds] at hp3
    refine ⟨he, d'.toList.map (·.1), by have := hp3.map (·.1); rw [hdl] at this; exact this, ?_, ?_, ?_⟩
    · unfold Z.wsrt
      rw [List.pairwise_map, List.pairwise_map, List.pairwise_iff_getElem]
      intro i j hi hj hij
      have hi' : i < d'.size := by simpa using hi
      have hj' : j < d'.size := by simpa using hj
      have := hs i j (Nat.zero_le _) hij (by omega)
      rw [getElem!_pos d' i hi', getElem!_pos d' j hj'] at this
      unfold ltOf cfI at this
      simp only [decide_eq_false_iff_not] at this
      have hf := (to_row cs).flip (hv d'[i].1 d'[i].2) (hv d'[j].1 d'[j].2)
      simp only [Array.getElem_toList]
      omega
    · have := ownG_sorted (m := n) (os := os) (d := d') ho (by simp) hsz' (fun t ht => rowv_one (hr t ht))
      exact this
    · exact below_sortW (Below.refl _ _) hbg (by omega)

end Go.Proofs.YtokpphhmmcoeaaaGreatDoor


/-
  zset.merge: sorted pairs put together.
-/
namespace Go.Proofs.YtokpphhmmcoeaaaGreatDoor
open Go.RowKit Go.Shelf

theorem drop_getP {ps : List PairB} {k : Nat} (h : k < ps.length) : ps.drop k = ps.getD k default :: ps.drop (k + 1) := by
  rw [List.drop_eq_getElem_cons h]; simp [List.getD, h]
theorem mg_same {ps : List PairB} {k : Nat} {x : Int} (h : k + 1 < ps.length) (e : (ps.getD k default).1 = (ps.getD (k + 1) default).1) :
    Z.mg x (ps.drop k) = Z.mg (x + (ps.getD k default).2) (ps.drop (k + 1)) := by
  rw [drop_getP (show k < ps.length by omega), drop_getP h]
  conv => lhs; rw [Z.mg]
  rw [if_pos e]
theorem mg_next {ps : List PairB} {k : Nat} {x : Int} (h : k < ps.length) (e : k + 1 < ps.length → (ps.getD k default).1 ≠ (ps.getD (k + 1) default).1) :
    Z.mg x (ps.drop k) = ((ps.getD k default).1, x + (ps.getD k default).2) :: Z.mg 0 (ps.drop (k + 1)) := by
  rw [drop_getP h]
  by_cases h2 : k + 1 < ps.length
  · rw [drop_getP h2]
    conv => lhs; rw [Z.mg]
    rw [if_neg (e h2)]
  · rw [List.drop_of_length_le (by omega)]; rfl
theorem overB_one (done : List PairB) (r : List CellB) (y : Int) (h : overB done = false) : overB (done ++ [(r, y)]) = (wE y != 0) := by
  unfold overB at *
  rw [List.any_append, h]; simp
theorem overB_pre (a b : List PairB) (h : overB a = true) : overB (a ++ b) = true := by
  unfold overB at *
  rw [List.any_append, h]; rfl
theorem nz_one (done : List PairB) (r : List CellB) (y : Int) : Z.nz (done ++ [(r, y)]) = Z.nz done ++ (if y = 0 then [] else [(r, y)]) := by
  unfold Z.nz
  rw [List.filter_append]
  congr 1
  by_cases h0 : y = 0
  · rw [if_pos h0, List.filter_cons_of_neg (by simp [h0])]; rfl
  · rw [if_neg h0, List.filter_cons_of_pos (by rw [bne_iff_ne]; exact h0)]; rfl
theorem nz_len (l : List PairB) : (Z.nz l).length ≤ l.length := List.length_filter_le _ _
theorem mg_len : ∀ (l : List PairB) (x : Int), (Z.mg x l).length ≤ l.length
  | [], _ => by simp [Z.mg]
  | [_], _ => by simp [Z.mg]
  | p :: q :: t, x => by
    simp only [Z.mg]
    split
    · have := mg_len (q :: t) (x + p.2); simp at this ⊢; omega
    · have := mg_len (q :: t) 0; simp at this ⊢; omega
def mgE (ps : List PairB) : Nat := if overB (Z.mg 0 ps) = true then 12 else 0
def mgO (ps : List PairB) : List PairB := if overB (Z.mg 0 ps) = true then [] else Z.nz (Z.mg 0 ps)
theorem totR_new (w : World) (g : Nat) (h : w.heap[g]? = some (.cells #[.int .u64 0, .int .u64 0, .int .i64 0] 116 (0, 0))) : TotR w g 0 0 := h
theorem TotR.later {w w' : World} {g : Nat} {x : Int} {n : Nat} (h : TotR w g x n) (hb : Below w.heap.size w w') : TotR w' g x n := (hb.block g (Array.getElem?_eq_some_iff.1 h).1).trans h
/-- What a partial sum stays within. -/
def xB (x : Int) (k : Nat) : Prop := -(9223372036854775808 * (k : Int)) ≤ x ∧ x ≤ 9223372036854775808 * (k : Int)
theorem only_grown {w w' : World} {g : Nat} (h : Only (fun j => j = g) w w') : w.grownBy w' (some g) := ⟨h.os, h.tape, h.output, h.size, fun k hk hne => h.block k hk (fun e => hne (by rw [e]))⟩

set_option maxHeartbeats 16000000 in
theorem zset_merge (v : Value) (ps : List PairB) (w : World) (h : RdP w v ps) (hP : PSO ps) (hn : ps.length * 32 ≤ 140737488351360) :
    Calls Tryz.prog 40 #[v] w fun e w' => ∃ v', e = .returned (.tuple #[v', .int .i64 (mgE ps : Nat)]) ∧ OwnP w' w.heap.size v' (mgO ps) ∧ Below w.heap.size w w' := by
  have hl := h.len
  have H := Lib.hid h
  obtain ⟨n, hnn⟩ : ∃ n, n = ps.length := ⟨_, rfl⟩
  rw [← hnn] at hl hn
  have HN := Lib.hid hnn
  have hsm : n ≤ 140737488351232 := by omega
  have NW := Lib.hid (new1 w (.cells #[.int .u64 0, .int .u64 0, .int .i64 0] 116))
  have hsz1 : w.heap.size ≤ (w.alloc (.cells #[.int .u64 0, .int .u64 0, .int .i64 0] 116)).heap.size := NW.out.2.2.size
  clear h hnn
  go_enter Tryz.func40, Tryz.ntmps40
  go_wp2
  go_step3
  go_wp2
  go_step3
  go_wp2
  go_loopw [4, 5, 13] (fun tv gv i wr => ∃ (k gt c : Nat) (tx : Value) (x : Int), tx = tv ∧ gv = .pointer (some ⟨gt, 0, none⟩) ∧ k ≤ n ∧ i = .int .i64 k ∧
      Hid (∃ (done : List PairB) (ts : List TriB), overB done = false ∧ done ++ Z.mg x (ps.drop k) = Z.mg 0 ps ∧ Z.nz done = ts.map (·.2) ∧ OwnG pairE wr w.heap.size tx (ts.map triV) ∧ (∀ t ∈ ts, RdE w t.1 t.2.1) ∧ done.length ≤ k) ∧ Hid (TotR wr gt x c ∧ c ≤ k ∧ xB x k) ∧ Hid (w.heap.size ≤ gt ∧ tx.ownBlock ≠ some gt) ∧ Hid (Below w.heap.size w wr)) (fun _ _ i _ => n - (intOf i).toNat)
  case atStart => exact ⟨0, _, 0, _, 0, rfl, rfl, by omega, rfl, Lib.hid ⟨[], [], rfl, rfl, rfl, OwnG.nil _ _ _, by simp, by simp⟩, Lib.hid ⟨NW.out.2.1, by omega, by simp [xB]⟩, Lib.hid ⟨by omega, by simp [Value.ownBlock]⟩, Lib.hid NW.out.2.2⟩
  case round =>
    obtain ⟨k, gt, c, tx, x, rfl, rfl, hk, rfl, HD, HTt, HG, HB⟩ := hrel
    by_cases hlt : k < n
    · have k2 : k < ps.length := by rw [← HN.out]; exact hlt
      obtain ⟨b, o, rv, hi, c0, c1, hre, hbl⟩ := H.out.get k2
      obtain ⟨hce, hww⟩ := hP.get k2
      obtain ⟨ao, nn, cap, rfl⟩ := hre.lit
      have HSM := Lib.hid (fun h e => mg_same (ps := ps) (k := k) (x := x) h e)
      have HNX := Lib.hid (fun e => mg_next (ps := ps) (k := k) (x := x) k2 e)
      obtain ⟨p, hp⟩ : ∃ p, p = ps.getD k default := ⟨_, rfl⟩
      rw [← hp] at c1 hre hce hww HSM HNX
      rcases p with ⟨r, a⟩
      dsimp only at c1 hre hce hww HSM HNX
      have hc0 := (HB.out.cell (p := ⟨b, o, none⟩) hbl).trans c0
      have hc1 := (HB.out.cell (p := ⟨b, o + 1, none⟩) hbl).trans c1
      have NN := Lib.hid (new1 wr (.cells #[.slice ao nn cap, .int .i64 a] 75))
      have HBN := Lib.hid (HB.out.trans (NN.out.2.2.mono HB.out.size))
      have hck := HTt.out.2.1
      have hgl : gt < wr.heap.size := (Array.getElem?_eq_some_iff.1 HTt.out.1).1
      have TA := Lib.hid (total_Add gt x a c hww (by omega) _ (HTt.out.1.later NN.out.2.2))
      have HRE := Lib.hid hre
      have HW := Lib.hid hww
      clear hp hre c0 c1 hce hww
      go_wp2_with fail
      refine TA.out.mono ?_
      rintro e w2 ⟨rfl, ht, ho⟩
      have hnb := ho.keep (j := wr.heap.size) NN.out.2.1 (by show ¬ wr.heap.size = gt; omega)
      have d0 := cell_of_row _ _ 0 _ _ _ hnb
      have d1 := cell_of_row _ _ 1 _ _ _ hnb
      simp at d0 d1
      have HNB := Lib.hid hnb
      have hs2 := ho.size
      have hsn := NN.out.1
      have hsr := HB.out.size
      have HB2 := Lib.hid (HBN.out.trans (ho.toBelow (B := w.heap.size) (fun j hj => by rw [hj]; exact HG.out.1) (by omega)))
      obtain ⟨done, ts, q1, q2, q3, q4, q5, q6⟩ := HD.out
      have Q4a := Lib.hid (OwnG.grown (OwnG.later q4 NN.out.2.2 (Nat.le_refl _)) (only_grown ho) (fun k hk e => HG.out.2 (by rw [hk, e])))
      have QD := Lib.hid (show overB done = false ∧ done ++ Z.mg x (ps.drop k) = Z.mg 0 ps ∧ Z.nz done = ts.map (·.2) ∧ (∀ t ∈ ts, RdE w t.1 t.2.1) ∧ done.length ≤ k from ⟨q1, q2, q3, q5, q6⟩)
      obtain ⟨y, hy⟩ : ∃ y, y = x + a := ⟨_, rfl⟩
      rw [← hy] at ht HSM HNX
      have HT2 := Lib.hid ht
      have YX := Lib.hid (show xB y (k + 1) from by
        have h1 := HTt.out.2.2
        have h2 := HW.out
        unfold xB inW at *
        push_cast
        omega)
      have YB := Lib.hid (show -170141183460469231731687303715884105728 ≤ y ∧ y < 170141183460469231731687303715884105728 from by
        have h1 := YX.out
        unfold xB at h1
        push_cast at h1
        omega)
      clear hy ht ho hnb q1 q2 q3 q4 q5 q6 HD TA HBN HB hc0 hc1 HW HTt
      by_cases hls : k + 1 < n
      focus
        have k3 : k + 1 < ps.length := by rw [← HN.out]; exact hls
        obtain ⟨b', o', rv', hi', c0', c1', hre', hbl'⟩ := H.out.get k3
        have hc0' := (HB2.out.cell (p := ⟨b', o', none⟩) hbl').trans c0'
        have CC := Lib.hid (fun wz (hz : Below w2.heap.size w2 wz) => row_Same _ rv' r (ps.getD (k + 1) default).1 wz (HRE.out.later (HB2.out.trans (hz.mono HB2.out.size)) (Nat.le_refl _)) (hre'.later (HB2.out.trans (hz.mono HB2.out.size)) (Nat.le_refl _)))
        have HSM2 := Lib.hid (HSM.out k3)
        have HNX2 := Lib.hid (fun e : r ≠ (ps.getD (k + 1) default).1 => HNX.out (fun _ => e))
        obtain ⟨r2, hr2⟩ : ∃ r2, r2 = (ps.getD (k + 1) default).1 := ⟨_, rfl⟩
        rw [← hr2] at CC HSM2 HNX2
        have hk1 : ((k + 1 : Nat) : Int) = (k : Int) + 1 := by omega
        rw [hk1] at hi'
        have hwj : IntKind.i64.wrap ((k : Int) + 1) = (k : Int) + 1 := IntWalk.i64_in _ (by omega)
        have hpos : decide ((k : Int) + 1 < (n : Int)) = true := decide_eq_true (by omega)
        clear hr2 c0' c1' hre' k2 k3 HSM HNX
        go_wp2
        go_still_tail 14, (by kernel_rfl)
        change wpList _ _ _ _ _ w2.drew
        have HD3 := Lib.hid ((Below.refl w2.heap.size w2).drew)
        clear d0 d1 hc0' hi'
        go_wp2_with fail
        refine (CC.out _ HD3.out).mono ?_
        rintro e w3 ⟨rfl, hb⟩
        have hb3 := HD3.out.trans (hb.mono HD3.out.size)
        have HBX := Lib.hid (HB2.out.trans (hb3.mono HB2.out.size))
        have Q4 := Lib.hid (OwnG.later Q4a.out hb3 (Nat.le_refl _))
        have HTX := Lib.hid (HT2.out.later hb3)
        have hg2 : wr.heap.size < w2.heap.size := (Array.getElem?_eq_some_iff.1 HNB.out).1
        have HBP := Lib.hid (show w3.heap[wr.heap.size]? = some (.cells #[.slice ao nn cap, .int .i64 a] 75 (0, 0)) ∧ wr.heap.size < w3.heap.size from ⟨(hb3.block _ hg2).trans HNB.out, by have := hb3.size; omega⟩)
        clear hb hb3 CC HD3 HNB
        by_cases hrr : r = r2
        · have hdd : decide (r = r2) = true := decide_eq_true hrr
          have HD5 := Lib.hid (show ∃ (done : List PairB) (ts : List TriB), overB done = false ∧ done ++ Z.mg y (ps.drop (k + 1)) = Z.mg 0 ps ∧ Z.nz done = ts.map (·.2) ∧ OwnG pairE w3 w.heap.size tx (ts.map triV) ∧ (∀ t ∈ ts, RdE w t.1 t.2.1) ∧ done.length ≤ k + 1 from by
            obtain ⟨q1, q2, q3, q5, q6⟩ := QD.out
            exact ⟨done, ts, q1, by rw [← HSM2.out hrr]; exact q2, q3, Q4.out, q5, by omega⟩)
          have HT5 := Lib.hid (show TotR w3 gt y (c + 1) ∧ c + 1 ≤ k + 1 ∧ xB y (k + 1) from ⟨HTX.out, by omega, YX.out⟩)
          clear HSM2 HNX2 QD Q4 HTX YB YX
          go_wp2
          go_roundw
          case rel => exact ⟨k + 1, _, c + 1, _, y, rfl, rfl, by omega, by go_num, HD5, HT5, HG, HBX⟩
          case measure => simp [intOf]; omega
        have hdd : decide (r = r2) = false := decide_eq_false hrr
        have HNEXT := Lib.hid (HNX2.out hrr)
        clear HSM2 HNX2 hrr
      rotate_left
      focus
        have HNEXT := Lib.hid (HNX.out (fun h9 => absurd h9 (by rw [← HN.out]; exact hls)))
        have hpos : decide ((k : Int) + 1 < (n : Int)) = false := decide_eq_false (by omega)
        have hwj : IntKind.i64.wrap ((k : Int) + 1) = (k : Int) + 1 := IntWalk.i64_in _ (by omega)
        clear HSM HNX k2
        go_wp2
        go_quiet (fail)
        have hb3 := _root_.Go.below_drewN (Below.refl w2.heap.size w2) nq
        generalize w2.drewN nq = wX at hb3 ⊢
        have HBX := Lib.hid (HB2.out.trans (hb3.mono HB2.out.size))
        have Q4 := Lib.hid (OwnG.later Q4a.out hb3 (Nat.le_refl _))
        have HTX := Lib.hid (HT2.out.later hb3)
        have hg2 : wr.heap.size < w2.heap.size := (Array.getElem?_eq_some_iff.1 HNB.out).1
        have HBP := Lib.hid (show wX.heap[wr.heap.size]? = some (.cells #[.slice ao nn cap, .int .i64 a] 75 (0, 0)) ∧ wr.heap.size < wX.heap.size from ⟨(hb3.block _ hg2).trans HNB.out, by have := hb3.size; omega⟩)
        clear hb3 HNB
        clear d0 d1
      all_goals
        have TS := Lib.hid (total_Sum gt y (c + 1) YB.out _ HTX.out)
        go_wp2_with fail
        refine TS.out.mono ?_
        rintro e w4 ⟨rfl, hb⟩
        have HB4 := Lib.hid (HBX.out.trans (hb.mono HBX.out.size))
        have Q44 := Lib.hid (OwnG.later Q4.out hb (Nat.le_refl _))
        have hp4 := (hb.block _ HBP.out.2).trans HBP.out.1
        have f0 := cell_of_row _ _ 0 _ _ _ hp4
        have f1 := cell_of_row _ _ 1 _ _ _ hp4
        simp at f0 f1
        have hs4 := HB4.out.size
        clear hb TS HTX HBX Q4 HBP hp4
        by_cases hy : i64 y
        · rw [show wE y = 0 from if_pos hy, show wV y = y from if_pos hy]
          have HWE := Lib.hid (show wE y = 0 from if_pos hy)
          by_cases hy0 : y = 0
          · have NT := Lib.hid (new1 w4 (.cells #[.int .u64 0, .int .u64 0, .int .i64 0] 116))
            have HD5 := Lib.hid (show ∃ (done : List PairB) (ts : List TriB), overB done = false ∧ done ++ Z.mg 0 (ps.drop (k + 1)) = Z.mg 0 ps ∧ Z.nz done = ts.map (·.2) ∧ OwnG pairE (w4.alloc (.cells #[.int .u64 0, .int .u64 0, .int .i64 0] 116)) w.heap.size tx (ts.map triV) ∧ (∀ t ∈ ts, RdE w t.1 t.2.1) ∧ done.length ≤ k + 1 from by
              obtain ⟨q1, q2, q3, q5, q6⟩ := QD.out
              exact ⟨done ++ [(r, y)], ts, by rw [overB_one _ _ _ q1, HWE.out]; rfl, by rw [List.append_assoc, List.singleton_append, ← HNEXT.out]; exact q2, by rw [nz_one, if_pos hy0, List.append_nil]; exact q3, OwnG.later Q44.out NT.out.2.2 (Nat.le_refl _), q5, by simp; omega⟩)
            have HG5 := Lib.hid (show w.heap.size ≤ w4.heap.size ∧ tx.ownBlock ≠ some w4.heap.size from ⟨hs4, fun h9 => by have := (OwnG.lt Q44.out h9).2; omega⟩)
            have HB5 := Lib.hid (HB4.out.trans (NT.out.2.2.mono hs4))
            have HT5 := Lib.hid (show TotR (w4.alloc (.cells #[.int .u64 0, .int .u64 0, .int .i64 0] 116)) w4.heap.size 0 0 ∧ 0 ≤ k + 1 ∧ xB 0 (k + 1) from ⟨NT.out.2.1, by omega, by unfold xB; omega⟩)
            subst hy0
            clear HB4 Q44 NT hy HNEXT QD YB
            go_wp2
            go_roundw
            case rel => exact ⟨k + 1, _, 0, _, 0, rfl, rfl, by omega, by go_num, HD5, HT5, HG5, HB5⟩
            case measure => simp [intOf]; omega
          · have q : (y != 0) = true := by rw [bne_iff_ne]; exact hy0
            have Q45 := Lib.hid (OwnG.alloc Q44.out (.cells #[.slice ao nn cap, .int .i64 y] 75))
            have HR1 := Lib.hid (show RdG pairE (w4.alloc (.cells #[.slice ao nn cap, .int .i64 y] 75)) (.slice (some ⟨w4.heap.size, 0, none⟩) 1 1) [triV (.slice ao nn cap, (r, y))] from
              rdG_one pairOk (triV (.slice ao nn cap, (r, y))) rfl ⟨w4.heap.size, 0, none⟩ ⟨_, _, rfl⟩ fun j z hj => by
                have e : Addr.add ⟨w4.heap.size, 0, none⟩ j = ⟨w4.heap.size, j, none⟩ := by simp only [Addr.add]; split <;> simp_all
                rw [e, cell_of_row _ _ _ _ _ _ (heap_alloc_new _ _)]
                simpa [triV] using hj)
            have H1 := Lib.hid (show ∀ x ∈ [triV (.slice ao nn cap, (r, y))], ∀ u ∈ x, u.oneCell' = true from by simp [triV, Value.oneCell'])
            have HB45 := Lib.hid (HB4.out.alloc hs4 (.cells #[.slice ao nn cap, .int .i64 y] 75))
            have hls : (ts.map triV).length ≤ k := by
              obtain ⟨q1, q2, q3, q5, q6⟩ := QD.out
              have h1 := congrArg List.length q3
              have h2 := nz_len done
              rw [List.length_map] at h1 ⊢; omega
            clear Q44 HB4
            go_wp2_with (with_reducible refine wplT_appendAllP w.heap.size _ ?hs Q45.out _ ?hx HR1.out H1.out ?hn ?hbase w.heap.size w HB45.out (Nat.le_refl _) ?_)
            case hs => rfl
            case hx => rfl
            case hn => simp; simp at hls; omega
            case hbase => simp; omega
            intro v5 w5 ho5 hb5 hg5
            have hs5 := hb5.size
            have NT := Lib.hid (new1 w5 (.cells #[.int .u64 0, .int .u64 0, .int .i64 0] 116))
            have HO5 := Lib.hid ho5
            have HD5 := Lib.hid (show ∃ (done : List PairB) (ts : List TriB), overB done = false ∧ done ++ Z.mg 0 (ps.drop (k + 1)) = Z.mg 0 ps ∧ Z.nz done = ts.map (·.2) ∧ OwnG pairE (w5.alloc (.cells #[.int .u64 0, .int .u64 0, .int .i64 0] 116)) w.heap.size v5 (ts.map triV) ∧ (∀ t ∈ ts, RdE w t.1 t.2.1) ∧ done.length ≤ k + 1 from by
              obtain ⟨q1, q2, q3, q5, q6⟩ := QD.out
              refine ⟨done ++ [(r, y)], ts ++ [(.slice ao nn cap, (r, y))], by rw [overB_one _ _ _ q1, HWE.out]; rfl, by rw [List.append_assoc, List.singleton_append, ← HNEXT.out]; exact q2, by rw [nz_one, if_neg hy0, q3, List.map_append]; rfl, OwnG.later (by rw [List.map_append]; exact HO5.out) NT.out.2.2 (Nat.le_refl _), ?_, by simp; omega⟩
              intro t ht
              rcases List.mem_append.1 ht with ht | ht
              · exact q5 t ht
              · rw [List.mem_singleton.1 ht]; exact HRE.out)
            have HG5 := Lib.hid (show w.heap.size ≤ w5.heap.size ∧ v5.ownBlock ≠ some w5.heap.size from ⟨hs5, fun h9 => by have := (OwnG.lt HO5.out h9).2; omega⟩)
            have HB5 := Lib.hid (hb5.trans (NT.out.2.2.mono hs5))
            have HT5 := Lib.hid (show TotR (w5.alloc (.cells #[.int .u64 0, .int .u64 0, .int .i64 0] 116)) w5.heap.size 0 0 ∧ 0 ≤ k + 1 ∧ xB 0 (k + 1) from ⟨NT.out.2.1, by omega, by unfold xB; omega⟩)
            clear ho5 hb5 hg5 HO5 NT hy HNEXT QD YB Q45 HR1 H1 HB45 hls
            go_wp2
            go_roundw
            case rel => exact ⟨k + 1, _, 0, _, 0, rfl, rfl, by omega, by go_num, HD5, HT5, HG5, HB5⟩
            case measure => simp [intOf]; omega
        · rw [show wE y = 12 from if_neg hy, show wV y = 0 from if_neg hy]
          have HOV := Lib.hid (show overB (Z.mg 0 ps) = true from by
            obtain ⟨q1, q2, q3, q5, q6⟩ := QD.out
            rw [← q2, HNEXT.out, ← List.singleton_append, ← List.append_assoc]
            exact overB_pre _ _ (by rw [overB_one _ _ _ q1, show wE y = 12 from if_neg hy]; rfl))
          clear hy HNEXT QD YB
          go_wp2
          rw [Exit.noGoto_ret]
          go_ret2
          exact ⟨_, by unfold mgE; rw [if_pos HOV.out]; rfl, by unfold mgO; rw [if_pos HOV.out]; exact OwnP.nil _ _, HB4.out⟩
    · obtain rfl : k = n := by omega
      obtain ⟨done, ts, q1, q2, q3, q4, q5, q6⟩ := HD.out
      rw [HN.out, List.drop_length] at q2
      have q2' : done = Z.mg 0 ps := by simpa [Z.mg] using q2
      subst q2'
      have HE := Lib.hid (show mgE ps = 0 from by unfold mgE; rw [if_neg (by rw [q1]; simp)])
      have HO := Lib.hid (show mgO ps = Z.nz (Z.mg 0 ps) from by unfold mgO; rw [if_neg (by rw [q1]; simp)])
      have HP := Lib.hid (show OwnP wr w.heap.size tx (Z.nz (Z.mg 0 ps)) from by
        refine ⟨ts, q3, q4, fun t ht => ⟨(q5 t ht).later HB.out (Nat.le_refl _), fun g hg => (q5 t ht).offNew ?_⟩⟩
        exact (OwnG.lt q4 hg).1)
      clear hlt q1 q2 q3 q4 q5 q6 HD HTt HG
      go_wp2
      rw [Exit.noGoto_ret]
      go_ret2
      exact ⟨_, by rw [HE.out]; rfl, by rw [HO.out]; exact HP.out, HB.out⟩

end Go.Proofs.YtokpphhmmcoeaaaGreatDoor


/-
  zset.Collect, zset.Sum.
-/
namespace Go.Proofs.YtokpphhmmcoeaaaGreatDoor
open Go.RowKit Go.Shelf

/-- A row in a slice of the call's own may be another slice that reads so. -/
theorem OwnP.row {w : World} {base : Nat} {v : Value} {ps : List PairB} (h : OwnP w base v ps) (hp : 0 < ps.length) (hs : ps.length ≤ 140737488351232) : ∃ g cap, v = .slice (some ⟨g, 0, none⟩) ps.length cap ∧ base ≤ g ∧ g < w.heap.size ∧
    ∀ k, k < ps.length → (∀ u, (Instr.indexAt 27 v (.int .i64 (k : Int))).run Tryz.prog u = .ok (.pointer (some ⟨g, k * 2, none⟩)) u) ∧
      ∀ w', OwnP w' base v ps → (∃ x, w'.cell? ⟨g, k * 2, none⟩ = some x) ∧ w'.frozen? ⟨g, k * 2, none⟩ = false ∧
        ∀ rv, RdE w' rv (ps.getD k default).1 → offB rv (ps.getD k default).1.length g → OwnP (w'.setCell ⟨g, k * 2, none⟩ rv) base v ps := by
  obtain ⟨ts, rfl, ho, hr⟩ := h
  rw [List.length_map] at hp hs
  obtain ⟨g, cap, hv, hbg, hix, hsp⟩ := OwnG.spot pairOk ho (by simpa using hp) (by simpa using hs)
  have hgl : g < w.heap.size := (ho.lt (k := g) (by rw [hv]; rfl)).2
  refine ⟨g, cap, by rw [hv]; simp, hbg, hgl, fun k hk => ?_⟩
  rw [List.length_map] at hk
  refine ⟨fun u => hix k (by simpa using hk) u, fun w' ho' => ?_⟩
  obtain ⟨ts', e', hg', hr'⟩ := ho'
  have hl' : ts'.length = ts.length := by have := congrArg List.length e'; simpa using this.symm
  have hk' : k < ts'.length := by omega
  obtain ⟨hlen, hq⟩ := hsp w' (ts'.map triV) (by simpa using hl') hg' k (by simpa using hk)
  have q0 := hq 0 (by decide)
  have eg : (ts'.map triV).getD k [] = triV ts'[k] := by simp [List.getD, hk']
  have ep : (ts.map (·.2)).getD k default = ts'[k].2 := by rw [e']; simp [List.getD, hk']
  rw [eg, show pairE.n = 2 from rfl, Nat.add_zero] at q0
  rw [ep]
  refine ⟨⟨ts'[k].1, by rw [q0.1]; rfl⟩, q0.2.1, fun rv hrv hof => ?_⟩
  have hset := q0.2.2 rv (rowv_one hrv)
  have em : (ts'.map triV).set k ((triV ts'[k]).set 0 rv) = (ts'.set k (rv, ts'[k].2)).map triV := by rw [List.map_set]; rfl
  rw [em] at hset
  have hon := Only.setCell (S := fun j => j = g) (Only.refl (fun j => j = g) w') (p := ⟨g, k * 2, none⟩) rfl rv
  have hgr := only_grown hon
  refine ⟨ts'.set k (rv, ts'[k].2), ?_, hset, fun t ht => ?_⟩
  · rw [List.map_set, e']
    show _ = (ts'.map (·.2)).set k ts'[k].2
    apply List.ext_getElem?
    intro i
    rw [List.getElem?_set]
    split
    · rename_i hi; subst hi; simp [hk']
    · rfl
  · rcases List.mem_or_eq_of_mem_set ht with ht | rfl
    · obtain ⟨h1, h2⟩ := hr' t ht
      exact ⟨h1.aside hgr (fun j hj => by injection hj with hj; rw [← hj]; exact h2 g (by rw [hv]; rfl)), h2⟩
    · refine ⟨hrv.aside hgr (fun j hj => by injection hj with hj; rw [← hj]; exact hof), fun j hj => ?_⟩
      rw [hv] at hj
      injection hj with hj
      rw [← hj]; exact hof

set_option maxHeartbeats 16000000 in
theorem zset_Collect (v1 v2 : Value) (cs : List ColB) (ps : List PairB) (w : World) (h1 : RdC w v1 cs) (h2 : RdP w v2 ps) (hC : CS cs) (hP : PSO ps) (hT : Tabs w) (hl : ps.length * 32 ≤ 140737488351360) :
    Calls Tryz.prog 20 #[v1, v2] w fun e w' => ∃ v, e = .returned (.tuple #[v, .int .i64 (clcE cs ps : Nat)]) ∧ RdP w' v (clcO cs ps) ∧ Below w.heap.size w w' := by
  obtain ⟨aoc, ncc, capc, hv1, _⟩ : ∃ ao n cap, v1 = .slice ao n cap ∧ True := by
    obtain ⟨ao, cap, e, _⟩ := RdG.shape h1
    exact ⟨_, _, _, e, trivial⟩
  subst hv1
  obtain ⟨N0, N1, N2⟩ := new1 w (.cells #[.slice aoc ncc capc] 22)
  have CK := Lib.hid (zset_checkRows _ v2 cs ps _ (h1.later N2 (Nat.le_refl _)) (h2.later N2 (Nat.le_refl _)) hC hP (hT.later N2))
  obtain ⟨us, hus, hug, hur, _⟩ := h2.parts
  have H1 := Lib.hid h1
  have HT := Lib.hid hT
  have HUG := Lib.hid hug
  have HUR := Lib.hid hur
  have NB := Lib.hid N2
  have NG := Lib.hid N1
  have hns : (w.alloc (.cells #[.slice aoc ncc capc] 22)).heap.size = w.heap.size + 1 := N0
  have hbox := cell_of_row _ _ 0 _ _ _ N1
  simp at hbox
  have hul : us.length = ps.length := by rw [hus]; simp
  clear h1 h2 hug hur hT N0 N1 N2
  obtain ⟨c, hc⟩ : ∃ c, c = rowsE cs ps := ⟨_, rfl⟩
  rw [← hc] at CK
  by_cases hcz : c = 0
  · have HS := Lib.hid (show errS (colsL cs) = 0 from by
      by_cases h9 : errS (colsL cs) = 0
      · exact h9
      · unfold rowsE at hc; rw [if_pos h9] at hc; omega)
    have HF := Lib.hid (show firstE cs ps = 0 from by unfold rowsE at hc; rw [if_neg (by rw [HS.out]; simp)] at hc; omega)
    have HV := Lib.hid (allV_of (cs := cs) hP (firstE_zero.1 HF.out))
    have HE := Lib.hid (show clcE cs ps = if overB (partsC cs ps) = true then 12 else if 1024 < (canonC cs ps).length then 13 else 0 from by
      unfold clcE; rw [if_neg (by rw [HS.out]; simp), if_neg (by rw [HF.out]; simp)])
    subst hcz
    have HUS := Lib.hid hus
    clear hc hus
    go_enter Tryz.func20, Tryz.ntmps20
    go_wp2_with fail
    refine CK.out.mono ?_
    rintro e w1 ⟨rfl, hb⟩
    have HB1 := Lib.hid (NB.out.trans (hb.mono (by omega)))
    have HG1 := Lib.hid ((hb.block w.heap.size (by omega)).trans NG.out)
    have hsz1 : w.heap.size < w1.heap.size := by have := hb.size; omega
    have CL := Lib.hid (pairs_Clone v2 us w1 (RdG.later HUG.out pairOk HB1.out (Nat.le_refl _)) (fun t ht => (HUR.out t ht).later HB1.out (Nat.le_refl _)) (by omega))
    clear hb CK hbox NB NG
    go_wp2_with fail
    refine CL.out.mono ?_
    rintro e w2 ⟨v', rfl, ho2, hb2⟩
    have HB2 := Lib.hid (HB1.out.trans (hb2.mono (by omega)))
    have HG2 := Lib.hid ((hb2.block w.heap.size hsz1).trans HG1.out)
    have HV2 := Lib.hid (show ∀ t ∈ us, Vr cs t.2.1 from fun t ht => HV.out t.2 (by rw [HUS.out]; exact List.mem_map_of_mem ht))
    have SP := Lib.hid (sort_pairs w.heap.size (.slice aoc ncc capc) v' us cs w w2 w1.heap.size _ _ ho2 (by omega) HB2.out HUR.out HV2.out H1.out hC HT.out (by omega) HG2.out hsz1)
    have hbox2 := cell_of_row _ _ 0 _ _ _ HG2.out
    simp at hbox2
    have hsz2 := hb2.size
    clear ho2 hb2 CL HG1
    go_wp2_with fail
    refine SP.out.mono ?_
    rintro e w3 ⟨rfl, us', hpm, hws, ho3, hb3⟩
    have HB3 := Lib.hid (HB2.out.trans (hb3.mono (by omega)))
    have hul' : us'.length = us.length := hpm.length_eq
    have HPM := Lib.hid (show (us'.map (·.2)).Perm ps from by rw [HUS.out]; exact hpm.map _)
    have HMG := Lib.hid (show Z.mg 0 (us'.map (·.2)) = partsC cs ps from Z.mg_parts (to_row cs) HPM.out HV.out hws)
    have HP3 := Lib.hid (show PSO (us'.map (·.2)) from fun p hp => hP p (HPM.out.mem_iff.1 hp))
    have HR3 := Lib.hid (show RdP w3 v' (us'.map (·.2)) from ⟨us', rfl, ho3.rd (by simp; omega), fun t ht => (HUR.out t (hpm.mem_iff.1 ht)).later HB3.out (Nat.le_refl _)⟩)
    have MG := Lib.hid (zset_merge v' _ w3 HR3.out HP3.out (by rw [List.length_map]; omega))
    have HLM := Lib.hid (show (Z.nz (Z.mg 0 (us'.map (·.2)))).length ≤ ps.length from by
      have a1 := nz_len (Z.mg 0 (us'.map (·.2)))
      have a2 := mg_len (us'.map (·.2)) 0
      rw [List.length_map] at a2; omega)
    have hsz3 := hb3.size
    clear hb3 ho3 hpm hws SP HR3 HG2 hbox2
    go_wp2_with fail
    refine MG.out.mono ?_
    rintro e w4 ⟨v4, rfl, ho4, hb4⟩
    have HB4 := Lib.hid (HB3.out.trans (hb4.mono (by omega)))
    have HO4 := Lib.hid ho4
    have hsz4 := hb4.size
    clear ho4 hb4 MG
    unfold mgE
    by_cases hov : overB (Z.mg 0 (us'.map (·.2))) = true
    · rw [if_pos hov, show ((12 : Nat) : Int) = 12 from rfl]
      have HE2 := Lib.hid (show clcE cs ps = 12 from by rw [HE.out, if_pos (by rw [← HMG.out]; exact hov)])
      have HX := Lib.hid (show clcO cs ps = [] from by unfold clcO; rw [if_neg (by rw [HE2.out]; simp)])
      clear hov HO4
      go_wp2
      go_ret2
      exact ⟨_, by rw [HE2.out]; rfl, by rw [HX.out]; exact RdP.nil _, HB4.out⟩
    · rw [if_neg hov, show ((0 : Nat) : Int) = 0 from rfl]
      have HCN := Lib.hid (show Z.nz (Z.mg 0 (us'.map (·.2))) = canonC cs ps from by rw [HMG.out]; rfl)
      have HO5 := Lib.hid (show OwnP w4 w3.heap.size v4 (canonC cs ps) from by
        have := HO4.out
        unfold mgO at this
        rw [if_neg hov, HCN.out] at this
        exact this)
      have HE1 := Lib.hid (show clcE cs ps = if 1024 < (canonC cs ps).length then 13 else 0 from by rw [HE.out, if_neg (by rw [← HMG.out]; exact hov)])
      have hcl : (canonC cs ps).length ≤ ps.length := by rw [← HCN.out]; exact HLM.out
      obtain ⟨qs, hqs⟩ : ∃ qs, qs = canonC cs ps := ⟨_, rfl⟩
      rw [← hqs] at HO5 HE1 hcl
      have HQ := Lib.hid hqs
      have HRD := Lib.hid (HO5.out.rd (by omega))
      have hlen := HRD.out.len
      obtain ⟨n, hn⟩ : ∃ n, n = qs.length := ⟨_, rfl⟩
      rw [← hn] at hlen hcl HE1
      have HNN := Lib.hid hn
      clear hov HO4 HLM hqs hn
      by_cases hbig : 1024 < n
      · have HE2 := Lib.hid (show clcE cs ps = 13 from by rw [HE1.out, if_pos hbig])
        have HX := Lib.hid (show clcO cs ps = [] from by unfold clcO; rw [if_neg (by rw [HE2.out]; simp)])
        go_wp2
        go_ret2
        exact ⟨_, by rw [HE2.out]; rfl, by rw [HX.out]; exact RdP.nil _, HB4.out⟩
      · have HE2 := Lib.hid (show clcE cs ps = 0 from by rw [HE1.out, if_neg hbig])
        have HX := Lib.hid (show clcO cs ps = qs from by unfold clcO; rw [if_pos HE2.out, ← HQ.out])
        go_wp2
        go_loopw [36] (fun i wr => ∃ k : Nat, k ≤ n ∧ i = .int .i64 k ∧ Hid (OwnP wr w3.heap.size v4 qs) ∧ Hid (Below w.heap.size w wr)) (fun i _ => n - (intOf i).toNat)
        case atStart => exact ⟨0, by omega, rfl, HO5, HB4⟩
        case round =>
          clear HO5 HRD
          obtain ⟨k, hk, rfl, HO, HB⟩ := hrel
          by_cases hlt : k < n
          · have k1 : k < qs.length := by rw [← HNN.out]; exact hlt
            obtain ⟨b, o, rv, hi, c0, c1, re, hbl⟩ := (HO.out.rd (by rw [← HNN.out]; omega)).get k1
            obtain ⟨g, cap, hv4, hbg, hgl, hrow⟩ := HO.out.row (by omega) (by rw [← HNN.out]; omega)
            obtain ⟨hix, hst⟩ := hrow k k1
            have heq := (hi wr).symm.trans (hix wr)
            simp only [Result.ok.injEq, Value.pointer.injEq, Option.some.injEq, Addr.mk.injEq, and_true] at heq
            obtain ⟨rfl, rfl⟩ := heq
            obtain ⟨ao, nn, cap', rfl⟩ := re.lit
            have hr8 : (qs.getD k default).1.length ≤ 8 := by
              have hm : qs.getD k default ∈ qs := by simp [List.getD, k1]
              have := (Z.canon_set (to_row cs) HV.out).all (qs.getD k default) (by rw [show Z.canon (cmpR cs) ps = qs from HQ.out.symm]; exact hm)
              obtain ⟨g1, g2, _⟩ := errRow_len this.1
              have := ((errS_iffR (colsL cs)).1 g1).1.2
              unfold colsL at this; rw [List.length_map] at this; omega
            obtain ⟨p, hp⟩ : ∃ p, p = qs.getD k default := ⟨_, rfl⟩
            rw [← hp] at c1 re hst hr8
            rcases p with ⟨r, x⟩
            dsimp only at c1 re hst hr8
            have NN := Lib.hid (new1 wr (.cells #[.slice ao nn cap', .int .i64 x] 75))
            have HBN := Lib.hid (HB.out.trans (NN.out.2.2.mono HB.out.size))
            have CC := Lib.hid (cells_Clone _ r _ (re.later NN.out.2.2 (Nat.le_refl _)) (by omega))
            have HOa := Lib.hid (HO.out.later NN.out.2.2 (Nat.le_refl _))
            have HST := Lib.hid hst
            have hsa := NN.out.1
            have hsr := HB.out.size
            have hsn := HBN.out.size
            clear hp k1 hi hrow re hst HO hv4
            go_wp2_with fail
            refine CC.out.mono ?_
            rintro e w5 ⟨v5, rfl, ho5, hb5⟩
            obtain ⟨ao5, n5, cap5, rfl⟩ := (ho5.rd (by omega)).lit
            have HO5 := Lib.hid (HOa.out.later hb5 (Nat.le_refl _))
            have HB5 := Lib.hid (HBN.out.trans (hb5.mono (by omega)))
            obtain ⟨⟨x5, hc5⟩, hf5, hs5⟩ := HST.out w5 HO5.out
            have HO6 := Lib.hid (hs5 _ (ho5.rd (by omega)) (ho5.offB (by omega)))
            have HB6 := Lib.hid (HB5.out.setCell (p := ⟨b, k * 2, none⟩) (by show w.heap.size ≤ b; omega) (.slice ao5 n5 cap5))
            clear ho5 hb5 HST hs5 HOa CC HBN NN c0 c1 HO5 HB5
            go_wp2
            go_roundw
            case rel => exact ⟨k + 1, by omega, by go_num, HO6, HB6⟩
            case measure => simp [intOf]; omega
          · obtain rfl : k = n := by omega
            have HRF := Lib.hid (HO.out.rd (by rw [← HNN.out]; omega))
            go_wp2
            go_ret2
            exact ⟨_, by rw [HE2.out]; rfl, by rw [HX.out]; exact HRF.out, HB.out⟩
  · have HE := Lib.hid (show clcE cs ps = c from by
      by_cases h9 : errS (colsL cs) = 0
      · have h10 : firstE cs ps ≠ 0 := fun h => hcz (by rw [hc]; unfold rowsE; rw [if_neg (fun h8 => h8 h9), h])
        rw [hc]
        unfold clcE rowsE
        rw [if_neg (fun h8 => h8 h9), if_pos h10, if_neg (fun h8 => h8 h9)]
      · rw [hc]
        unfold clcE rowsE
        rw [if_pos h9, if_pos h9])
    have HX := Lib.hid (show clcO cs ps = [] from by unfold clcO; rw [if_neg (by rw [HE.out]; exact hcz)])
    have q : ((c : Int) != 0) = true := by rw [bne_iff_ne]; omega
    clear hc
    go_enter Tryz.func20, Tryz.ntmps20
    go_wp2_with fail
    refine CK.out.mono ?_
    rintro e w1 ⟨rfl, hb⟩
    have HB1 := Lib.hid (NB.out.trans (hb.mono (by omega)))
    clear hb CK
    go_wp2
    go_ret2
    exact ⟨_, by rw [HE.out]; rfl, by rw [HX.out]; exact RdP.nil _, HB1.out⟩

set_option maxHeartbeats 4000000 in
theorem zset_Sum (v1 v2 v3 : Value) (cs : List ColB) (a b : List PairB) (w : World) (h1 : RdC w v1 cs) (h2 : RdP w v2 a) (h3 : RdP w v3 b) (hC : CS cs) (hA : PSO a) (hB : PSO b) (hT : Tabs w) :
    Calls Tryz.prog 65 #[v1, v2, v3] w fun e w' => ∃ v, e = .returned (.tuple #[v, .int .i64 (sumE cs a b : Nat)]) ∧ RdP w' v (sumO cs a b) ∧ Below w.heap.size w w' := by
  have CA := Lib.hid (zset_Check v1 v2 cs a w h1 h2 hC hA hT)
  have CB := Lib.hid (fun wz (hz : Below w.heap.size w wz) => zset_Check v1 v3 cs b wz (h1.later hz (Nat.le_refl _)) (h3.later hz (Nat.le_refl _)) hC hB (hT.later hz))
  obtain ⟨c, hc⟩ : ∃ c, c = chkZ cs a := ⟨_, rfl⟩
  obtain ⟨d, hd⟩ : ∃ d, d = chkZ cs b := ⟨_, rfl⟩
  rw [← hc] at CA
  rw [← hd] at CB
  by_cases hcz : c = 0
  · by_cases hdz : d = 0
    · have h8a := ((chkZ_zero hA).1 (show chkZ cs a = 0 by omega)).2.1
      have h8b := ((chkZ_zero hB).1 (show chkZ cs b = 0 by omega)).2.1
      have HE := Lib.hid (show sumE cs a b = clcE cs (a ++ b) from by unfold sumE; rw [if_neg (by omega), if_neg (by omega)])
      have HX := Lib.hid (show sumO cs a b = clcO cs (a ++ b) from by unfold sumO clcO; rw [HE.out])
      subst hcz hdz
      obtain ⟨ua, hua, hug, hur, _⟩ := h2.parts
      obtain ⟨ub, hub, huh, hus, _⟩ := h3.parts
      obtain ⟨ao, nn, cap, hv2⟩ : ∃ ao n cap, v2 = .slice ao n cap := by
        obtain ⟨ao, cap, e, _⟩ := RdG.shape hug
        exact ⟨_, _, _, e⟩
      obtain ⟨ao', nn', cap', hv3⟩ : ∃ ao n cap, v3 = .slice ao n cap := by
        obtain ⟨ao, cap, e, _⟩ := RdG.shape huh
        exact ⟨_, _, _, e⟩
      subst hv2 hv3
      have hla : ua.length = a.length := by rw [hua]; simp
      have hlb : ub.length = b.length := by rw [hub]; simp
      have H1 := Lib.hid h1
      have HT := Lib.hid hT
      have HA := Lib.hid hug
      have HB := Lib.hid huh
      have HRA := Lib.hid hur
      have HRB := Lib.hid hus
      have HUA := Lib.hid hua
      have HUB := Lib.hid hub
      clear hc hd h1 h2 h3 hug huh hur hus hua hub hT
      go_enter Tryz.func65, Tryz.ntmps65
      go_wp2_with fail
      refine CA.out.mono ?_
      rintro e w1 ⟨rfl, hb⟩
      have HB1 := Lib.hid hb
      clear hb CA
      go_wp2_with fail
      refine (CB.out _ HB1.out).mono ?_
      rintro e w2 ⟨rfl, hb⟩
      have HB2 := Lib.hid (HB1.out.trans (hb.mono HB1.out.size))
      have NN := Lib.hid (new1 w2 (.cells #[.slice ao nn cap, .slice ao' nn' cap'] 27))
      have HB3 := Lib.hid (HB2.out.trans (NN.out.2.2.mono HB2.out.size))
      have CO := Lib.hid (pairs_Concat _ _ _ ua ub _ (rdS_two w2 (.slice ao nn cap) (.slice ao' nn' cap')) (RdG.later HA.out pairOk HB3.out (Nat.le_refl _)) (RdG.later HB.out pairOk HB3.out (Nat.le_refl _)) (fun t ht => (HRA.out t ht).later HB3.out (Nat.le_refl _)) (fun t ht => (HRB.out t ht).later HB3.out (Nat.le_refl _)) (by omega))
      have hs3 := HB3.out.size
      clear hb CB HB1 NN HB2
      go_wp2_with fail
      refine CO.out.mono ?_
      rintro e w4 ⟨v4, rfl, ho4, hb4⟩
      have HB4 := Lib.hid (HB3.out.trans (hb4.mono hs3))
      have HR4 := Lib.hid (show RdP w4 v4 (a ++ b) from ⟨ua ++ ub, by rw [List.map_append, ← HUA.out, ← HUB.out], ho4.rd (by simp; omega), fun t ht => by
        rcases List.mem_append.1 ht with ht | ht
        · exact (HRA.out t ht).later HB4.out (Nat.le_refl _)
        · exact (HRB.out t ht).later HB4.out (Nat.le_refl _)⟩)
      have CL := Lib.hid (zset_Collect v1 v4 cs (a ++ b) w4 (H1.out.later HB4.out (Nat.le_refl _)) HR4.out hC (hA.append hB) (HT.out.later HB4.out) (by rw [List.length_append]; omega))
      have hs4 := HB4.out.size
      clear ho4 hb4 CO HR4 HB3
      go_wp2_with fail
      refine CL.out.mono ?_
      rintro e w5 ⟨v5, rfl, hr5, hb5⟩
      have HB5 := Lib.hid (HB4.out.trans (hb5.mono hs4))
      have HR5 := Lib.hid hr5
      clear hr5 hb5 CL
      go_wp2
      go_ret2
      exact ⟨_, by rw [HE.out]; rfl, by rw [HX.out]; exact HR5.out, HB5.out⟩
    · have HE := Lib.hid (show sumE cs a b = d from by unfold sumE; rw [if_neg (by omega), if_pos (by omega), hd])
      have HX := Lib.hid (show sumO cs a b = [] from by unfold sumO; rw [if_neg (by rw [HE.out]; exact hdz)])
      have q : ((d : Int) != 0) = true := by rw [bne_iff_ne]; omega
      subst hcz
      clear hc hd h1 h2 h3
      go_enter Tryz.func65, Tryz.ntmps65
      go_wp2_with fail
      refine CA.out.mono ?_
      rintro e w1 ⟨rfl, hb⟩
      have HB1 := Lib.hid hb
      clear hb CA
      go_wp2_with fail
      refine (CB.out _ HB1.out).mono ?_
      rintro e w2 ⟨rfl, hb⟩
      have HB2 := Lib.hid (HB1.out.trans (hb.mono HB1.out.size))
      clear hb CB HB1
      go_wp2
      go_ret2
      exact ⟨_, by rw [HE.out]; rfl, by rw [HX.out]; exact RdP.nil _, HB2.out⟩
  · have HE := Lib.hid (show sumE cs a b = c from by unfold sumE; rw [if_pos (by omega), hc])
    have HX := Lib.hid (show sumO cs a b = [] from by unfold sumO; rw [if_neg (by rw [HE.out]; exact hcz)])
    have q : ((c : Int) != 0) = true := by rw [bne_iff_ne]; omega
    clear hc hd h1 h2 h3 CB
    go_enter Tryz.func65, Tryz.ntmps65
    go_wp2_with fail
    refine CA.out.mono ?_
    rintro e w1 ⟨rfl, hb⟩
    have HB1 := Lib.hid hb
    clear hb CA
    go_wp2
    go_ret2
    exact ⟨_, by rw [HE.out]; rfl, by rw [HX.out]; exact RdP.nil _, HB1.out⟩

end Go.Proofs.YtokpphhmmcoeaaaGreatDoor

