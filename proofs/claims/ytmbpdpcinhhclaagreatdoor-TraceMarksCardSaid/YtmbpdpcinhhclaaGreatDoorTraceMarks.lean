/- -/
import Derived.Test.YtmbpdpcinhhclaaGreatDoorKTrcS
import Derived.Test.YtmbpdpcinhhclaaGreatDoorKTrcP
import Derived.Test.YtmbpdpcinhhclaaGreatDoorTrcCut
import Derived.Test.YtmbpdpcinhhclaaGreatDoorKTrcL
import Derived.Deep.QuietTactic
import Derived.BigQuiet
set_option linter.unusedVariables false
set_option linter.unusedSimpArgs false
set_option maxRecDepth 1000000
namespace Go.Proofs.YtmbpdpcinhhclaaGreatDoor
open Go.RowKit Go.Shelf

theorem getD_at13 {α : Type} {l : List α} {k : Nat} {d : α} (h : k < l.length) : l.getD k d = l[k] := by simp [List.getD, h]
def mk13 (cs : List ColB) (es : List EntB) : List (Int × Nat) := (0, (hdB (colsL cs)).length) :: trM cs (hdB (colsL cs)).length 0 [] es
theorem mk13_len (cs : List ColB) (es : List EntB) : (mk13 cs es).length = es.length + 1 := by
  unfold mk13; rw [List.length_cons, trM_len]
theorem mk13_get {cs : List ColB} {es : List EntB} (h : (trW cs 0 0 [] es).2.2.2.2 = 0) {k : Nat} (hk : k ≤ es.length) :
    (mk13 cs es).getD k (0, 0) = ((trW cs 0 0 [] (es.take k)).2.1, (hdB (colsL cs)).length + (trW cs 0 0 [] (es.take k)).1.length) := by
  unfold mk13
  cases k with
  | zero => rw [List.getD_cons_zero, List.take_zero, trW]; simp
  | succ q => rw [List.getD_cons_succ, trM_get es _ 0 0 [] q h (by omega)]
theorem mk13_up {cs : List ColB} {es : List EntB} (hO : ∀ x ∈ es, EnO x) (h : (trW cs 0 0 [] es).2.2.2.2 = 0) {i j : Nat} (hij : i < j) (hj : j < es.length + 1) : ((mk13 cs es).getD i (0, 0)).2 < ((mk13 cs es).getD j (0, 0)).2 := by
  have hp := marks_after (hdB (colsL cs)).length hO h
  have hl := mk13_len cs es
  have := (List.pairwise_iff_getElem.1 hp) i j (by show i < (mk13 cs es).length; omega) (by show j < (mk13 cs es).length; omega) hij
  rw [getD_at13 (by omega), getD_at13 (by omega)]
  exact this
theorem mk13_last {cs : List ColB} {es : List EntB} (h : (trW cs 0 0 [] es).2.2.2.2 = 0) : ((mk13 cs es).getD es.length (0, 0)).2 = (hdB (colsL cs) ++ (trW cs 0 0 [] es).1).length := by
  rw [mk13_get h (Nat.le_refl _), List.take_length, List.length_append]
def At13 (M : List (Int × Nat)) (i k : Nat) : Prop := k ≤ M.length ∧ (∀ j, j < k → (M.getD j (0, 0)).2 < i) ∧ ∀ j, k ≤ j → j < M.length → i ≤ (M.getD j (0, 0)).2
theorem at13_step {cs : List ColB} {es : List EntB} (hS : errS (colsL cs) = 0) (hO : ∀ x ∈ es, EnO x) (h : (trW cs 0 0 [] es).2.2.2.2 = 0) {i k : Nat} (hi : i ≤ (hdB (colsL cs) ++ (trW cs 0 0 [] es).1).length) (ha : At13 (mk13 cs es) i k) :
    ((trD ((hdB (colsL cs) ++ (trW cs 0 0 [] es).1).take i)).2.2.2.2 ≠ 0 ∧ (k < es.length + 1 → ((mk13 cs es).getD k (0, 0)).2 ≠ i) ∧ At13 (mk13 cs es) (i + 1) k) ∨
    (k < es.length + 1 ∧ trD ((hdB (colsL cs) ++ (trW cs 0 0 [] es).1).take i) = (cs, es.take k, (mk13 cs es).take (k + 1), i, 0) ∧ ((mk13 cs es).getD k (0, 0)).2 = i ∧ At13 (mk13 cs es) (i + 1) (k + 1)) := by
  have hl := mk13_len cs es
  obtain ⟨a0, a1, a2⟩ := ha
  rcases trD_cut hS hO h hi with ⟨c1, c2⟩ | ⟨q, c1, c2, c3⟩
  · have hne : ∀ j, j < (mk13 cs es).length → ((mk13 cs es).getD j (0, 0)).2 ≠ i := fun j hj => c2 _ (by rw [getD_at13 hj]; exact List.getElem_mem _)
    exact .inl ⟨c1, fun hk => hne k (by omega), a0, fun j hj => Nat.lt_succ_of_lt (a1 j hj), fun j hj hj2 => by have := a2 j hj hj2; have := hne j hj2; omega⟩
  · replace c3 : ((mk13 cs es).getD q (0, 0)).2 = i := c3
    have hqk : q = k := by
      rcases Nat.lt_trichotomy q k with hlt | heq | hgt
      · have := a1 q hlt; omega
      · exact heq
      · have h1 := mk13_up hO h hgt (by omega)
        have h2 := a2 k (Nat.le_refl _) (by omega)
        omega
    subst hqk
    refine .inr ⟨by omega, c2, c3, by omega, fun j hj => ?_, fun j hj hj2 => ?_⟩
    · rcases Nat.lt_or_ge j q with h1 | h1
      · have := a1 j h1; omega
      · obtain rfl : j = q := by omega
        omega
    · have := mk13_up hO h (show q < j by omega) (by omega)
      omega

set_option maxHeartbeats 16000000 in
theorem traceMarks_K (v : Value) (cs : List ColB) (es : List EntB) (w : World) (hT : RdT13 w v cs es) (hC : CS cs) (hO : ∀ x ∈ es, EnO x) (K : TrcK w) :
    Calls Tryz.prog 7 #[v] w fun e w' => e = .returned (.bool true) ∧ Below w.heap.size w w' := by
  obtain ⟨sv, ev, rfl, hR, hZ⟩ := hT
  obtain ⟨ae, ne, ce, rfl⟩ := hZ.lit
  obtain ⟨ac, nc, cc, rfl⟩ := hR.lit12
  have HT := Lib.hid (fun wz (hz : Below w.heap.size w wz) => show RdT13 wz (.agg #[.slice ac nc cc, .slice ae ne ce]) cs es from ⟨_, _, rfl, hR.later hz (Nat.le_refl _), hZ.later hz (Nat.le_refl _)⟩)
  have hle := hZ.len
  have hles := hZ.small
  obtain ⟨N1, N2⟩ := new_one12 w (.cells #[.slice ac nc cc, .slice ae ne ce] 25)
  have HX := Lib.hid (show Tbox (w.alloc (.cells #[.slice ac nc cc, .slice ae ne ce] 25)) w.heap.size (.slice ac nc cc) (.slice ae ne ce) from N1)
  have HB := Lib.hid N2
  have HC := Lib.hid hC
  have HO := Lib.hid hO
  clear hR hZ N1 N2 hC hO
  go_enter Tryz.func7, Tryz.ntmps7
  go_wp2_with fail
  generalize w.alloc (.cells #[.slice ac nc cc, .slice ae ne ce] 25) = w0 at *
  obtain ⟨g, hg⟩ : ∃ g, g = w.heap.size := ⟨_, rfl⟩
  rw [← hg] at HX
  rw [← hg]
  have HG := Lib.hid hg
  clear hg
  refine (K.alive w0 HB.out).mono ?_
  rintro e w1 ⟨rfl, hb⟩
  replace HX := Lib.hid (HX.out.later hb)
  replace HB := Lib.hid (HB.out.trans (hb.mono HB.out.size))
  clear hb
  obtain ⟨c0, c1⟩ := HX.out.cells
  go_wp2_with fail
  refine (law13_great _ cs es w1 (HT.out w1 HB.out)).mono ?_
  rintro e w2 ⟨x, rfl, hx, hf, hb⟩
  replace HX := Lib.hid (HX.out.later hb)
  replace HB := Lib.hid (HB.out.trans (hb.mono HB.out.size))
  clear hb c0 c1
  obtain ⟨c0, c1⟩ := HX.out.cells
  obtain ⟨n, hn⟩ : ∃ n, n = es.length := ⟨_, rfl⟩
  rw [← hn] at hle hles
  have HN := Lib.hid hn
  clear hn
  by_cases hsk : x = 0 ∧ n ≤ 8
  · obtain ⟨rfl, hn8⟩ := hsk
    have d8 : decide ((n : Int) > 8) = false := decide_eq_false (by omega)
    have d8' : decide ((8 : Int) < (n : Int)) = false := decide_eq_false (by omega)
    have hfew := hf rfl
    have hsm := trE_small (cs := cs) (es := es) (by rw [← HN.out]; omega)
    have EA := Lib.hid (fun wz hz => K.encode wz _ cs es hz (HT.out wz hz) HC.out HO.out)
    have DK := Lib.hid (fun wz v l hz h => K.decode wz v l hz h)
    have MK := Lib.hid (fun wz v l hz h => K.marks wz v l hz h)
    have VK := Lib.hid (fun k wz v hz h => K.view wz v cs (es.take k) hz h HC.out (fun x hx => HO.out x (List.mem_of_mem_take hx)))
    have hpt := trE_parts (cs := cs) (es := es)
    have htk := trE_take (cs := cs) HO.out
    obtain ⟨R, hRR⟩ : ∃ R, R = trE cs es := ⟨_, rfl⟩
    rw [← hRR] at EA hsm hpt htk
    obtain ⟨r, s, vw, i, y⟩ := R
    dsimp only at hsm hpt htk
    have HSM := Lib.hid hsm
    have HPT := Lib.hid hpt
    have HTK := Lib.hid htk
    clear hf hfew hRR hsm hpt htk K hx
    go_wp2_with fail
    refine (EA.out w2 HB.out).mono ?_
    rintro e w3 ⟨bv, rfl, ho, hb⟩
    replace HX := Lib.hid (HX.out.later hb)
    replace HB := Lib.hid (HB.out.trans (hb.mono HB.out.size))
    have HA := Lib.hid (show Rd w3 bv r from ho.rd (by have := HSM.out; dsimp only; omega))
    clear hb ho c0 c1 EA
    dsimp only
    obtain ⟨c0, c1⟩ := HX.out.cells
    obtain ⟨bo, bcap, hbv, _⟩ := id HA.out.shape
    subst hbv
    have hlr := HA.out.len
    by_cases hsk : y = 0 ∧ r.length ≤ 1200
    · obtain ⟨rfl, hl12⟩ := hsk
      obtain ⟨p1, p2, p3⟩ := HPT.out (by simp)
      have hr : r = hdB (colsL cs) ++ (trW cs 0 0 [] es).1 := congrArg (fun x => x.1) p3
      have hD := trD_back p1 HO.out p2
      rw [← hr] at hD
      have hlast := mk13_last p2
      rw [← hr] at hlast
      have HST := Lib.hid (fun (i k : Nat) (hi : i ≤ r.length) ha => by have := at13_step (i := i) (k := k) p1 HO.out p2 (by rw [← hr]; exact hi) ha; rw [← hr] at this; exact this)
      have HGT := Lib.hid (fun (k : Nat) (hk : k ≤ es.length) => mk13_get p2 hk)
      have MA := Lib.hid (MK.out w3 (.slice bo r.length bcap) r HB.out HA.out)
      unfold MkO13 at MA
      rw [hD] at MA
      dsimp only at MA
      obtain ⟨M, hM⟩ : ∃ M, M = mk13 cs es := ⟨_, rfl⟩
      have hM' : M = (0, (hdB (colsL cs)).length) :: trM cs (hdB (colsL cs)).length 0 [] es := hM
      rw [← hM'] at MA
      rw [← hM] at hlast HST HGT
      have hml : M.length = n + 1 := by rw [hM, mk13_len, HN.out]
      obtain ⟨L, hL⟩ : ∃ L, L = r.length := ⟨_, rfl⟩
      rw [← hL] at hlr hl12 MA hlast HST
      have HLL := Lib.hid hL
      replace HA := Lib.hid (show Rd w3 (.slice bo L bcap) r from by rw [hL]; exact HA.out)
      rw [← HN.out] at hlast
      have HLA := Lib.hid hlast
      have HML := Lib.hid hml
      have HPP := Lib.hid (And.intro p1 p2)
      clear p1 p2 p3 hr hD hlast hM hM' hml MK
      rw [← hL]
      clear hL
      go_wp2_with fail
      refine MA.out.mono ?_
      rintro e w4 ⟨lv, rfl, hL, hb⟩
      replace HX := Lib.hid (HX.out.later hb)
      replace HB := Lib.hid (HB.out.trans (hb.mono HB.out.size))
      replace HA := Lib.hid (HA.out.later hb (Nat.le_refl _))
      obtain ⟨cu, hcu⟩ : ∃ cu, cu = curs13 cs M := ⟨_, rfl⟩
      rw [← hcu] at hL
      have hcl : cu.length = n + 1 := by rw [hcu]; unfold curs13; rw [List.length_map]; exact HML.out
      have hcg : ∀ k, k < n + 1 → cu.getD k default = ((M.getD k (0, 0)).1, (((M.getD k (0, 0)).2 : Nat) : Int), ((Crc.sum (wrS (colsL cs)) : Nat) : Int)) := fun k hk => by
        have : k < M.length := by rw [HML.out]; exact hk
        rw [hcu]; unfold curs13; simp [List.getD, this]
      have hll := cur_len hL
      rw [hcl] at hll
      obtain ⟨bl, ol, hil, l0, l1, l2⟩ := cur_at hL (i := n) (by omega)
      rw [hcg n (by omega), HLA.out] at l1
      have HLV := Lib.hid hL
      have HCL := Lib.hid hcl
      have HCG := Lib.hid hcg
      clear hb c0 c1 hL hcl hcg hcu MA l0 l2
      obtain ⟨c0, c1⟩ := HX.out.cells
      have d12 : decide ((1200 : Int) < (L : Int)) = false := decide_eq_false (by omega)
      have hw1 : ((n + 1 : Nat) : Int) - 1 = (n : Int) := by push_cast; omega
      go_wp2
      go_loopw [9, 82] (fun kk ii wr => ∃ k j : Nat, kk = .int .i64 k ∧ ii = .int .i64 j ∧ j ≤ L + 1 ∧ k ≤ n + 1 ∧ Hid (At13 M j k) ∧ Hid (Rd wr (.slice bo L bcap) r) ∧ Hid (RdG cursorE wr lv (cu.map cuV)) ∧ Hid (Below w.heap.size w wr)) (fun _ ii _ => L + 1 - (intOf ii).toNat)
      case atStart => exact ⟨0, 0, rfl, rfl, by omega, by omega, Lib.hid ⟨by omega, fun j hj => absurd hj (by omega), fun j _ _ => Nat.zero_le _⟩, HA, HLV, HB⟩
      case round =>
        clear HX HB HA HLV c0 c1 hil l1
        obtain ⟨k, j, rfl, rfl, hjL, hkn, HAT, HA, HLV, HB⟩ := hrel
        by_cases hlt : j < L + 1
        · obtain ⟨uv, hul, huv⟩ := HA.out.upto j (by have := HLL.out; omega)
          have DC := DK.out wr uv (r.take j) HB.out (huv wr HA.out)
          unfold DcO13 at DC
          rcases HST.out j k (by omega) HAT.out with ⟨k1, k2, k3⟩ | ⟨k1, k2, k3, k4⟩
          · have HA3 := Lib.hid k3
            have HK2 := Lib.hid k2
            generalize trD (r.take j) = D at DC k1
            obtain ⟨ds, fs, ms, p, y⟩ := D
            dsimp only at DC k1
            have HDC := Lib.hid DC
            have q3 : ((y : Int) == 0) = false := by rw [beq_eq_false_iff_ne]; omega
            clear DC k1 k2 k3 huv
            go_wp2_with fail
            refine HDC.out.mono ?_
            rintro e w5 ⟨tv, rfl, hT, _, hb⟩
            obtain ⟨sv5, ev5, rfl, hR5, hZ5⟩ := hT
            obtain ⟨ae5, ne5, ce5, rfl⟩ := hZ5.lit
            obtain ⟨ac5, nc5, cc5, rfl⟩ := hR5.lit12
            have M2 : Below w5.heap.size w5 (w5.alloc (.cells #[.slice ac5 nc5 cc5, .slice ae5 ne5 ce5] 25)) := (Below.refl _ _).alloc (Nat.le_refl _) _
            have HB6 := Lib.hid ((HB.out.trans (hb.mono HB.out.size)).trans (M2.mono (HB.out.trans (hb.mono HB.out.size)).size))
            have HA6 := Lib.hid ((HA.out.later hb (Nat.le_refl _)).later M2 (Nat.le_refl _))
            have hL6 := (HLV.out.later cursorOk hb (Nat.le_refl _)).later cursorOk M2 (Nat.le_refl _)
            have HL6 := Lib.hid hL6
            clear hb M2 hR5 hZ5 HDC
            by_cases hk1 : k < n + 1
            · obtain ⟨b9, o9, hi9, l0, l1, l2⟩ := cur_at hL6 (i := k) (by rw [HCL.out]; exact hk1)
              rw [HCG.out k hk1] at l1
              have hne := HK2.out (by rw [← HN.out]; exact hk1)
              obtain ⟨P, hP⟩ : ∃ P, P = (M.getD k (0, 0)).2 := ⟨_, rfl⟩
              rw [← hP] at l1 hne
              have q4 : ((P : Int) == (j : Int)) = false := by rw [beq_eq_false_iff_ne]; omega
              clear hP hne hL6 l0 l2
              go_wp2
              go_roundw
              case rel => exact ⟨k, j + 1, rfl, by go_num, by omega, by omega, HA3, HA6, HL6, HB6⟩
              case measure => simp [intOf]; omega
            · clear hL6
              go_wp2
              go_roundw
              case rel => exact ⟨k, j + 1, rfl, by go_num, by omega, by omega, HA3, HA6, HL6, HB6⟩
              case measure => simp [intOf]; omega
          · rw [k2] at DC
            dsimp only at DC
            have HDC := Lib.hid DC
            have HA3 := Lib.hid k4
            have hkn1 : k < n + 1 := by rw [HN.out]; exact k1
            have HK3 := Lib.hid k3
            obtain ⟨t1, t2, t3⟩ := HTK.out (by simp) (show k ≤ es.length by omega)
            have ht4 : (trE cs (es.take k)).2.1 = (M.getD k (0, 0)).1 := by
              obtain ⟨_, _, e9⟩ := trE_parts t1
              rw [HGT.out k (by omega), e9]
            have HTE := Lib.hid (And.intro t1 ht4)
            have htl : (es.take k).length = k := by rw [List.length_take]; omega
            have HTL := Lib.hid htl
            clear DC k1 k2 k3 k4 huv t1 t2 t3 ht4 htl
            go_wp2_with fail
            refine HDC.out.mono ?_
            rintro e w5 ⟨tv, rfl, hT, _, hb⟩
            obtain ⟨sv5, ev5, rfl, hR5, hZ5⟩ := hT
            obtain ⟨ae5, ne5, ce5, rfl⟩ := hZ5.lit
            obtain ⟨ac5, nc5, cc5, rfl⟩ := hR5.lit12
            have hz5 := hZ5.len
            rw [HTL.out] at hz5
            obtain ⟨M1, M2⟩ := new_one12 w5 (.cells #[.slice ac5 nc5 cc5, .slice ae5 ne5 ce5] 25)
            have HT6 := Lib.hid (show RdT13 (w5.alloc (.cells #[.slice ac5 nc5 cc5, .slice ae5 ne5 ce5] 25)) (.agg #[.slice ac5 nc5 cc5, .slice ae5 ne5 ce5]) cs (es.take k) from ⟨_, _, rfl, hR5.later M2 (Nat.le_refl _), hZ5.later M2 (Nat.le_refl _)⟩)
            have HX6 := Lib.hid (show Tbox _ w5.heap.size (.slice ac5 nc5 cc5) (.slice ae5 ne5 ce5) from M1)
            have HB6 := Lib.hid ((HB.out.trans (hb.mono HB.out.size)).trans (M2.mono (HB.out.trans (hb.mono HB.out.size)).size))
            have HA6 := Lib.hid ((HA.out.later hb (Nat.le_refl _)).later M2 (Nat.le_refl _))
            have hL6 := (HLV.out.later cursorOk hb (Nat.le_refl _)).later cursorOk M2 (Nat.le_refl _)
            have HL6 := Lib.hid hL6
            obtain ⟨b9, o9, hi9, l0, l1, l2⟩ := cur_at hL6 (i := k) (by rw [HCL.out]; exact hkn1)
            rw [HCG.out k hkn1] at l0 l1
            dsimp only at l0 l1
            rw [HK3.out] at l1
            have VV := VK.out k _ _ HB6.out HT6.out
            unfold VwO13 at VV
            obtain ⟨S, hS⟩ : ∃ S, S = (M.getD k (0, 0)).1 := ⟨_, rfl⟩
            rw [HTE.out.1, HTE.out.2, ← hS] at VV
            rw [← hS] at l0
            have HVV := Lib.hid VV
            have HL0 := Lib.hid l0
            obtain ⟨x0, x1⟩ := HX6.out.cells
            clear hb M1 M2 hR5 hZ5 HDC hL6 l2 VV hS
            go_wp2_with fail
            refine HVV.out.mono ?_
            rintro e w7 ⟨va, rfl, hv, hb⟩
            have HB7 := Lib.hid (HB6.out.trans (hb.mono HB6.out.size))
            have HA7 := Lib.hid (HA6.out.later hb (Nat.le_refl _))
            have HL7 := Lib.hid (HL6.out.later cursorOk hb (Nat.le_refl _))
            have m0 := keep_cell hb HL0.out
            obtain ⟨z0, z1⟩ := (HX6.out.later hb).cells
            clear hb hv HVV x0 x1 l0 l1
            go_wp2
            go_roundw
            case rel => exact ⟨k + 1, j + 1, by go_num, by go_num, by omega, by omega, HA3, HA7, HL7, HB7⟩
            case measure => simp [intOf]; omega
        · obtain rfl : j = L + 1 := by omega
          have hkk : k = n + 1 := by
            apply Decidable.of_not_not
            intro h9
            have h1 := HAT.out.2.2 n (by omega) (by rw [HML.out]; omega)
            rw [HLA.out] at h1
            omega
          subst hkk
          clear hlt
          go_wp2
          go_ret
          exact ⟨rfl, HB.out⟩
    · by_cases hy : y = 0
      · have d12 : decide ((1200 : Int) < (r.length : Int)) = true := decide_eq_true (by omega)
        subst hy
        clear hsk
        go_wp2
        go_ret
        exact ⟨rfl, HB.out⟩
      · have q9 : ((y : Int) != 0) = true := by rw [bne_iff_ne]; omega
        clear hsk hy
        go_wp2
        go_ret
        exact ⟨rfl, HB.out⟩
  · clear hf
    have AL := Lib.hid (fun wz hz => K.alive wz hz)
    rcases hx with rfl | rfl
    · have hn8 : 8 < n := by omega
      have d8' : decide ((8 : Int) < (n : Int)) = true := decide_eq_true (by omega)
      clear hsk
      go_wp2_with fail
      refine (AL.out w2 HB.out).mono ?_
      rintro e w3 ⟨rfl, hb⟩
      replace HB := Lib.hid (HB.out.trans (hb.mono HB.out.size))
      clear hb
      go_wp2
      go_ret
      exact ⟨rfl, HB.out⟩
    · clear hsk
      go_wp2_with fail
      refine (AL.out w2 HB.out).mono ?_
      rintro e w3 ⟨rfl, hb⟩
      replace HB := Lib.hid (HB.out.trans (hb.mono HB.out.size))
      clear hb
      go_wp2
      go_ret
      exact ⟨rfl, HB.out⟩

end Go.Proofs.YtmbpdpcinhhclaaGreatDoor
