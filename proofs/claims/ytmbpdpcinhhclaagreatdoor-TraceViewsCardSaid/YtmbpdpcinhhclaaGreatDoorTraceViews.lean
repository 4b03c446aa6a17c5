/- -/
import Derived.Test.YtmbpdpcinhhclaaGreatDoorKTrcS
import Derived.Test.YtmbpdpcinhhclaaGreatDoorKTrcP
import Derived.Test.YtmbpdpcinhhclaaGreatDoorTrcViews
import Derived.Test.YtmbpdpcinhhclaaGreatDoorKTrcL
import Derived.Test.YtmbpdpcinhhclaaGreatDoorKEntN
import Derived.Test.YtmbpdpcinhhclaaGreatDoorKZSameW
import Derived.Deep.QuietTactic
import Derived.BigQuiet
set_option linter.unusedVariables false
set_option linter.unusedSimpArgs false
set_option maxRecDepth 1000000
namespace Go.Proofs.YtmbpdpcinhhclaaGreatDoor
open Go.RowKit Go.Shelf

theorem deltas_snoc {es : List EntB} {k : Nat} (h : k < es.length) : deltas (es.take (k + 1)) = deltas (es.take k) ++ (if (es.getD k default).1 = 0 then (es.getD k default).2.2 else []) := by
  rw [take_succD h default]
  unfold deltas
  rw [List.filter_append, List.flatMap_append]
  congr 1
  by_cases h0 : (es.getD k default).1 = 0
  · rw [if_pos h0, List.filter_cons, if_pos (by simpa using h0)]; simp
  · rw [if_neg h0, List.filter_cons, if_neg (by simpa using h0)]; simp
theorem deltaN_snoc {es : List EntB} {k : Nat} (h : k < es.length) : deltaN (es.take (k + 1)) = deltaN (es.take k) + (if (es.getD k default).1 = 0 then 1 else 0) := by
  rw [take_succD h default]
  unfold deltaN
  rw [List.filter_append, List.length_append]
  congr 1
  by_cases h0 : (es.getD k default).1 = 0
  · rw [if_pos h0, List.filter_cons, if_pos (by simpa using h0)]; simp
  · rw [if_neg h0, List.filter_cons, if_neg (by simpa using h0)]; simp
theorem deltaN_le (es : List EntB) : deltaN es ≤ es.length := List.length_filter_le _ _
theorem deltas_pso {es : List EntB} (hO : ∀ x ∈ es, EnO x) : PSO (deltas es) := fun p hp => by
  unfold deltas at hp
  obtain ⟨x, hx, hp⟩ := List.mem_flatMap.1 hp
  exact (hO x (List.mem_filter.1 hx).1).2.2 p hp
theorem clc_none {cs : List ColB} (h : errS (colsL cs) = 0) : clcE cs [] = 0 ∧ clcO cs [] = [] := by
  have h1 : clcE cs [] = 0 := by
    unfold clcE
    rw [if_neg (fun h9 => h9 h)]
    rfl
  refine ⟨h1, ?_⟩
  unfold clcO
  rw [if_pos h1]
  rfl
theorem fold_done {cs : List ColB} {view all : List PairB} (hS : errS (colsL cs) = 0) (h : Fold cs view all) : clcE cs all = 0 ∧ clcO cs all = view := by
  rcases h.end with ⟨h1, h2⟩ | h
  · obtain rfl := List.eq_nil_of_length_eq_zero h1
    obtain rfl := List.eq_nil_of_length_eq_zero h2
    exact clc_none hS
  · exact h

set_option maxHeartbeats 16000000 in
theorem traceViews_K (v : Value) (cs : List ColB) (es : List EntB) (w : World) (hT : RdT13 w v cs es) (hC : CS cs) (hO : ∀ x ∈ es, EnO x) (K : TrcK w) (hTb : Tabs w) :
    Calls Tryz.prog 9 #[v] w fun e w' => e = .returned (.bool true) ∧ Below w.heap.size w w' := by
  obtain ⟨sv, ev, rfl, hR, hZ⟩ := hT
  obtain ⟨ae, ne, ce, rfl⟩ := hZ.lit
  obtain ⟨ac, nc, cc, rfl⟩ := hR.lit12
  have HT := Lib.hid (fun wz (hz : Below w.heap.size w wz) => show RdT13 wz (.agg #[.slice ac nc cc, .slice ae ne ce]) cs es from ⟨_, _, rfl, hR.later hz (Nat.le_refl _), hZ.later hz (Nat.le_refl _)⟩)
  have HZ := Lib.hid hZ
  have hle := hZ.len
  have hles := hZ.small
  have HRC := Lib.hid (fun wz (hz : Below w.heap.size w wz) => hR.later hz (Nat.le_refl _))
  obtain ⟨N1, N2⟩ := new_one12 w (.cells #[.slice ac nc cc, .slice ae ne ce] 25)
  have HX := Lib.hid (show Tbox (w.alloc (.cells #[.slice ac nc cc, .slice ae ne ce] 25)) w.heap.size (.slice ac nc cc) (.slice ae ne ce) from N1)
  have HB := Lib.hid N2
  have HC := Lib.hid hC
  have HO := Lib.hid hO
  have HTB := Lib.hid hTb
  clear hR hZ N1 N2 hC hO hTb
  go_enter Tryz.func9, Tryz.ntmps9
  go_wp2_with fail
  generalize w.alloc (.cells #[.slice ac nc cc, .slice ae ne ce] 25) = w0 at *
  obtain ⟨g, hg⟩ : ∃ g, g = w.heap.size := ⟨_, rfl⟩
  rw [← hg] at HX
  rw [← hg]
  have HG := Lib.hid hg
  clear hg
  refine (K.alive w0 HB.out).mono ?_
  rintro e w1 ⟨rfl, hb⟩
  replace HX := Lib.hid (HX.out.later hb)
  replace HB := Lib.hid (HB.out.trans (hb.mono HB.out.size))
  clear hb
  obtain ⟨c0, c1⟩ := HX.out.cells
  go_wp2_with fail
  refine (law13_great _ cs es w1 (HT.out w1 HB.out)).mono ?_
  rintro e w2 ⟨x, rfl, hx, hf, hb⟩
  replace HX := Lib.hid (HX.out.later hb)
  replace HB := Lib.hid (HB.out.trans (hb.mono HB.out.size))
  clear hb c0 c1
  obtain ⟨c0, c1⟩ := HX.out.cells
  rcases hx with rfl | rfl
  · have hfew := hf rfl
    have VA := Lib.hid (fun wz hz => K.view wz _ cs es hz (HT.out wz hz) HC.out HO.out)
    have VB := Lib.hid (fun wz v fs hz h ho => K.view wz v cs fs hz h HC.out ho)
    have her := trE_err (cs := cs) (es := es)
    have hpt := trE_parts (cs := cs) (es := es)
    have HFW := Lib.hid hfew
    obtain ⟨R, hRR⟩ : ∃ R, R = trE cs es := ⟨_, rfl⟩
    rw [← hRR] at VA her hpt
    have HRR := Lib.hid hRR
    obtain ⟨r, s, vw, i, y⟩ := R
    dsimp only at her hpt
    have HER := Lib.hid her
    have HPT := Lib.hid hpt
    clear hf hfew hRR her hpt K
    go_wp2_with fail
    refine (VA.out w2 HB.out).mono ?_
    rintro e w3 ⟨va, rfl, hv, hb⟩
    replace HX := Lib.hid (HX.out.later hb)
    replace HB := Lib.hid (HB.out.trans (hb.mono HB.out.size))
    replace hv : RdP w3 va vw := hv
    obtain ⟨av, nv, cv, rfl⟩ := hv.lit12
    have HV := Lib.hid hv
    clear hb c0 c1 VA
    dsimp only
    obtain ⟨c0, c1⟩ := HX.out.cells
    by_cases hy : y = 0
    · subst hy
      obtain ⟨n, hn⟩ : ∃ n, n = es.length := ⟨_, rfl⟩
      rw [← hn] at hle hles
      have HN := Lib.hid hn
      have hn30 : n ≤ 30 := by rw [hn]; exact HFW.out.1
      have HS200 := Lib.hid (show ∀ k, (deltas (es.take k)).length ≤ 200 from fun k => by
        have h1 := deltas_len (es.take k)
        have h2 := sum13_take_le es k
        have h3 := HFW.out.2.2.1
        unfold sum13 at h2 h3
        omega)
      clear hn hv
      go_wp2
      go_loopw [6, 7, 42] (fun al m i wr => ∃ k : Nat, k ≤ n ∧ i = .int .i64 k ∧ m = .int .i64 ((deltaN (es.take k) : Nat) : Int) ∧ Hid (OwnP wr w3.heap.size al (deltas (es.take k))) ∧ Hid (Tbox wr g (.slice ac nc cc) (.slice ae ne ce)) ∧ Hid (Below w3.heap.size w3 wr)) (fun _ _ i _ => n - (intOf i).toNat)
      case atStart => exact ⟨0, by omega, rfl, rfl, Lib.hid (OwnP.nil _ _), HX, Lib.hid (Below.refl _ _)⟩
      case round =>
        clear HX c0 c1
        obtain ⟨k, hk, rfl, rfl, HA, HXr, HBr⟩ := hrel
        obtain ⟨c0, c1⟩ := HXr.out.cells
        by_cases hlt : k < n
        · have hkn : k < es.length := by rw [← HN.out]; exact hlt
          obtain ⟨b9, o9, pv, hidx, e0, e1, e2, hpv, hbl⟩ := HZ.out.get hkn
          have hBW := HB.out.trans (HBr.out.mono HB.out.size)
          replace e0 := keep_cell hBW e0
          replace e1 := keep_cell hBW e1
          replace e2 := keep_cell hBW e2
          have hds := deltas_snoc hkn
          have hdn := deltaN_snoc hkn
          have hdl := HS200.out (k + 1)
          obtain ⟨⟨kd, s2, ps⟩, hx⟩ : ∃ x, x = es.getD k default := ⟨_, rfl⟩
          rw [← hx] at e0 e1 hpv hds hdn
          dsimp only at e0 e1 hpv hds hdn
          obtain ⟨ap, np, cp, rfl⟩ := hpv.lit12
          by_cases hkd : kd = 0
          · subst hkd
            rw [if_pos rfl] at hds hdn
            rw [hds, List.length_append] at hdl
            have hq : ((deltaN (es.take k) : Nat) : Int) + 1 = ((deltaN (es.take (k + 1)) : Nat) : Int) := by rw [hdn]; push_cast; rfl
            have hmm : deltaN (es.take k) ≤ 30 := by have := deltaN_le (es.take k); rw [List.length_take] at this; omega
            obtain ⟨us, hu1, hu2, hu3⟩ := hpv.app
            obtain ⟨w7, hw7⟩ : ∃ w7, w7 = wr.alloc (.cells #[.int .i64 0, .int .i64 s2, .slice ap np cp] 71) := ⟨_, rfl⟩
            have hbb := (Below.refl wr.heap.size wr).alloc (Nat.le_refl _) (.cells #[.int .i64 0, .int .i64 s2, .slice ap np cp] 71)
            have hg7 := heap_alloc_new wr (.cells #[.int .i64 0, .int .i64 s2, .slice ap np cp] 71)
            have ha7 := HA.out.alloc (.cells #[.int .i64 0, .int .i64 s2, .slice ap np cp] 71)
            rw [← hw7] at hbb hg7 ha7
            have hb7 := HBr.out.trans (hbb.mono HBr.out.size)
            have hx7 := HXr.out.later hbb
            obtain ⟨hu4, hu5⟩ := hu3 w7 (hBW.trans (hbb.mono hBW.size))
            have hu6 := hu5 u6 (fun g hg => by have := (HA.out.lt hg).1; have := HB.out.size; omega)
            have q2 := cell_of_row _ _ 2 _ _ _ hg7
            simp at q2
            have HX7 := Lib.hid hx7
            have HDS := Lib.hid hds
            have HDN := Lib.hid hq
            have HDL := Lib.hid hdl
            clear hx hds hdn hdl hu3 hu5 hg7 hbb hpv hx7 HBr HXr hkn hBW hq
            subst hw7
            go_wp2_with (with_reducible refine wplP_appendAll w3.heap.size u6 ?hs ha7 (.slice ap np cp) ?hx us hu4 hu6 ?hn ?hbase w3.heap.size w3 hb7 (Nat.le_refl _) ?_)
            case hs => rfl
            case hx => rfl
            case hn => have := HDL.out; rw [hu2]; omega
            case hbase => exact hb7.size
            intro v8 w8 ho8 hb8 hg8 _
            have HA8 := Lib.hid (show OwnP w8 w3.heap.size v8 (deltas (es.take (k + 1))) from by rw [HDS.out, ← hu1]; exact ho8)
            have HB8 := Lib.hid hb8
            have HX8 := Lib.hid (show Tbox w8 g (.slice ac nc cc) (.slice ae ne ce) from by
              obtain ⟨ts, _, hG, _⟩ := ha7
              exact HX7.out.grown hG (by decide) hg8)
            clear ho8 hb8 hg8 ha7 hb7 hu4 hu6 hu1 hu2 HX7 q2 e0 e1 e2
            go_wp2
            go_roundw
            case rel => exact ⟨k + 1, by omega, by go_num, by rw [HDN.out], HA8, HX8, HB8⟩
            case measure => simp [intOf]; omega
          · have q9 : (kd == 0) = false := by rw [beq_eq_false_iff_ne]; exact hkd
            rw [if_neg hkd] at hds hdn
            rw [List.append_nil] at hds
            simp only [Nat.add_zero] at hdn
            have hbb := (Below.refl wr.heap.size wr).alloc (Nat.le_refl _) (.cells #[.int .i64 kd, .int .i64 s2, .slice ap np cp] 71)
            have HA8 := Lib.hid (show OwnP (wr.alloc (.cells #[.int .i64 kd, .int .i64 s2, .slice ap np cp] 71)) w3.heap.size u6 (deltas (es.take (k + 1))) from by rw [hds]; exact HA.out.alloc _)
            have HX8 := Lib.hid (HXr.out.later hbb)
            have HB8 := Lib.hid (HBr.out.trans (hbb.mono HBr.out.size))
            have HDN := Lib.hid hdn
            clear hds hdn hdl hbb hpv hx hkn hkd hBW HA HXr HBr
            go_wp2
            go_roundw
            case rel => exact ⟨k + 1, by omega, by go_num, by rw [HDN.out], HA8, HX8, HB8⟩
            case measure => simp [intOf]; omega
        · obtain rfl : k = n := by omega
          have hA := HA.out
          have hte : es.take k = es := List.take_of_length_le (by rw [HN.out]; exact Nat.le_refl _)
          have hd2 := HS200.out k
          rw [hte] at hA hd2
          rw [hte]
          obtain ⟨p1, p2, p3⟩ := HPT.out (by simp)
          have hRe := HRR.out
          obtain ⟨f1, f2, f3⟩ := trW_view es 0 0 [] [] HO.out p2 Fold.nil
          rw [List.nil_append] at f1
          obtain ⟨k1, k2, k3⟩ := trW_snap p1 HO.out p2 (by rw [← HN.out]; omega) (by omega)
          have kn := trW_known (cs := cs) (es := es) (k := es.length) HO.out (Nat.le_refl _) (by rw [List.take_length]; exact p2) (by rw [← HN.out]; omega)
          rw [List.take_length] at kn
          have hs9 : s = ((deltaN es : Nat) : Int) := by
            have := congrArg (fun x => x.2.1) p3
            dsimp only at this
            rw [this, f2]; simp
          have hv9 : vw = (trW cs 0 0 [] es).2.2.1 := congrArg (fun x => x.2.2.1) p3
          have hs8 : s = (trW cs 0 0 [] es).2.1 := congrArg (fun x => x.2.1) p3
          rw [← hv9] at f1 k1 k2 k3 kn
          rw [← hs8] at k1 k2 k3 kn
          obtain ⟨l1, l2⟩ := fold_done p1 f1
          have hEn : ∀ x ∈ es ++ [((1, s, vw) : EntB)], EnO x := fun x hx => by
            rcases List.mem_append.1 hx with hx | hx
            · exact HO.out x hx
            · rw [List.mem_singleton.1 hx]; exact ⟨⟨by show (-9223372036854775808 : Int) ≤ 1; decide, by show (1 : Int) ≤ 9223372036854775807; decide⟩, kn.2.1, kn.1⟩
          have hR2 := trE_of p1 k1
          have hR3 : (trE cs (es ++ [((1, s, vw) : EntB)])).2.1 = s ∧ (trE cs (es ++ [((1, s, vw) : EntB)])).2.2.1 = vw ∧ (trE cs (es ++ [((1, s, vw) : EntB)])).2.2.2.2 = 0 := by
            rw [hR2]; exact ⟨k2, k3, k1⟩
          have hBW := HB.out.trans (HBr.out.mono HB.out.size)
          have hrd := hA.rd (by omega)
          have CL := zset_CollectN (.slice ac nc cc) u6 cs (deltas es) wr (HRC.out wr hBW) hrd HC.out (deltas_pso HO.out) (HTB.out.later hBW) (by omega)
          rw [l1, l2] at CL
          obtain ⟨D, hD⟩ : ∃ D : Int, D = ((deltaN es : Nat) : Int) := ⟨_, rfl⟩
          rw [← hD] at hs9 ⊢
          have HV4 := Lib.hid (HV.out.later HBr.out (Nat.le_refl _))
          have HCL := Lib.hid CL
          have HEn := Lib.hid hEn
          have HR3 := Lib.hid hR3
          have HBW := Lib.hid hBW
          have HD := Lib.hid hD
          have HS9 := Lib.hid hs9
          clear hA hte hd2 p1 p2 p3 hRe f1 f2 f3 k1 k2 k3 kn hv9 hs8 l1 l2 hEn hR2 hR3 hBW hrd CL hD hs9 HA HBr hlt
          go_wp2_with fail
          refine HCL.out.mono ?_
          rintro e w4 ⟨wv, rfl, hNP, hb⟩
          obtain ⟨aw, nw, cw, rfl⟩ := hNP.rd.lit12
          have HB5 := Lib.hid (HBW.out.trans (hb.mono HBW.out.size))
          have HX5 := Lib.hid (HXr.out.later hb)
          have HV5 := Lib.hid (HV4.out.later hb (Nat.le_refl _))
          have SM := Lib.hid (zset_Same (.slice av nv cv) (.slice aw nw cw) vw vw w4 HV5.out hNP.rd)
          rw [decide_eq_true rfl] at SM
          clear hb hNP HCL HV4 HXr HBW c0 c1
          go_wp2_with fail
          refine SM.out.mono ?_
          rintro e w5 ⟨rfl, hb⟩
          have HB6 := Lib.hid (HB5.out.trans (hb.mono HB5.out.size))
          have HX6 := Lib.hid (HX5.out.later hb)
          have HV6 := Lib.hid (HV5.out.later hb (Nat.le_refl _))
          clear hb SM HX5 HV5 HB5
          obtain ⟨c0, c1⟩ := HX6.out.cells
          have d9 : (s != D) = false := by rw [HS9.out]; simp
          obtain ⟨U1, U2⟩ := new_one12 w5 (.cells #[.slice ac nc cc, .slice ae ne ce] 25)
          obtain ⟨w6, hw6⟩ : ∃ w6, w6 = w5.alloc (.cells #[.slice ac nc cc, .slice ae ne ce] 25) := ⟨_, rfl⟩
          rw [← hw6] at U1 U2
          have hs6 : w6.heap.size = w5.heap.size + 1 := by rw [hw6]; simp
          have c2 := keep_cell U2 c0
          have c3 := keep_cell U2 c1
          have hoZ : OwnG entryE (w6.alloc (.cells #[] 71)) (w5.heap.size + 1) (.slice (some ⟨w5.heap.size + 1, 0, none⟩) 0 0) (([] : List EntV).map enV) := by
            rw [← hs6]; exact ownG_empty entryE w6 w6.heap.size (Nat.le_refl _)
          have hb7' : Below w6.heap.size w6 (w6.alloc (.cells #[] 71)) := (Below.refl _ _).alloc (Nat.le_refl _) _
          have hl7 : w5.heap.size + 1 ≤ (w6.alloc (.cells #[] 71)).heap.size := by have := hb7'.size; omega
          have hb7 : Below w6.heap.size w6 (w6.alloc (.cells #[] 71)) := (Below.refl _ _).alloc (Nat.le_refl _) _
          have c4 := keep_cell hb7 c3
          obtain ⟨us, hu1, hu2⟩ : ∃ us : List EntV, es = us.map (·.2) ∧ RdG entryE w (.slice ae ne ce) (us.map enV) ∧ ∀ t ∈ us, RdP w t.1 t.2.2.2 := HZ.out
          have hW6 := HB6.out.trans (U2.mono HB6.out.size)
          have hr7 := hu2.1.later entryOk (hW6.trans (hb7.mono hW6.size)) (Nat.le_refl _)
          have hp7 : ∀ t ∈ us, RdP (w6.alloc (.cells #[] 71)) t.1 t.2.2.2 := fun t ht => (hu2.2 t ht).later (hW6.trans (hb7.mono hW6.size)) (Nat.le_refl _)
          have hul : us.length ≤ 30 := by have := congrArg List.length hu1; rw [List.length_map] at this; have := HN.out; omega
          have HU1 := Lib.hid hu1
          have HU2 := Lib.hid hu2
          have HW6 := Lib.hid hW6
          have HUB := Lib.hid (show Tbox w6 w5.heap.size (.slice ac nc cc) (.slice ae ne ce) from U1)
          have HV7 := Lib.hid (HV6.out.later U2 (Nat.le_refl _))
          have HS6 := Lib.hid hs6
          have HV5' := Lib.hid HV6.out
          have HU5 := Lib.hid U2
          have HG5 := Lib.hid HB6.out.size
          have HUL := Lib.hid hul
          clear hu1 hu2 hW6 U1 U2 HX6 HV6 hs6 HRR HPT HER HB6
          have HW6' := Lib.hid hw6
          subst hw6
          go_wp2_with (with_reducible refine wplZ1_appendAll (ts := []) (w5.heap.size + 1) _ ?hs2 hoZ (.slice ae ne ce) ?hx2 us hr7 hp7 ?hn2 hl7 (w5.alloc (.cells #[.slice ac nc cc, .slice ae ne ce] 25)).heap.size (w5.alloc (.cells #[.slice ac nc cc, .slice ae ne ce] 25)) hb7 ?hq2 ?_)
          case hs2 => rfl
          case hx2 => rfl
          case hn2 => have := HUL.out; simp; omega
          case hq2 => exact Nat.le_of_eq HS6.out
          intro v8 w8 ho8 hb8 hg8 hp8
          rw [List.nil_append] at ho8
          obtain ⟨a8, n8, k8, rfl⟩ := ho8.lit13
          obtain ⟨M1, M2⟩ := new_one12 w8 (.cells #[.int .i64 1, .int .i64 s, .slice av nv cv] 71)
          have ho9 : OwnG entryE (w8.alloc (.cells #[.int .i64 1, .int .i64 s, .slice av nv cv] 71)) (w5.heap.size + 1) (.slice a8 n8 k8) (us.map enV) := ho8.later M2 (Nat.le_refl _)
          have hb9 := hb8.trans (M2.mono hb8.size)
          have hr9 : RdP (w8.alloc (.cells #[.int .i64 1, .int .i64 s, .slice av nv cv] 71)) (.slice av nv cv) vw := HV7.out.later hb9 (Nat.le_refl _)
          have hl9 : w5.heap.size + 1 ≤ (w8.alloc (.cells #[.int .i64 1, .int .i64 s, .slice av nv cv] 71)).heap.size := by have := hb9.size; have := HS6.out; omega
          clear ho8 hb8 hg8 hp8 hoZ hb7 hb7' hl7 hr7 hp7 c0 c1 c2 c3 c4 M2
          go_wp2_with (with_reducible refine wplZ1_append (w5.heap.size + 1) _ ?hs3 ho9 w8.heap.size (.slice av nv cv) (1, s, vw) ?hx3 M1 hr9 ?hn3 hl9 (w5.alloc (.cells #[.slice ac nc cc, .slice ae ne ce] 25)).heap.size (w5.alloc (.cells #[.slice ac nc cc, .slice ae ne ce] 25)) hb9 ?hq3 ?_)
          case hs3 => rfl
          case hx3 => rfl
          case hn3 => have := HUL.out; omega
          case hq3 => exact Nat.le_of_eq HS6.out
          intro v10 w10 ho10 hb10 hg10 hp10
          obtain ⟨a10, n10, k10, rfl⟩ := ho10.lit13
          have hu10 := HUB.out.later hb10
          obtain ⟨u0, u1⟩ := hu10.cells
          have uf := hu10.free 1
          have hO : Only (fun j => j = w5.heap.size) w10 (w10.setCell ⟨w5.heap.size, 1, none⟩ (.slice a10 n10 k10)) := (Only.refl (fun j => j = w5.heap.size) _).setCell (p := ⟨w5.heap.size, 1, none⟩) rfl _
          obtain ⟨w11, hw11⟩ : ∃ w11, w11 = w10.setCell ⟨w5.heap.size, 1, none⟩ (.slice a10 n10 k10) := ⟨_, rfl⟩
          rw [← hw11] at hO
          have hX11 : Tbox w11 w5.heap.size (.slice ac nc cc) (.slice a10 n10 k10) := by rw [hw11]; exact hu10.set _
          have hbW : Below w.heap.size w w11 := (HW6.out.trans (hb10.mono HW6.out.size)).trans (hO.toBelow (fun j e => by have h1 := HW6.out.size; have h2 := HS6.out; have h3 := HB.out.size; have h4 := HG5.out; omega) (by have := hb10.size; have := HW6.out.size; omega))
          have hb5 : Below w5.heap.size w5 w11 := (HU5.out.trans (hb10.mono HU5.out.size)).trans (hO.toBelow (fun j e => by omega) (by have := hb10.size; have := HU5.out.size; omega))
          have ho11 := ho10.stay hO (fun q hq e => by have := (World.ownsRow.lt ho10.1 q hq).1; omega)
          have hr11 := ho11.rd (by have := HUL.out; simp; omega)
          have hZ11 : RdZ w11 (.slice a10 n10 k10) (es ++ [((1, s, vw) : EntB)]) := ⟨us ++ [(.slice av nv cv, (1, s, vw))], by rw [List.map_append, ← HU1.out]; rfl, hr11, fun t ht => by
            rcases List.mem_append.1 ht with ht | ht
            · exact (HU2.out.2 t ht).later hbW (Nat.le_refl _)
            · rw [List.mem_singleton.1 ht]; exact HV5'.out.later hb5 (Nat.le_refl _)⟩
          have VB1 := VB.out w11 (.agg #[.slice ac nc cc, .slice a10 n10 k10]) _ hbW ⟨_, _, rfl, HRC.out w11 hbW, hZ11⟩ HEn.out
          unfold VwO13 at VB1
          rw [HR3.out.1, HR3.out.2.1, HR3.out.2.2] at VB1
          have HVB := Lib.hid VB1
          have HX11 := Lib.hid hX11
          have HW11 := Lib.hid hw11
          have HBB := Lib.hid hbW
          have HV11 := Lib.hid (HV5'.out.later hb5 (Nat.le_refl _))
          clear ho10 hb10 hg10 hp10 hu10 hO hX11 hbW hb5 ho11 hr11 hZ11 VB1 hw11 ho9 hb9 hr9 hl9 M1
          go_wp2_with fail
          rw [← HW11.out]
          refine HVB.out.mono ?_
          rintro e w12 ⟨vz, rfl, hvz, hb⟩
          have SM2 := Lib.hid (zset_Same (.slice av nv cv) vz vw vw w12 (HV11.out.later hb (Nat.le_refl _)) hvz)
          rw [decide_eq_true rfl] at SM2
          have HB12 := Lib.hid (HBB.out.trans (hb.mono HBB.out.size))
          clear hb hvz HVB u0 u1 uf
          go_wp2_with fail
          refine SM2.out.mono ?_
          rintro e w13 ⟨rfl, hb⟩
          have HB13 := Lib.hid (HB12.out.trans (hb.mono HB12.out.size))
          clear hb SM2
          go_wp2
          go_ret
          exact ⟨rfl, HB13.out⟩
    · have q9 : ((y : Int) != 0) = true := by rw [bne_iff_ne]; omega
      obtain ⟨_, _, e2, e3⟩ := HER.out hy
      subst e2 e3
      have hl0 := hv.len
      clear hy hv
      go_wp2
      go_ret
      exact ⟨rfl, HB.out⟩
  · clear hf
    go_wp2_with fail
    refine (K.alive w2 HB.out).mono ?_
    rintro e w3 ⟨rfl, hb⟩
    replace HB := Lib.hid (HB.out.trans (hb.mono HB.out.size))
    clear hb
    go_wp2
    go_ret
    exact ⟨rfl, HB.out⟩

end Go.Proofs.YtmbpdpcinhhclaaGreatDoor
