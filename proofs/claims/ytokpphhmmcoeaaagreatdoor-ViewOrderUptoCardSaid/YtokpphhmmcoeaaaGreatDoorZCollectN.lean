/-
  Sums of pairs lie in memory of their own: zset.Collect, zset.Sum, entry.Apply, with the blocks that their answers lie in.
-/
import Derived.Test.YtokpphhmmcoeaaaGreatDoorGZProgA
import Derived.Test.YtokpphhmmcoeaaaGreatDoorGBaseB
set_option linter.unusedVariables false
set_option linter.unusedSimpArgs false
set_option maxRecDepth 1000000
namespace Go.Proofs.YtokpphhmmcoeaaaGreatDoor
open Go.RowKit Go.Shelf

theorem cell_set_other {w : World} {g a b : Nat} {u x : Value} (h : w.cell? ⟨g, a, none⟩ = some x) (hab : a ≠ b) : (w.setCell ⟨g, b, none⟩ u).cell? ⟨g, a, none⟩ = some x := by
  cases hr : w.heap[g]? with
  | none => simp [World.cell?, hr] at h
  | some o =>
    cases o with
    | cells c t z =>
      rw [cell_of_row _ _ _ _ _ _ hr] at h
      rw [cell_of_row _ _ _ _ _ _ (block_setCell hr u), Array.getElem?_setIfInBounds, if_neg (fun e => hab e.symm)]
      exact h
    | _ => simp [World.cell?, hr] at h
theorem cell_set_same {w : World} {g b : Nat} {u x : Value} (h : w.cell? ⟨g, b, none⟩ = some x) : (w.setCell ⟨g, b, none⟩ u).cell? ⟨g, b, none⟩ = some u := by
  cases hr : w.heap[g]? with
  | none => simp [World.cell?, hr] at h
  | some o =>
    cases o with
    | cells c t z =>
      rw [cell_of_row _ _ _ _ _ _ hr] at h
      have hb : b < c.size := (Array.getElem?_eq_some_iff.1 h).1
      rw [cell_of_row _ _ _ _ _ _ (block_setCell hr u), Array.getElem?_setIfInBounds, if_pos rfl, if_pos hb]
    | _ => simp [World.cell?, hr] at h
/-- The row at j lies in blocks from base on. -/
def NewAt (w : World) (base : Nat) (v : Value) (qs : List PairB) (j : Nat) : Prop := ∃ rv, w.cell? (adr v (j * 2)) = some rv ∧ ∀ i, i < (qs.getD j default).1.length → base ≤ (adr rv (i * 2)).block
theorem NewAt.later {w w' : World} {base j : Nat} {v : Value} {qs : List PairB} (h : NewAt w base v qs j) (hb : Below w.heap.size w w') : NewAt w' base v qs j := by
  obtain ⟨rv, h1, h2⟩ := h
  exact ⟨rv, (hb.cell (p := adr v (j * 2)) (World.block_lt_of_cell? w _ h1)).trans h1, h2⟩
theorem NewAt.set {w : World} {base j g k : Nat} {v : Value} {qs : List PairB} (h : NewAt w base v qs j) (ha : adr v (j * 2) = ⟨g, j * 2, none⟩) (hk : j ≠ k) (u : Value) : NewAt (w.setCell ⟨g, k * 2, none⟩ u) base v qs j := by
  obtain ⟨rv, h1, h2⟩ := h
  rw [ha] at h1
  exact ⟨rv, by rw [ha]; exact cell_set_other h1 (by omega), h2⟩
theorem OwnE.from12 {w : World} {base : Nat} {v : Value} {cs : List CellB} (h : OwnE w base v cs) : ∀ i, i < cs.length → base ≤ (adr v (i * 2)).block := fun i hi => by
  obtain ⟨⟨_, h2⟩, _⟩ := h
  rw [List.length_map] at h2
  rcases h2 with ⟨rfl, hn⟩ | ⟨g', cap, cur, rfl, hbg, _⟩
  · omega
  · have : (adr (.slice (some ⟨g', 0, none⟩) cs.length cap) (i * 2)).block = g' := by rw [adr_lit]
    omega
theorem NewP.of12 {w : World} {base b : Nat} {v : Value} {qs : List PairB} (h : OwnP w base v qs) (hs : qs.length ≤ 140737488351232) (hn : ∀ j, j < qs.length → NewAt w b v qs j) (hb : b ≤ base) : NewP w b v qs := by
  obtain ⟨ts, rfl, ho, hr⟩ := h
  rw [List.length_map] at hs hn
  have hrd := ho.rd (by simpa using hs)
  refine ⟨ts, rfl, hrd, fun i hi => ?_, fun t ht => ⟨(hr t ht).1, ?_⟩⟩
  · obtain ⟨⟨_, h2⟩, _⟩ := ho
    rcases h2 with ⟨_, hn9⟩ | ⟨g', cap, cur, hv, hbg, _⟩
    · rw [List.length_map] at hn9; omega
    · rw [hv, adr_lit]; show b ≤ g'; omega
  · obtain ⟨j, hj, rfl⟩ := List.getElem_of_mem ht
    obtain ⟨rv, h1, h2⟩ := hn j hj
    have hc := RdG.cells hrd j (by simpa using hj) 0 ts[j].1 (by simp [List.getD, hj]; rfl)
    rw [show j * pairE.n + 0 = j * 2 from rfl, h1] at hc
    injection hc with hc
    subst hc
    have e : ((ts.map (fun t : TriB => t.2)).getD j default).1 = ts[j].2.1 := by simp [List.getD, hj]
    rw [e] at h2
    exact h2

set_option maxHeartbeats 16000000 in
theorem zset_CollectN (v1 v2 : Value) (cs : List ColB) (ps : List PairB) (w : World) (h1 : RdC w v1 cs) (h2 : RdP w v2 ps) (hC : CS cs) (hP : PSO ps) (hT : Tabs w) (hl : ps.length * 32 ≤ 140737488351360) :
    Calls Tryz.prog 20 #[v1, v2] w fun e w' => ∃ v, e = .returned (.tuple #[v, .int .i64 (clcE cs ps : Nat)]) ∧ NewP w' w.heap.size v (clcO cs ps) ∧ Below w.heap.size w w' := by
  obtain ⟨aoc, ncc, capc, hv1, _⟩ : ∃ ao n cap, v1 = .slice ao n cap ∧ True := by
    obtain ⟨ao, cap, e, _⟩ := RdG.shape h1
    exact ⟨_, _, _, e, trivial⟩
  subst hv1
  obtain ⟨N0, N1, N2⟩ := new1 w (.cells #[.slice aoc ncc capc] 22)
  have CK := Lib.hid (zset_checkRows _ v2 cs ps _ (h1.later N2 (Nat.le_refl _)) (h2.later N2 (Nat.le_refl _)) hC hP (hT.later N2))
  obtain ⟨us, hus, hug, hur, _⟩ := h2.parts
  have H1 := Lib.hid h1
  have HT := Lib.hid hT
  have HUG := Lib.hid hug
  have HUR := Lib.hid hur
  have NB := Lib.hid N2
  have NG := Lib.hid N1
  have hns : (w.alloc (.cells #[.slice aoc ncc capc] 22)).heap.size = w.heap.size + 1 := N0
  have hbox := cell_of_row _ _ 0 _ _ _ N1
  simp at hbox
  have hul : us.length = ps.length := by rw [hus]; simp
  clear h1 h2 hug hur hT N0 N1 N2
  obtain ⟨c, hc⟩ : ∃ c, c = rowsE cs ps := ⟨_, rfl⟩
  rw [← hc] at CK
  by_cases hcz : c = 0
  · have HS := Lib.hid (show errS (colsL cs) = 0 from by
      by_cases h9 : errS (colsL cs) = 0
      · exact h9
      · unfold rowsE at hc; rw [if_pos h9] at hc; omega)
    have HF := Lib.hid (show firstE cs ps = 0 from by unfold rowsE at hc; rw [if_neg (by rw [HS.out]; simp)] at hc; omega)
    have HV := Lib.hid (allV_of (cs := cs) hP (firstE_zero.1 HF.out))
    have HE := Lib.hid (show clcE cs ps = if overB (partsC cs ps) = true then 12 else if 1024 < (canonC cs ps).length then 13 else 0 from by
      unfold clcE; rw [if_neg (by rw [HS.out]; simp), if_neg (by rw [HF.out]; simp)])
    subst hcz
    have HUS := Lib.hid hus
    clear hc hus
    go_enter Tryz.func20, Tryz.ntmps20
    go_wp2_with fail
    refine CK.out.mono ?_
    rintro e w1 ⟨rfl, hb⟩
    have HB1 := Lib.hid (NB.out.trans (hb.mono (by omega)))
    have HG1 := Lib.hid ((hb.block w.heap.size (by omega)).trans NG.out)
    have hsz1 : w.heap.size < w1.heap.size := by have := hb.size; omega
    have CL := Lib.hid (pairs_Clone v2 us w1 (RdG.later HUG.out pairOk HB1.out (Nat.le_refl _)) (fun t ht => (HUR.out t ht).later HB1.out (Nat.le_refl _)) (by omega))
    clear hb CK hbox NB NG
    go_wp2_with fail
    refine CL.out.mono ?_
    rintro e w2 ⟨v', rfl, ho2, hb2⟩
    have HB2 := Lib.hid (HB1.out.trans (hb2.mono (by omega)))
    have HG2 := Lib.hid ((hb2.block w.heap.size hsz1).trans HG1.out)
    have HV2 := Lib.hid (show ∀ t ∈ us, Vr cs t.2.1 from fun t ht => HV.out t.2 (by rw [HUS.out]; exact List.mem_map_of_mem ht))
    have SP := Lib.hid (sort_pairs w.heap.size (.slice aoc ncc capc) v' us cs w w2 w1.heap.size _ _ ho2 (by omega) HB2.out HUR.out HV2.out H1.out hC HT.out (by omega) HG2.out hsz1)
    have hbox2 := cell_of_row _ _ 0 _ _ _ HG2.out
    simp at hbox2
    have hsz2 := hb2.size
    clear ho2 hb2 CL HG1
    go_wp2_with fail
    refine SP.out.mono ?_
    rintro e w3 ⟨rfl, us', hpm, hws, ho3, hb3⟩
    have HB3 := Lib.hid (HB2.out.trans (hb3.mono (by omega)))
    have hul' : us'.length = us.length := hpm.length_eq
    have HPM := Lib.hid (show (us'.map (·.2)).Perm ps from by rw [HUS.out]; exact hpm.map _)
    have HMG := Lib.hid (show Z.mg 0 (us'.map (·.2)) = partsC cs ps from Z.mg_parts (to_row cs) HPM.out HV.out hws)
    have HP3 := Lib.hid (show PSO (us'.map (·.2)) from fun p hp => hP p (HPM.out.mem_iff.1 hp))
    have HR3 := Lib.hid (show RdP w3 v' (us'.map (·.2)) from ⟨us', rfl, ho3.rd (by simp; omega), fun t ht => (HUR.out t (hpm.mem_iff.1 ht)).later HB3.out (Nat.le_refl _)⟩)
    have MG := Lib.hid (zset_merge v' _ w3 HR3.out HP3.out (by rw [List.length_map]; omega))
    have HLM := Lib.hid (show (Z.nz (Z.mg 0 (us'.map (·.2)))).length ≤ ps.length from by
      have a1 := nz_len (Z.mg 0 (us'.map (·.2)))
      have a2 := mg_len (us'.map (·.2)) 0
      rw [List.length_map] at a2; omega)
    have hsz3 := hb3.size
    clear hb3 ho3 hpm hws SP HR3 HG2 hbox2
    go_wp2_with fail
    refine MG.out.mono ?_
    rintro e w4 ⟨v4, rfl, ho4, hb4⟩
    have HB4 := Lib.hid (HB3.out.trans (hb4.mono (by omega)))
    have HO4 := Lib.hid ho4
    have hsz4 := hb4.size
    clear ho4 hb4 MG
    unfold mgE
    by_cases hov : overB (Z.mg 0 (us'.map (·.2))) = true
    · rw [if_pos hov, show ((12 : Nat) : Int) = 12 from rfl]
      have HE2 := Lib.hid (show clcE cs ps = 12 from by rw [HE.out, if_pos (by rw [← HMG.out]; exact hov)])
      have HX := Lib.hid (show clcO cs ps = [] from by unfold clcO; rw [if_neg (by rw [HE2.out]; simp)])
      clear hov HO4
      go_wp2
      go_ret2
      exact ⟨_, by rw [HE2.out]; rfl, by rw [HX.out]; exact NewP.nil _ _, HB4.out⟩
    · rw [if_neg hov, show ((0 : Nat) : Int) = 0 from rfl]
      have HCN := Lib.hid (show Z.nz (Z.mg 0 (us'.map (·.2))) = canonC cs ps from by rw [HMG.out]; rfl)
      have HO5 := Lib.hid (show OwnP w4 w3.heap.size v4 (canonC cs ps) from by
        have := HO4.out
        unfold mgO at this
        rw [if_neg hov, HCN.out] at this
        exact this)
      have HE1 := Lib.hid (show clcE cs ps = if 1024 < (canonC cs ps).length then 13 else 0 from by rw [HE.out, if_neg (by rw [← HMG.out]; exact hov)])
      have hcl : (canonC cs ps).length ≤ ps.length := by rw [← HCN.out]; exact HLM.out
      obtain ⟨qs, hqs⟩ : ∃ qs, qs = canonC cs ps := ⟨_, rfl⟩
      rw [← hqs] at HO5 HE1 hcl
      have HQ := Lib.hid hqs
      have HRD := Lib.hid (HO5.out.rd (by omega))
      have hlen := HRD.out.len
      obtain ⟨n, hn⟩ : ∃ n, n = qs.length := ⟨_, rfl⟩
      rw [← hn] at hlen hcl HE1
      have HNN := Lib.hid hn
      clear hov HO4 HLM hqs hn
      by_cases hbig : 1024 < n
      · have HE2 := Lib.hid (show clcE cs ps = 13 from by rw [HE1.out, if_pos hbig])
        have HX := Lib.hid (show clcO cs ps = [] from by unfold clcO; rw [if_neg (by rw [HE2.out]; simp)])
        go_wp2
        go_ret2
        exact ⟨_, by rw [HE2.out]; rfl, by rw [HX.out]; exact NewP.nil _ _, HB4.out⟩
      · have HE2 := Lib.hid (show clcE cs ps = 0 from by rw [HE1.out, if_neg hbig])
        have HX := Lib.hid (show clcO cs ps = qs from by unfold clcO; rw [if_pos HE2.out, ← HQ.out])
        go_wp2
        go_loopw [36] (fun i wr => ∃ k : Nat, k ≤ n ∧ i = .int .i64 k ∧ Hid (OwnP wr w3.heap.size v4 qs) ∧ Hid (Below w.heap.size w wr) ∧ Hid (∀ j, j < k → NewAt wr w.heap.size v4 qs j)) (fun i _ => n - (intOf i).toNat)
        case atStart => exact ⟨0, by omega, rfl, HO5, HB4, Lib.hid (fun j hj => absurd hj (by omega))⟩
        case round =>
          clear HO5 HRD
          obtain ⟨k, hk, rfl, HO, HB, HNw⟩ := hrel
          by_cases hlt : k < n
          · have k1 : k < qs.length := by rw [← HNN.out]; exact hlt
            obtain ⟨b, o, rv, hi, c0, c1, re, hbl⟩ := (HO.out.rd (by rw [← HNN.out]; omega)).get k1
            obtain ⟨g, cap, hv4, hbg, hgl, hrow⟩ := HO.out.row (by omega) (by rw [← HNN.out]; omega)
            have hadr : ∀ q, adr v4 q = ⟨g, q, none⟩ := fun q => by rw [hv4, adr_lit, Nat.zero_add]
            obtain ⟨hix, hst⟩ := hrow k k1
            have heq := (hi wr).symm.trans (hix wr)
            simp only [Result.ok.injEq, Value.pointer.injEq, Option.some.injEq, Addr.mk.injEq, and_true] at heq
            obtain ⟨rfl, rfl⟩ := heq
            obtain ⟨ao, nn, cap', rfl⟩ := re.lit
            have hr8 : (qs.getD k default).1.length ≤ 8 := by
              have hm : qs.getD k default ∈ qs := by simp [List.getD, k1]
              have := (Z.canon_set (to_row cs) HV.out).all (qs.getD k default) (by rw [show Z.canon (cmpR cs) ps = qs from HQ.out.symm]; exact hm)
              obtain ⟨g1, g2, _⟩ := errRow_len this.1
              have := ((errS_iffR (colsL cs)).1 g1).1.2
              unfold colsL at this; rw [List.length_map] at this; omega
            obtain ⟨p, hp⟩ : ∃ p, p = qs.getD k default := ⟨_, rfl⟩
            rw [← hp] at c1 re hst hr8
            have HPk := Lib.hid hp
            rcases p with ⟨r, x⟩
            dsimp only at c1 re hst hr8
            have NN := Lib.hid (new1 wr (.cells #[.slice ao nn cap', .int .i64 x] 75))
            have HBN := Lib.hid (HB.out.trans (NN.out.2.2.mono HB.out.size))
            have CC := Lib.hid (cells_Clone _ r _ (re.later NN.out.2.2 (Nat.le_refl _)) (by omega))
            have HOa := Lib.hid (HO.out.later NN.out.2.2 (Nat.le_refl _))
            have HST := Lib.hid hst
            have hsa := NN.out.1
            have hsr := HB.out.size
            have hsn := HBN.out.size
            have HAd := Lib.hid hadr
            clear hp k1 hi hrow re hst HO hv4 hadr
            go_wp2_with fail
            refine CC.out.mono ?_
            rintro e w5 ⟨v5, rfl, ho5, hb5⟩
            obtain ⟨ao5, n5, cap5, rfl⟩ := (ho5.rd (by omega)).lit
            have HO5 := Lib.hid (HOa.out.later hb5 (Nat.le_refl _))
            have HB5 := Lib.hid (HBN.out.trans (hb5.mono (by omega)))
            obtain ⟨⟨x5, hc5⟩, hf5, hs5⟩ := HST.out w5 HO5.out
            have HO6 := Lib.hid (hs5 _ (ho5.rd (by omega)) (ho5.offB (by omega)))
            have HB6 := Lib.hid (HB5.out.setCell (p := ⟨b, k * 2, none⟩) (by show w.heap.size ≤ b; omega) (.slice ao5 n5 cap5))
            have hfr := ho5.from12
            have HN6 := Lib.hid (show ∀ j, j < k + 1 → NewAt (w5.setCell ⟨b, k * 2, none⟩ (.slice ao5 n5 cap5)) w.heap.size v4 qs j from fun j hj => by
              by_cases e : j = k
              · subst e
                refine ⟨.slice ao5 n5 cap5, by rw [HAd.out]; exact cell_set_same hc5, fun i hi => ?_⟩
                rw [← HPk.out] at hi
                have h9 := hfr i hi
                omega
              · have h9 := (((HNw.out j (by omega)).later NN.out.2.2).later hb5)
                exact h9.set (HAd.out _) (by omega) _)
            clear ho5 hb5 HST hs5 HOa CC HBN NN c0 c1 HO5 HB5 hfr HAd HPk HNw
            go_wp2
            go_roundw
            case rel => exact ⟨k + 1, by omega, by go_num, HO6, HB6, HN6⟩
            case measure => simp [intOf]; omega
          · obtain rfl : k = n := by omega
            have HRF := Lib.hid (NewP.of12 HO.out (by rw [← HNN.out]; omega) (fun j hj => HNw.out j (by rw [HNN.out]; exact hj)) (show w.heap.size ≤ w3.heap.size by omega))
            go_wp2
            go_ret2
            exact ⟨_, by rw [HE2.out]; rfl, by rw [HX.out]; exact HRF.out, HB.out⟩
  · have HE := Lib.hid (show clcE cs ps = c from by
      by_cases h9 : errS (colsL cs) = 0
      · have h10 : firstE cs ps ≠ 0 := fun h => hcz (by rw [hc]; unfold rowsE; rw [if_neg (fun h8 => h8 h9), h])
        rw [hc]
        unfold clcE rowsE
        rw [if_neg (fun h8 => h8 h9), if_pos h10, if_neg (fun h8 => h8 h9)]
      · rw [hc]
        unfold clcE rowsE
        rw [if_pos h9, if_pos h9])
    have HX := Lib.hid (show clcO cs ps = [] from by unfold clcO; rw [if_neg (by rw [HE.out]; exact hcz)])
    have q : ((c : Int) != 0) = true := by rw [bne_iff_ne]; omega
    clear hc
    go_enter Tryz.func20, Tryz.ntmps20
    go_wp2_with fail
    refine CK.out.mono ?_
    rintro e w1 ⟨rfl, hb⟩
    have HB1 := Lib.hid (NB.out.trans (hb.mono (by omega)))
    clear hb CK
    go_wp2
    go_ret2
    exact ⟨_, by rw [HE.out]; rfl, by rw [HX.out]; exact NewP.nil _ _, HB1.out⟩

set_option maxHeartbeats 4000000 in
theorem zset_SumN (v1 v2 v3 : Value) (cs : List ColB) (a b : List PairB) (w : World) (h1 : RdC w v1 cs) (h2 : RdP w v2 a) (h3 : RdP w v3 b) (hC : CS cs) (hA : PSO a) (hB : PSO b) (hT : Tabs w) :
    Calls Tryz.prog 65 #[v1, v2, v3] w fun e w' => ∃ v, e = .returned (.tuple #[v, .int .i64 (sumE cs a b : Nat)]) ∧ NewP w' w.heap.size v (sumO cs a b) ∧ Below w.heap.size w w' := by
  have CA := Lib.hid (zset_Check v1 v2 cs a w h1 h2 hC hA hT)
  have CB := Lib.hid (fun wz (hz : Below w.heap.size w wz) => zset_Check v1 v3 cs b wz (h1.later hz (Nat.le_refl _)) (h3.later hz (Nat.le_refl _)) hC hB (hT.later hz))
  obtain ⟨c, hc⟩ : ∃ c, c = chkZ cs a := ⟨_, rfl⟩
  obtain ⟨d, hd⟩ : ∃ d, d = chkZ cs b := ⟨_, rfl⟩
  rw [← hc] at CA
  rw [← hd] at CB
  by_cases hcz : c = 0
  · by_cases hdz : d = 0
    · have h8a := ((chkZ_zero hA).1 (show chkZ cs a = 0 by omega)).2.1
      have h8b := ((chkZ_zero hB).1 (show chkZ cs b = 0 by omega)).2.1
      have HE := Lib.hid (show sumE cs a b = clcE cs (a ++ b) from by unfold sumE; rw [if_neg (by omega), if_neg (by omega)])
      have HX := Lib.hid (show sumO cs a b = clcO cs (a ++ b) from by unfold sumO clcO; rw [HE.out])
      subst hcz hdz
      obtain ⟨ua, hua, hug, hur, _⟩ := h2.parts
      obtain ⟨ub, hub, huh, hus, _⟩ := h3.parts
      obtain ⟨ao, nn, cap, hv2⟩ : ∃ ao n cap, v2 = .slice ao n cap := by
        obtain ⟨ao, cap, e, _⟩ := RdG.shape hug
        exact ⟨_, _, _, e⟩
      obtain ⟨ao', nn', cap', hv3⟩ : ∃ ao n cap, v3 = .slice ao n cap := by
        obtain ⟨ao, cap, e, _⟩ := RdG.shape huh
        exact ⟨_, _, _, e⟩
      subst hv2 hv3
      have hla : ua.length = a.length := by rw [hua]; simp
      have hlb : ub.length = b.length := by rw [hub]; simp
      have H1 := Lib.hid h1
      have HT := Lib.hid hT
      have HA := Lib.hid hug
      have HB := Lib.hid huh
      have HRA := Lib.hid hur
      have HRB := Lib.hid hus
      have HUA := Lib.hid hua
      have HUB := Lib.hid hub
      clear hc hd h1 h2 h3 hug huh hur hus hua hub hT
      go_enter Tryz.func65, Tryz.ntmps65
      go_wp2_with fail
      refine CA.out.mono ?_
      rintro e w1 ⟨rfl, hb⟩
      have HB1 := Lib.hid hb
      clear hb CA
      go_wp2_with fail
      refine (CB.out _ HB1.out).mono ?_
      rintro e w2 ⟨rfl, hb⟩
      have HB2 := Lib.hid (HB1.out.trans (hb.mono HB1.out.size))
      have NN := Lib.hid (new1 w2 (.cells #[.slice ao nn cap, .slice ao' nn' cap'] 27))
      have HB3 := Lib.hid (HB2.out.trans (NN.out.2.2.mono HB2.out.size))
      have CO := Lib.hid (pairs_Concat _ _ _ ua ub _ (rdS_two w2 (.slice ao nn cap) (.slice ao' nn' cap')) (RdG.later HA.out pairOk HB3.out (Nat.le_refl _)) (RdG.later HB.out pairOk HB3.out (Nat.le_refl _)) (fun t ht => (HRA.out t ht).later HB3.out (Nat.le_refl _)) (fun t ht => (HRB.out t ht).later HB3.out (Nat.le_refl _)) (by omega))
      have hs3 := HB3.out.size
      clear hb CB HB1 NN HB2
      go_wp2_with fail
      refine CO.out.mono ?_
      rintro e w4 ⟨v4, rfl, ho4, hb4⟩
      have HB4 := Lib.hid (HB3.out.trans (hb4.mono hs3))
      have HR4 := Lib.hid (show RdP w4 v4 (a ++ b) from ⟨ua ++ ub, by rw [List.map_append, ← HUA.out, ← HUB.out], ho4.rd (by simp; omega), fun t ht => by
        rcases List.mem_append.1 ht with ht | ht
        · exact (HRA.out t ht).later HB4.out (Nat.le_refl _)
        · exact (HRB.out t ht).later HB4.out (Nat.le_refl _)⟩)
      have CL := Lib.hid (zset_CollectN v1 v4 cs (a ++ b) w4 (H1.out.later HB4.out (Nat.le_refl _)) HR4.out hC (hA.append hB) (HT.out.later HB4.out) (by rw [List.length_append]; omega))
      have hs4 := HB4.out.size
      clear ho4 hb4 CO HR4 HB3
      go_wp2_with fail
      refine CL.out.mono ?_
      rintro e w5 ⟨v5, rfl, hr5, hb5⟩
      have HB5 := Lib.hid (HB4.out.trans (hb5.mono hs4))
      have HR5 := Lib.hid hr5
      have HS4 := Lib.hid HB4.out.size
      clear hr5 hb5 CL
      go_wp2
      go_ret2
      exact ⟨_, by rw [HE.out]; rfl, by rw [HX.out]; exact HR5.out.lower HS4.out, HB5.out⟩
    · have HE := Lib.hid (show sumE cs a b = d from by unfold sumE; rw [if_neg (by omega), if_pos (by omega), hd])
      have HX := Lib.hid (show sumO cs a b = [] from by unfold sumO; rw [if_neg (by rw [HE.out]; exact hdz)])
      have q : ((d : Int) != 0) = true := by rw [bne_iff_ne]; omega
      subst hcz
      clear hc hd h1 h2 h3
      go_enter Tryz.func65, Tryz.ntmps65
      go_wp2_with fail
      refine CA.out.mono ?_
      rintro e w1 ⟨rfl, hb⟩
      have HB1 := Lib.hid hb
      clear hb CA
      go_wp2_with fail
      refine (CB.out _ HB1.out).mono ?_
      rintro e w2 ⟨rfl, hb⟩
      have HB2 := Lib.hid (HB1.out.trans (hb.mono HB1.out.size))
      clear hb CB HB1
      go_wp2
      go_ret2
      exact ⟨_, by rw [HE.out]; rfl, by rw [HX.out]; exact NewP.nil _ _, HB2.out⟩
  · have HE := Lib.hid (show sumE cs a b = c from by unfold sumE; rw [if_pos (by omega), hc])
    have HX := Lib.hid (show sumO cs a b = [] from by unfold sumO; rw [if_neg (by rw [HE.out]; exact hcz)])
    have q : ((c : Int) != 0) = true := by rw [bne_iff_ne]; omega
    clear hc hd h1 h2 h3 CB
    go_enter Tryz.func65, Tryz.ntmps65
    go_wp2_with fail
    refine CA.out.mono ?_
    rintro e w1 ⟨rfl, hb⟩
    have HB1 := Lib.hid hb
    clear hb CA
    go_wp2
    go_ret2
    exact ⟨_, by rw [HE.out]; rfl, by rw [HX.out]; exact NewP.nil _ _, HB1.out⟩

end Go.Proofs.YtokpphhmmcoeaaaGreatDoor
