/-
  entry.Read: the landed code.
-/
import Derived.Test.YteiphdcgffapbaaGreatDoorEntry
import Derived.Test.YteiphdcgffapbaaGreatDoorGEntP
import Derived.Test.YteiphdcgffapbaaGreatDoorGBatR
set_option linter.unusedVariables false
set_option linter.unusedSimpArgs false
set_option maxRecDepth 1000000
namespace Go.Proofs.YteiphdcgffapbaaGreatDoor
open Go.RowKit Go.Shelf

/-- What Run's closure leaves, in the entry in block c. -/
def ReadE12 (wR : World) (c : Nat) (kd : Int) (R : (Nat × List Bp) × Nat × Nat) (g k x : Nat) (a : World) : Prop :=
  Only (fun j => j = c ∨ wR.heap.size ≤ j) wR a ∧ k = R.2.1 ∧ x = R.2.2 ∧ (x = 0 → ∃ tv ps, Ebox a c kd (R.1.1 : Int) tv ∧ NewP a (wR.heap.size + 4) tv ps ∧ PSO ps ∧ psL ps = R.1.2)

theorem enters_read12 (args : Array Value) (u : World) : (callFunc 37 args).run Tryz.prog u = .ok (.enter 37 args) u := enters_fn Tryz.func37 (by kernel_rfl) rfl args u

theorem Ebox.seq {w : World} {b : Nat} {kind s : Int} {pv : Value} (h : Ebox w b kind s pv) (n : Int) : Ebox (w.setCell ⟨b, 1, none⟩ (.int .i64 n)) b kind n pv := by
  have := block_setCell (k := 1) h (.int .i64 n)
  unfold Ebox; simpa using this
theorem Ebox.pairs {w : World} {b : Nat} {kind s : Int} {pv : Value} (h : Ebox w b kind s pv) (v : Value) : Ebox (w.setCell ⟨b, 2, none⟩ v) b kind s v := by
  have := block_setCell (k := 2) h v
  unfold Ebox; simpa using this
theorem Ebox.free {w : World} {b : Nat} {kind s : Int} {pv : Value} (h : Ebox w b kind s pv) (i : Nat) : w.frozen? ⟨b, i, none⟩ = false := frozen_of_row _ _ _ _ _ h
theorem Ebox.lt {w : World} {b : Nat} {kind s : Int} {pv : Value} (h : Ebox w b kind s pv) : b < w.heap.size := (Array.getElem?_eq_some_iff.1 h).1

theorem kindOf_no (k : Int) (w : World) (hF : Frs w) (hk : ¬ (k = 1 ∨ k = 2)) : Calls Tryz.prog 35 #[.int .i64 k] w fun e w' => ∃ x, e = .returned (.tuple #[.int .i64 x, .bool false]) ∧ w = w' := by
  refine (entry_kindOf k w hF).mono ?_
  rintro e w' ⟨⟨x, he, _⟩, hw⟩
  rw [decide_eq_false hk] at he
  exact ⟨x, he, hw⟩
theorem kindOf_ok (k : Int) (w : World) (hF : Frs w) (hk : k = 1 ∨ k = 2) : Calls Tryz.prog 35 #[.int .i64 k] w fun e w' => e = .returned (.tuple #[.int .i64 (2 - k), .bool true]) ∧ w = w' := by
  refine (entry_kindOf k w hF).mono ?_
  rintro e w' ⟨⟨x, he, hx⟩, hw⟩
  rw [decide_eq_true hk, hx hk] at he
  exact ⟨he, hw⟩

set_option maxHeartbeats 8000000 in
theorem entry_Read1 (sv : Value) (cs : List ColB) (R : (Nat × List Bp) × Nat × Nat) (wR : World) (g c kb : Nat) (kd : Int) (v : Value) (l : List UInt8) (w : World) (hRR : R = entT cs l) (hR : Rdr w g v l 0) (hc : Ebox w c kd 0 (.slice none 0 0)) (hkb : w.heap[kb]? = some (.cells #[sv] 22 (0, 0))) (hsv : RdC wR sv cs) (hC : CS cs) (hT : Tabs w) (hg : tabTop ≤ g)
    (hcR : c < wR.heap.size) (hkR : kb < wR.heap.size) (hkc : kb ≠ c) (hcT : tabTop ≤ c) (hgR : wR.heap.size ≤ g) (hsz : wR.heap.size + 4 ≤ w.heap.size) (hb : Below wR.heap.size wR w) (hv : ∀ i, i < l.length → (adr v i).block ≠ c) (hsc : ∀ wz, Only (fun j => j = c ∨ wR.heap.size ≤ j) wR wz → RdC wz sv cs) :
    Calls Tryz.prog 37 #[.pointer (some ⟨g, 0, none⟩), .pointer (some ⟨c, 0, none⟩), .pointer (some ⟨kb, 0, none⟩)] w fun e w2 => ∃ k x, Kept wR.heap.size g w w2 ∧ ReadE12 wR c kd R g k x w2 ∧ Went g v l k x e w2 := by
  have hcw : c < w.heap.size := by omega
  have UI := Lib.hid (reader_Uint g v l 0 w hR 281474976710656 (by decide))
  have hno := entT_no (cs := cs) (l := l)
  have hok := entT_ok (cs := cs) (l := l)
  have hmost := colU_enc (l := l) (k := 0) (most := 281474976710656) (Nat.zero_le _)
  rw [← hRR] at hno hok
  obtain ⟨R1, hR1⟩ : ∃ R1, R1 = rdU l 0 281474976710656 := ⟨_, rfl⟩
  rw [← hR1] at UI hno hok hmost
  obtain ⟨n, hn⟩ : ∃ n, n = R1.1 := ⟨_, rfl⟩
  obtain ⟨k1, hk1⟩ : ∃ k1, k1 = R1.2.1 := ⟨_, rfl⟩
  obtain ⟨x1, hx1⟩ : ∃ x1, x1 = R1.2.2 := ⟨_, rfl⟩
  rw [← hn, ← hk1, ← hx1] at UI
  rw [← hn, ← hk1, ← hx1] at hok
  rw [← hk1, ← hx1] at hno
  rw [← hn, ← hx1] at hmost
  have HNo := Lib.hid hno
  have HOk := Lib.hid hok
  have HMo := Lib.hid (fun h => (hmost h).2.2)
  have HX1 := Lib.hid (show ∀ h : x1 = 0, x1 = 0 from fun h => h)
  obtain ⟨ao1, tl1, cap1, rfl⟩ := hsv.lit12
  have HC := Lib.hid hc
  have HKb := Lib.hid hkb
  have HO0 := Lib.hid (show Only (fun j => j = c ∨ wR.heap.size ≤ j) wR w from ((Only.refl _ wR).below hb (Nat.le_refl _)))
  have HSc := Lib.hid hsc
  have HT := Lib.hid hT
  clear hno hok hmost hn hk1 hx1 hR1 hRR hc hkb hsv hR hT hb hsc
  go_enter Tryz.func37, Tryz.ntmps37
  go_wp2_with fail
  refine UI.out.mono ?_
  rintro e w2 ⟨hG, ⟨hx, rfl, hR2⟩ | ⟨hx, rfl, hE⟩⟩
  · subst hx
    have hO2 : Only (fun j => j = g) w w2 := (Only.refl _ w).grown hG rfl
    have hC2 : Ebox w2 c kd 0 (.slice none 0 0) := hO2.keep HC.out (by omega)
    obtain ⟨c0, c1, c2⟩ := hC2.cells
    have c3 := hC2.free 1
    have hn9 := HMo.out rfl
    obtain ⟨q1, q2, q3⟩ := HOk.out rfl
    have hgS : Only (fun j => j = c) w2 (w2.setCell ⟨c, 1, none⟩ (.int .i64 (n : Int))) := (Only.refl (fun j => j = c) w2).setCell (p := ⟨c, 1, none⟩) rfl _
    have hR3 := hR2.setVar (p := ⟨c, 1, none⟩) (by dsimp only; omega) hv (.int .i64 (n : Int))
    have hC3 := hC2.seq (n : Int)
    have hk3 := hgS.keep (hO2.keep HKb.out (by omega)) (by omega)
    have hO3 : Only (fun j => j = c ∨ wR.heap.size ≤ j) wR (w2.setCell ⟨c, 1, none⟩ (.int .i64 (n : Int))) := (HO0.out.trans9 hO2 (fun j _ hj => by omega)).trans9 hgS (fun j _ hj => .inl hj)
    have hK3 : Kept wR.heap.size g w (w2.setCell ⟨c, 1, none⟩ (.int .i64 (n : Int))) := (hO2.kept (fun j hj => .inr hj)).setCell hcR _
    have hT3 : Tabs (w2.setCell ⟨c, 1, none⟩ (.int .i64 (n : Int))) := tabs_only HT.out fun j hj => by
      have hjl := Nat.lt_of_lt_of_le hj (tabs_lt HT.out)
      rw [hgS.block j (by have := hO2.size; omega) (by omega), hO2.block j hjl (by omega)]
    obtain ⟨w3, hw3⟩ : ∃ w3, w3 = w2.setCell ⟨c, 1, none⟩ (.int .i64 (n : Int)) := ⟨_, rfl⟩
    rw [← hw3] at hR3 hC3 hk3 hO3 hK3 hT3
    have p0 := cell_of_one hk3
    rw [hw3] at p0
    have hsz3 := hO3.size
    have hsz4 := hK3.size
    have CT := Lib.hid (batch_Take _ cs g v l k1 w3 hR3 hC hT3 hg (fun wz hO => HSc.out wz (hO3.trans9 hO (fun j _ hj => .inr (by omega)))))
    have HW3 := Lib.hid hw3
    have HC3 := Lib.hid hC3
    have HO3 := Lib.hid hO3
    have HK3 := Lib.hid hK3
    have HQ := Lib.hid (And.intro q1 (And.intro q2 q3))
    obtain ⟨B, hB⟩ : ∃ B, B = batS cs l k1 := ⟨_, rfl⟩
    rw [← hB] at HQ
    rw [show bat (ltE cs) (errS (colsL cs)) l (kindsL cs) k1 = B from hB.symm] at CT
    clear hO2 hC2 hgS hR3 hC3 hk3 hO3 hK3 hT3 q1 q2 q3 hw3 UI HNo HOk HMo hB hR2 hG
    go_wp2_with fail
    rw [← HW3.out]
    refine CT.out.mono ?_
    clear c0 c1 c2 c3 CT
    rintro e w4 ⟨hO4, ⟨hx, tv, ps, rfl, hown, hps, hrt, hR4⟩ | ⟨hx, rfl, hE⟩⟩
    · obtain ⟨ao, tl, cap, htv⟩ := hown.rd.lit12
      subst htv
      have hC4 : Ebox w4 c kd (n : Int) (.slice none 0 0) := hO4.keep HC3.out (by omega)
      obtain ⟨c0, c1, c2⟩ := hC4.cells
      have c3 := hC4.free 2
      have HO4 := Lib.hid hO4
      have HN := Lib.hid hown
      have HRT := Lib.hid hrt
      have HR4 := Lib.hid hR4
      have HX := Lib.hid hx
      have HC4 := Lib.hid hC4
      have hs4 := hO4.size
      clear hO4 hown hrt hR4 hx hC4 p0
      go_wp2
      go_end0
      have hos : Only (fun j => j = c) w4 (w4.setCell ⟨c, 2, none⟩ (.slice ao tl cap)) := (Only.refl (fun j => j = c) w4).setCell (p := ⟨c, 2, none⟩) rfl _
      refine ⟨B.2.1, 0, ?_, ⟨?_, by rw [HQ.out.2.2], by rw [HQ.out.2.2]; exact HX.out.symm, fun _ => ⟨.slice ao tl cap, ps, by rw [HQ.out.1]; exact HC4.out.pairs _, ?_, hps, by rw [HQ.out.2.1]; exact HRT.out⟩⟩, .inl ⟨rfl, rfl, ?_⟩⟩
      · exact (HK3.out.trans (HO4.out.kept (fun j hj => .inr hj))).setCell hcR _
      · exact (HO3.out.trans9 HO4.out (fun j _ hj => .inr (by omega))).setCell (p := ⟨c, 2, none⟩) (.inl rfl) _
      · exact (HN.out.only hos (fun q hq => by omega)).lower (by omega)
      · exact HR4.out.setVar (p := ⟨c, 2, none⟩) (by dsimp only; omega) hv _
    · have HO4 := Lib.hid hO4
      have HE := Lib.hid hE
      have HX := Lib.hid hx
      clear hO4 hE hx p0
      go_wp2
      refine ⟨rfl, B.2.1, B.2.2, HK3.out.trans (HO4.out.kept (fun j hj => .inr hj)), ⟨HO3.out.trans9 HO4.out (fun j _ hj => .inr (by omega)), by rw [HQ.out.2.2], by rw [HQ.out.2.2], fun h => absurd h HX.out⟩, .inr ⟨HX.out, rfl, HE.out⟩⟩
  · have hO2 : Only (fun j => j = g) w w2 := (Only.refl _ w).grown hG rfl
    obtain ⟨q1, q2⟩ := HNo.out hx
    have HE := Lib.hid hE
    have HX := Lib.hid hx
    have HQ1 := Lib.hid q1
    have HQ2 := Lib.hid q2
    have HO2 := Lib.hid hO2
    clear hG hE hx q1 q2 hO2 UI HOk HMo
    go_wp2
    refine ⟨rfl, k1, x1, HO2.out.kept (fun j hj => .inr hj), ⟨HO0.out.trans9 HO2.out (fun j _ hj => by omega), HQ1.out.symm, HQ2.out.symm, fun h => absurd h HX.out⟩, .inr ⟨HX.out, rfl, HE.out⟩⟩

/-- What Read answers. -/
def RdEO (w : World) (cs : List ColB) (kind : Int) (l : List UInt8) (e : Ending) (w' : World) : Prop :=
  Below w.heap.size w w' ∧ ∃ ao n cap ps, e = .returned (.tuple #[.agg #[.int .i64 (entRV cs kind l).1, .int .i64 (entRV cs kind l).2.1, .slice ao n cap], .int .i64 (entRE cs kind l : Nat)]) ∧ NewP w' w.heap.size (.slice ao n cap) ps ∧ PSO ps ∧ psL ps = (entRV cs kind l).2.2
theorem RdEO.no {w w' : World} {cs : List ColB} {kind : Int} {l : List UInt8} {k : Nat} (h : entRE cs kind l = k) (hk : k ≠ 0) (hb : Below w.heap.size w w') :
    RdEO w cs kind l (.returned (.tuple #[.agg #[.int .i64 0, .int .i64 0, .slice none 0 0], .int .i64 (k : Int)])) w' := by
  refine ⟨hb, none, 0, 0, [], ?_, NewP.nil _ _, fun p hp => absurd hp (by simp), ?_⟩
  · unfold entRV; rw [h, if_neg hk]
  · unfold entRV; rw [h, if_neg hk]; rfl

theorem Ebox.reset {w : World} {b : Nat} {k s : Int} {pv : Value} (h : Ebox w b k s pv) (k' s' : Int) (v : Value) : Ebox (((w.setCell ⟨b, 0, none⟩ (.int .i64 k')).setCell ⟨b, 1, none⟩ (.int .i64 s')).setCell ⟨b, 2, none⟩ v) b k' s' v := by
  have := block_setCell (k := 2) (block_setCell (k := 1) (block_setCell (k := 0) h (.int .i64 k')) (.int .i64 s')) v
  unfold Ebox; simpa using this

set_option maxHeartbeats 8000000 in
theorem entry_Read (sv v : Value) (cs : List ColB) (kind : Int) (l : List UInt8) (w : World) (hsv : RdC w sv cs) (h : Rd w v l) (hC : CS cs) (hk : inW kind) (hT : Tabs w) (hF : Frs w) :
    Calls Tryz.prog 13 #[sv, .int .i64 kind, v] w (RdEO w cs kind l) := by
  have hmf : ∀ (fn : Fn) (first cap : Array Value) (w : World), (Instr.makeFunc fn first cap).run Tryz.prog w = .ok (.func fn first cap) w := fun _ _ _ _ => rfl
  obtain ⟨N0, N1, N2, N4⟩ := new2 w (.cells #[sv] 22) (.cells #[.int .i64 0, .int .i64 0, .slice none 0 0] 25)
  obtain ⟨w0, hw0⟩ : ∃ w0, w0 = (w.alloc (.cells #[sv] 22)).alloc (.cells #[.int .i64 0, .int .i64 0, .slice none 0 0] 25) := ⟨_, rfl⟩
  rw [← hw0] at N0 N1 N2 N4
  have htl := tabs_lt hT
  have HB0 := Lib.hid N4
  have HH := Lib.hid h
  have HT := Lib.hid hT
  have HF := Lib.hid hF
  have HSV := Lib.hid hsv
  have SC := Lib.hid (schema_Check sv cs w0 (hsv.later N4 (Nat.le_refl _)) hC (hT.later N4))
  have hE : entRE cs kind l = if errS (colsL cs) ≠ 0 then errS (colsL cs) else if kind ≠ 1 ∧ kind ≠ 2 then 10 else told l (entT cs l).2.1 (entT cs l).2.2 := rfl
  have hV : entRE cs kind l = 0 → entRV cs kind l = (2 - kind, ((entT cs l).1.1 : Int), (entT cs l).1.2) := fun h => by unfold entRV; rw [if_pos h]
  obtain ⟨E, hEe⟩ : ∃ E, E = errS (colsL cs) := ⟨_, rfl⟩
  rw [← hEe] at SC hE
  obtain ⟨cb, hcb⟩ : ∃ cb, cb = w.heap.size := ⟨_, rfl⟩
  rw [← hcb] at N0 N1 N2 htl
  have HCB := Lib.hid hcb
  have HW0 := Lib.hid hw0
  have HR0 := Lib.hid (show Ebox w0 (cb + 1) 0 0 (.slice none 0 0) from N2)
  have HS0 := Lib.hid N1
  have HN0 := Lib.hid N0
  obtain ⟨ao1, tl1, cap1, rfl⟩ := hsv.lit12
  have p0 := cell_of_one N1
  clear hw0 N1 N2 N4 h hT hF hsv hcb hEe N0
  by_cases hE0 : E = 0
  · subst hE0
    rw [if_neg (by simp)] at hE
    by_cases hkd : kind ≠ 1 ∧ kind ≠ 2
    · rw [if_pos hkd] at hE
      have HE := Lib.hid hE
      have KO := Lib.hid (fun wz hF => kindOf_no kind wz hF (by omega))
      clear hE hV hkd hk
      go_enter Tryz.func13, Tryz.ntmps13
      go_wp2_with fail
      rw [← HW0.out, ← HCB.out]
      refine SC.out.mono ?_
      rintro e w1 ⟨rfl, hb⟩
      have HB1 := Lib.hid (HB0.out.trans (hb.mono HB0.out.size))
      have HR1 := Lib.hid (HR0.out.later hb)
      obtain ⟨c0, c1, c2⟩ := HR1.out.cells
      have f0 := HR1.out.free 0
      have f1 := HR1.out.free 1
      have f2 := HR1.out.free 2
      clear hb SC HR0 p0
      go_wp2_with fail
      refine (KO.out w1 (HF.out.later HB1.out)).mono ?_
      rintro e w2 ⟨x, rfl, rfl⟩
      clear KO
      go_wp2
      obtain ⟨w9, hw9⟩ : ∃ w9, w9 = ((w1.setCell ⟨cb + 1, 0, none⟩ (.int .i64 0)).setCell ⟨cb + 1, 1, none⟩ (.int .i64 0)).setCell ⟨cb + 1, 2, none⟩ (.slice none 0 0) := ⟨_, rfl⟩
      rw [← hw9]
      obtain ⟨e0, e1, e2⟩ := (show Ebox w9 (cb + 1) 0 0 (.slice none 0 0) from by rw [hw9]; exact HR1.out.reset 0 0 _).cells
      have HB9 : Below w.heap.size w w9 := by rw [hw9]; exact ((HB1.out.setCell (p := ⟨cb + 1, 0, none⟩) (by rw [← HCB.out]; exact Nat.le_succ _) _).setCell (p := ⟨cb + 1, 1, none⟩) (by rw [← HCB.out]; exact Nat.le_succ _) _).setCell (p := ⟨cb + 1, 2, none⟩) (by rw [← HCB.out]; exact Nat.le_succ _) _
      refine bodyPost_ret (by simp [results, Tryz.results13, go_sem, e0, e1, e2]; try rfl) rfl ?_
      exact RdEO.no HE.out (by decide) HB9
    · rw [if_neg hkd] at hE
      have hk2 : kind = 1 ∨ kind = 2 := by omega
      have KO := Lib.hid (fun wz hF => kindOf_ok kind wz hF hk2)
      obtain ⟨kd, hkd2⟩ : ∃ kd, kd = 2 - kind := ⟨_, rfl⟩
      obtain ⟨R, hRR⟩ : ∃ R, R = entT cs l := ⟨_, rfl⟩
      rw [← hkd2] at KO hV
      rw [← hRR] at hE hV
      have HE := Lib.hid hE
      have HV := Lib.hid hV
      have HC := Lib.hid hC
      clear hE hV hkd hk hk2 hkd2 hC
      go_enter Tryz.func13, Tryz.ntmps13
      go_wp2_with fail
      rw [← HW0.out, ← HCB.out]
      refine SC.out.mono ?_
      rintro e w1 ⟨rfl, hb⟩
      have HB1 := Lib.hid (HB0.out.trans (hb.mono HB0.out.size))
      have HR1 := Lib.hid (HR0.out.later hb)
      have HS1 := Lib.hid ((hb.block cb (Array.getElem?_eq_some_iff.1 HS0.out).1).trans HS0.out)
      have HN1 := Lib.hid (show cb + 2 ≤ w1.heap.size from by have := hb.size; have := HN0.out; omega)
      clear hb SC HR0 p0
      go_wp2_with fail
      refine (KO.out w1 (HF.out.later HB1.out)).mono ?_
      rintro e w9 ⟨rfl, rfl⟩
      obtain ⟨M1, M2⟩ := new_one12 w1 (.cells #[.int .i64 kd, .int .i64 0, .slice none 0 0] 25)
      obtain ⟨w2, hw2⟩ : ∃ w2, w2 = w1.alloc (.cells #[.int .i64 kd, .int .i64 0, .slice none 0 0] 25) := ⟨_, rfl⟩
      have M0 : w2.heap.size = w1.heap.size + 1 := by rw [hw2]; simp
      rw [← hw2] at M1 M2
      obtain ⟨c, hc⟩ : ∃ c, c = w1.heap.size := ⟨_, rfl⟩
      rw [← hc] at M0 M1
      have hn1 := HN1.out
      rw [← hc] at hn1
      have hws : w.heap.size ≤ cb := by rw [HCB.out]; exact Nat.le_refl _
      have HE2 : Ebox w2 c kd 0 (.slice none 0 0) := M1
      have HB2 := Lib.hid (HB1.out.trans (M2.mono HB1.out.size))
      have HR2 := Lib.hid (HR1.out.later M2)
      have hS2 := (M2.block cb (Array.getElem?_eq_some_iff.1 HS1.out).1).trans HS1.out
      have hrd2 := HH.out.later HB2.out (Nat.le_refl _)
      have hsv2 := HSV.out.later HB2.out (Nat.le_refl _)
      have hT2 := HT.out.later HB2.out
      have hvb := fun i (hi : i < l.length) => HH.out.block hi
      have hrun := reader_RunK 37 enters_read12 #[.pointer (some ⟨c, 0, none⟩), .pointer (some ⟨cb, 0, none⟩)] v l w2 hrd2 (ReadE12 w2 c kd R) (fun g k x a b hp hs hO => by
        obtain ⟨h1, h2, h3, h4⟩ := hp
        refine ⟨h1.trans9 hO (fun j _ hj => .inr (by omega)), h2, h3, fun hx => ?_⟩
        obtain ⟨tv, ps, q1, q2, q3, q4⟩ := h4 hx
        exact ⟨tv, ps, hO.keep q1 (by omega), q2.only hO (fun q hq => by omega), q3, q4⟩) (fun g w3 h1 h2 h3 hb hR => by
        have := entry_Read1 _ cs R w2 g c cb kd v l w3 hRR hR (HE2.later hb) ((hb.block cb (by omega)).trans hS2) hsv2 HC.out (hT2.later hb) (by omega) (by omega) (by omega) (by omega) (by omega) h1 h2 hb (fun i hi => by have := hvb i hi; omega) (fun wz hO => hsv2.only9 HSV.out (B := c) (by omega) hO (fun q hq => by omega))
        exact this)
      have HRUN := Lib.hid hrun
      have HW2 := Lib.hid hw2
      have HCc := Lib.hid hc
      have HM0 := Lib.hid M0
      have HH1 := Lib.hid (And.intro hn1 hws)
      clear hrun hw2 hc M0 M1 M2 hn1 hws HE2 hS2 hrd2 hsv2 hT2 hvb KO HR1 HS1 HB1 HN1
      go_wp2_with fail
      rw [← HW2.out, ← HCc.out]
      refine HRUN.out.mono ?_
      rintro e w3 ⟨g, k, x, hk, hg, ⟨hO, h2, h3, hp⟩, hsh, rfl⟩
      have HB3 := Lib.hid (show Below w.heap.size w w3 from HB2.out.trans (hO.toBelow (fun j hj => by have := HH1.out; have := HM0.out; omega) (by have := HH1.out; have := HM0.out; omega)))
      have HR3 := Lib.hid (show Ebox w3 (cb + 1) 0 0 (.slice none 0 0) from hO.keep HR2.out (by have := HH1.out; have := HM0.out; omega))
      have HE3 := Lib.hid (show entRE cs kind l = told l k x from by rw [HE.out, h2, h3])
      obtain ⟨c0, c1, c2⟩ := HR3.out.cells
      have f0 := HR3.out.free 0
      have f1 := HR3.out.free 1
      have f2 := HR3.out.free 2
      obtain ⟨y, hy⟩ : ∃ y, y = told l k x := ⟨_, rfl⟩
      rw [← hy] at HE3 ⊢
      by_cases hy0 : y = 0
      · subst hy0
        have hx : x = 0 := by
          apply Decidable.of_not_not
          intro h9
          unfold told at hy
          rw [if_neg h9] at hy
          exact h9 hy.symm
        subst hx
        obtain ⟨tv, ps, q1, q2, q3, q4⟩ := hp rfl
        obtain ⟨ao, tl, cap, htv⟩ := q2.rd.lit12
        subst htv
        obtain ⟨b0, b1, b2⟩ := q1.cells
        have HN := Lib.hid q2
        have HPs := Lib.hid q3
        have HQ := Lib.hid q4
        obtain ⟨sq, hsq⟩ : ∃ sq : Int, sq = (R.1.1 : Int) := ⟨_, rfl⟩
        rw [← hsq] at b1
        have HSq := Lib.hid hsq
        have hlt := HR3.out.lt
        clear hO h2 h3 hp hsh q1 q2 q3 q4 hy hsq hRR HRUN HE
        go_wp2
        obtain ⟨w9, hw9⟩ : ∃ w9, w9 = ((w3.setCell ⟨cb + 1, 0, none⟩ (.int .i64 kd)).setCell ⟨cb + 1, 1, none⟩ (.int .i64 sq)).setCell ⟨cb + 1, 2, none⟩ (.slice ao tl cap) := ⟨_, rfl⟩
        rw [← hw9]
        obtain ⟨e0, e1, e2⟩ := (show Ebox w9 (cb + 1) kd sq (.slice ao tl cap) from by rw [hw9]; exact HR3.out.reset kd sq _).cells
        have HO9 : Only (fun j => j = cb + 1) w3 w9 := by rw [hw9]; exact (((Only.refl (fun j => j = cb + 1) w3).setCell (p := ⟨cb + 1, 0, none⟩) rfl _).setCell (p := ⟨cb + 1, 1, none⟩) rfl _).setCell (p := ⟨cb + 1, 2, none⟩) rfl _
        have HB9 : Below w.heap.size w w9 := HB3.out.trans (HO9.toBelow (fun j hj => by have := HH1.out; omega) HB3.out.size)
        refine bodyPost_ret (by simp [results, Tryz.results13, go_sem, e0, e1, e2]; try rfl) rfl ?_
        refine ⟨HB9, ao, tl, cap, ps, ?_, (HN.out.only HO9 (fun q hq => by have := HH1.out; have := HM0.out; omega)).lower (by have := HH1.out; have := HM0.out; omega), HPs.out, ?_⟩
        · rw [HV.out HE3.out, HE3.out, HSq.out]; rfl
        · rw [HV.out HE3.out, HQ.out]
      · have q : ((y : Int) != 0) = true := by rw [bne_iff_ne]; omega
        have HY := Lib.hid hy0
        clear hO h2 h3 hp hsh hy hRR HRUN HE hy0
        go_wp2
        obtain ⟨w9, hw9⟩ : ∃ w9, w9 = ((w3.setCell ⟨cb + 1, 0, none⟩ (.int .i64 0)).setCell ⟨cb + 1, 1, none⟩ (.int .i64 0)).setCell ⟨cb + 1, 2, none⟩ (.slice none 0 0) := ⟨_, rfl⟩
        rw [← hw9]
        obtain ⟨e0, e1, e2⟩ := (show Ebox w9 (cb + 1) 0 0 (.slice none 0 0) from by rw [hw9]; exact HR3.out.reset 0 0 _).cells
        have HO9 : Only (fun j => j = cb + 1) w3 w9 := by rw [hw9]; exact (((Only.refl (fun j => j = cb + 1) w3).setCell (p := ⟨cb + 1, 0, none⟩) rfl _).setCell (p := ⟨cb + 1, 1, none⟩) rfl _).setCell (p := ⟨cb + 1, 2, none⟩) rfl _
        have HB9 : Below w.heap.size w w9 := HB3.out.trans (HO9.toBelow (fun j hj => by have := HH1.out; omega) HB3.out.size)
        refine bodyPost_ret (by simp [results, Tryz.results13, go_sem, e0, e1, e2]; try rfl) rfl ?_
        exact RdEO.no HE3.out HY.out HB9
  · rw [if_pos hE0] at hE
    have HE := Lib.hid hE
    have HE0 := Lib.hid hE0
    have q : ((E : Int) != 0) = true := by rw [bne_iff_ne]; omega
    clear hE hV hk hE0
    go_enter Tryz.func13, Tryz.ntmps13
    go_wp2_with fail
    rw [← HW0.out, ← HCB.out]
    refine SC.out.mono ?_
    rintro e w1 ⟨rfl, hb⟩
    have HB1 := Lib.hid (HB0.out.trans (hb.mono HB0.out.size))
    have HR1 := Lib.hid (HR0.out.later hb)
    obtain ⟨c0, c1, c2⟩ := HR1.out.cells
    have f0 := HR1.out.free 0
    have f1 := HR1.out.free 1
    have f2 := HR1.out.free 2
    clear hb SC HR0
    go_wp2
    obtain ⟨w9, hw9⟩ : ∃ w9, w9 = ((w1.setCell ⟨cb + 1, 0, none⟩ (.int .i64 0)).setCell ⟨cb + 1, 1, none⟩ (.int .i64 0)).setCell ⟨cb + 1, 2, none⟩ (.slice none 0 0) := ⟨_, rfl⟩
    rw [← hw9]
    obtain ⟨e0, e1, e2⟩ := (show Ebox w9 (cb + 1) 0 0 (.slice none 0 0) from by rw [hw9]; exact HR1.out.reset 0 0 _).cells
    have HB9 : Below w.heap.size w w9 := by rw [hw9]; exact ((HB1.out.setCell (p := ⟨cb + 1, 0, none⟩) (by rw [← HCB.out]; exact Nat.le_succ _) _).setCell (p := ⟨cb + 1, 1, none⟩) (by rw [← HCB.out]; exact Nat.le_succ _) _).setCell (p := ⟨cb + 1, 2, none⟩) (by rw [← HCB.out]; exact Nat.le_succ _) _
    refine bodyPost_ret (by simp [results, Tryz.results13, go_sem, e0, e1, e2]; try rfl) rfl ?_
    exact RdEO.no HE.out HE0.out HB9

end Go.Proofs.YteiphdcgffapbaaGreatDoor
