/-
  The document's own answers for layer 12 (deckleref12): Apply.
-/
import Derived.Test.YteiphdcgffapbaaGreatDoorGEntL
import Derived.Test.YteiphdcgffapbaaGreatDoorEntRef
import Derived.Test.YteiphdcgffapbaaGreatDoorGZRefS
set_option linter.unusedVariables false
set_option linter.unusedSimpArgs false
set_option maxRecDepth 1000000
namespace Go.Proofs.YteiphdcgffapbaaGreatDoor
open Go.RowKit Go.Shelf

set_option maxHeartbeats 8000000 in
theorem ref_Apply12 (sv vv ev : Value) (cs : List ColB) (seq : Int) (view : List PairB) (x : EntB) (w : World) (hR : RdC w sv cs) (hV : RdP w vv view) (hE : RdN w ev x) (hC : CS cs) (hVO : PSO view) (hX : EnO x) (hq : inW seq) :
    Calls Tryz.prog 17 #[sv, .int .i64 seq, vv, ev] w (ApO w cs seq view x) := by
  obtain ⟨kind, s2, ps⟩ := x
  obtain ⟨pv, rfl, hP⟩ := hE
  dsimp only at hP
  obtain ⟨ao, no, co, rfl⟩ := hP.lit12
  obtain ⟨av, nv, cv, rfl⟩ := hV.lit12
  have VC := Lib.hid (fun wz (hz : Below w.heap.size w wz) => ref_Check08 sv (.slice av nv cv) cs view wz (hR.later hz (Nat.le_refl _)) (hV.later hz (Nat.le_refl _)) hC hVO)
  have EC := Lib.hid (fun wz (hz : Below w.heap.size w wz) => ref_Check12 sv _ cs (kind, s2, ps) wz (hR.later hz (Nat.le_refl _)) ⟨_, rfl, hP.later hz (Nat.le_refl _)⟩ hC hX)
  have SM := Lib.hid (fun wz (hz : Below w.heap.size w wz) => ref_Same08 (.slice av nv cv) (.slice ao no co) view ps wz (hV.later hz (Nat.le_refl _)) (hP.later hz (Nat.le_refl _)))
  have SU := Lib.hid (fun wz (hz : Below w.heap.size w wz) => ref_Sum08 sv (.slice av nv cv) (.slice ao no co) cs view ps wz (hR.later hz (Nat.le_refl _)) (hV.later hz (Nat.le_refl _)) (hP.later hz (Nat.le_refl _)) hC hVO hX.2.2)
  have RV := Lib.hid (fun wz (hz : Below w.heap.size w wz) => hV.later hz (Nat.le_refl _))
  obtain ⟨N1, N2⟩ := new_one12 w (.cells #[.int .i64 kind, .int .i64 s2, .slice ao no co] 25)
  obtain ⟨w0, hw0⟩ : ∃ w0, w0 = w.alloc (.cells #[.int .i64 kind, .int .i64 s2, .slice ao no co] 25) := ⟨_, rfl⟩
  rw [← hw0] at N1 N2
  obtain ⟨g, hg⟩ : ∃ g, g = w.heap.size := ⟨_, rfl⟩
  rw [← hg] at N1
  have HE0 := Lib.hid (show Ebox w0 g kind s2 (.slice ao no co) from N1)
  have HB0 := Lib.hid N2
  have HW0 := Lib.hid hw0
  have HG := Lib.hid hg
  have hA : apE cs seq view (kind, s2, ps) = if chkZ cs view ≠ 0 then chkZ cs view else if seq < 0 ∨ 281474976710656 < seq then 3 else if entE cs (kind, s2, ps) ≠ 0 then entE cs (kind, s2, ps)
      else if (kind = 0 ∧ s2 ≠ seq + 1) ∨ (kind = 1 ∧ s2 ≠ seq) then 14 else if kind = 1 then (if ps = view then 0 else 15) else sumE cs view ps := rfl
  have hVw : apE cs seq view (kind, s2, ps) = 0 → apV cs seq view (kind, s2, ps) = if kind = 1 then view else sumO cs view ps := fun h => by unfold apV; rw [if_pos h]
  have hZs : chkZ cs view = 0 → Zs cs view := fun h => ⟨hVO, h⟩
  have hez := entE_zero (cs := cs) (x := (kind, s2, ps))
  obtain ⟨E1, hE1⟩ : ∃ E1, E1 = chkZ cs view := ⟨_, rfl⟩
  obtain ⟨E2, hE2⟩ : ∃ E2, E2 = entE cs (kind, s2, ps) := ⟨_, rfl⟩
  rw [← hE1] at VC hA hZs
  rw [← hE2] at EC hA hez
  clear hR hV hP hC hVO hX N1 N2 hw0 hg hE1 hE2
  by_cases h1 : E1 = 0
  · subst h1
    rw [if_neg (by simp)] at hA
    clear hZs
    by_cases h2 : seq < 0 ∨ 281474976710656 < seq
    · rw [if_pos h2] at hA
      have HA := Lib.hid hA
      have hd : (decide (seq < 0) = true) ∨ (decide (seq < 0) = false ∧ decide (seq > 281474976710656) = true) := by
        by_cases h : seq < 0
        · exact .inl (decide_eq_true h)
        · exact .inr ⟨decide_eq_false h, decide_eq_true (by omega)⟩
      clear hA hVw h2 EC SM SU RV hez hq
      rcases hd with d5 | ⟨d5, d6⟩
      all_goals (
        go_enter Tryz.func17, Tryz.ntmps17
        go_wp2_with fail
        rw [← HW0.out, ← HG.out]
        refine (VC.out w0 HB0.out).mono ?_
        rintro e w1 ⟨rfl, hb⟩
        replace HB0 := Lib.hid (HB0.out.trans (hb.mono HB0.out.size))
        replace HE0 := Lib.hid (HE0.out.later hb)
        clear hb VC
        go_wp2
        go_ret3
        exact ApO.no HA.out (by decide) rfl HB0.out)
    · rw [if_neg h2] at hA
      have h2' : 0 ≤ seq ∧ seq ≤ 281474976710656 := by omega
      have d5 : decide (seq < 0) = false := decide_eq_false (by omega)
      have d6 : decide (seq > 281474976710656) = false := decide_eq_false (by omega)
      clear h2
      by_cases h3 : E2 = 0
      · subst h3
        rw [if_neg (by simp)] at hA
        obtain ⟨_, hk, hs, hck⟩ := hez.1 rfl
        dsimp only at hk hs hck
        clear hez
        by_cases h4 : (kind = 0 ∧ s2 ≠ seq + 1) ∨ (kind = 1 ∧ s2 ≠ seq)
        · rw [if_pos h4] at hA
          have HA := Lib.hid hA
          have h2q := h2'
          clear hA hVw SM SU RV hck hk hq hs h2'
          rcases h4 with ⟨rfl, h4⟩ | ⟨rfl, h4⟩
          · have d1 : (s2 != seq + 1) = true := by rw [bne_iff_ne]; exact h4
            clear h4
            go_enter Tryz.func17, Tryz.ntmps17
            go_wp2_with fail
            rw [← HW0.out, ← HG.out]
            refine (VC.out w0 HB0.out).mono ?_
            rintro e w1 ⟨rfl, hb⟩
            replace HB0 := Lib.hid (HB0.out.trans (hb.mono HB0.out.size))
            replace HE0 := Lib.hid (HE0.out.later hb)
            clear hb VC
            obtain ⟨c0, c1, c2⟩ := HE0.out.cells
            go_wp2_with fail
            refine (EC.out w1 HB0.out).mono ?_
            rintro e w3 ⟨rfl, hb⟩
            replace HB0 := Lib.hid (HB0.out.trans (hb.mono HB0.out.size))
            replace HE0 := Lib.hid (HE0.out.later hb)
            clear hb EC c0 c1 c2
            obtain ⟨c0, c1, c2⟩ := HE0.out.cells
            go_wp2
            go_ret3
            exact ApO.no HA.out (by decide) rfl HB0.out
          · have d1 : (s2 != seq) = true := by rw [bne_iff_ne]; exact h4
            clear h4
            go_enter Tryz.func17, Tryz.ntmps17
            go_wp2_with fail
            rw [← HW0.out, ← HG.out]
            refine (VC.out w0 HB0.out).mono ?_
            rintro e w1 ⟨rfl, hb⟩
            replace HB0 := Lib.hid (HB0.out.trans (hb.mono HB0.out.size))
            replace HE0 := Lib.hid (HE0.out.later hb)
            clear hb VC
            obtain ⟨c0, c1, c2⟩ := HE0.out.cells
            go_wp2_with fail
            refine (EC.out w1 HB0.out).mono ?_
            rintro e w3 ⟨rfl, hb⟩
            replace HB0 := Lib.hid (HB0.out.trans (hb.mono HB0.out.size))
            replace HE0 := Lib.hid (HE0.out.later hb)
            clear hb EC c0 c1 c2
            obtain ⟨c0, c1, c2⟩ := HE0.out.cells
            go_wp2
            go_ret3
            exact ApO.no HA.out (by decide) rfl HB0.out
        · rw [if_neg h4] at hA
          have h0 : (0 : Int) ≠ 1 := by decide
          rcases hk with rfl | rfl
          · rw [if_neg h0] at hA
            rw [if_neg h0] at hVw
            obtain rfl : s2 = seq + 1 := by omega
            have d1 : ((seq + 1 : Int) != seq + 1) = false := by simp
            obtain ⟨E4, hE4⟩ : ∃ E4, E4 = sumE cs view ps := ⟨_, rfl⟩
            rw [← hE4] at hA SU
            have HA := Lib.hid hA
            have HV := Lib.hid hVw
            clear hA hVw h4 h0 SM RV hck hq hs hE4
            go_enter Tryz.func17, Tryz.ntmps17
            go_wp2_with fail
            rw [← HW0.out, ← HG.out]
            refine (VC.out w0 HB0.out).mono ?_
            rintro e w1 ⟨rfl, hb⟩
            replace HB0 := Lib.hid (HB0.out.trans (hb.mono HB0.out.size))
            replace HE0 := Lib.hid (HE0.out.later hb)
            clear hb VC
            obtain ⟨c0, c1, c2⟩ := HE0.out.cells
            go_wp2_with fail
            refine (EC.out w1 HB0.out).mono ?_
            rintro e w3 ⟨rfl, hb⟩
            replace HB0 := Lib.hid (HB0.out.trans (hb.mono HB0.out.size))
            replace HE0 := Lib.hid (HE0.out.later hb)
            clear hb EC c0 c1 c2
            obtain ⟨c0, c1, c2⟩ := HE0.out.cells
            go_wp2_with fail
            refine (SU.out w3 HB0.out).mono ?_
            rintro e w5 ⟨rv, rfl, hr, hb⟩
            have HB5 := Lib.hid (HB0.out.trans (hb.mono HB0.out.size))
            have HR5 := Lib.hid hr
            have hr9 := hr.lit12
            clear hb SU hr c0 c1 c2
            obtain ⟨ar, nr, cr, rfl⟩ := hr9
            by_cases h9 : E4 = 0
            · subst h9
              go_wp2
              go_ret3
              exact ApO.yes HA.out rfl (HV.out HA.out) HR5.out HB5.out
            · have q9 : ((E4 : Int) != 0) = true := by rw [bne_iff_ne]; omega
              have H9 := Lib.hid h9
              clear h9
              go_wp2
              go_ret3
              exact ApO.no HA.out H9.out rfl HB5.out
          · rw [if_pos rfl] at hA
            rw [if_pos rfl] at hVw
            obtain rfl : s2 = seq := by omega
            have d1 : ((s2 : Int) != s2) = false := by simp
            clear h4 h0
            by_cases h5 : ps = view
            · rw [if_pos h5] at hA
              have HA := Lib.hid hA
              have HV := Lib.hid hVw
              rw [decide_eq_true h5.symm] at SM
              clear hA hVw SU hck hq hs h5
              go_enter Tryz.func17, Tryz.ntmps17
              go_wp2_with fail
              rw [← HW0.out, ← HG.out]
              refine (VC.out w0 HB0.out).mono ?_
              rintro e w1 ⟨rfl, hb⟩
              replace HB0 := Lib.hid (HB0.out.trans (hb.mono HB0.out.size))
              replace HE0 := Lib.hid (HE0.out.later hb)
              clear hb VC
              obtain ⟨c0, c1, c2⟩ := HE0.out.cells
              go_wp2_with fail
              refine (EC.out w1 HB0.out).mono ?_
              rintro e w3 ⟨rfl, hb⟩
              replace HB0 := Lib.hid (HB0.out.trans (hb.mono HB0.out.size))
              replace HE0 := Lib.hid (HE0.out.later hb)
              clear hb EC c0 c1 c2
              obtain ⟨c0, c1, c2⟩ := HE0.out.cells
              go_wp2_with fail
              refine (SM.out w3 HB0.out).mono ?_
              rintro e w5 ⟨rfl, hb⟩
              have HB5 := Lib.hid (HB0.out.trans (hb.mono HB0.out.size))
              clear hb SM c0 c1 c2
              go_wp2
              go_ret3
              exact ApO.yes HA.out rfl (HV.out HA.out) (RV.out w5 HB5.out) HB5.out
            · rw [if_neg h5] at hA
              have HA := Lib.hid hA
              rw [decide_eq_false (fun e => h5 e.symm)] at SM
              clear hA hVw SU RV hck hq hs h5
              go_enter Tryz.func17, Tryz.ntmps17
              go_wp2_with fail
              rw [← HW0.out, ← HG.out]
              refine (VC.out w0 HB0.out).mono ?_
              rintro e w1 ⟨rfl, hb⟩
              replace HB0 := Lib.hid (HB0.out.trans (hb.mono HB0.out.size))
              replace HE0 := Lib.hid (HE0.out.later hb)
              clear hb VC
              obtain ⟨c0, c1, c2⟩ := HE0.out.cells
              go_wp2_with fail
              refine (EC.out w1 HB0.out).mono ?_
              rintro e w3 ⟨rfl, hb⟩
              replace HB0 := Lib.hid (HB0.out.trans (hb.mono HB0.out.size))
              replace HE0 := Lib.hid (HE0.out.later hb)
              clear hb EC c0 c1 c2
              obtain ⟨c0, c1, c2⟩ := HE0.out.cells
              go_wp2_with fail
              refine (SM.out w3 HB0.out).mono ?_
              rintro e w5 ⟨rfl, hb⟩
              have HB5 := Lib.hid (HB0.out.trans (hb.mono HB0.out.size))
              clear hb SM c0 c1 c2
              go_wp2
              go_ret3
              exact ApO.no HA.out (by decide) rfl HB5.out
      · rw [if_pos h3] at hA
        have HA := Lib.hid hA
        have q3 : ((E2 : Int) != 0) = true := by rw [bne_iff_ne]; omega
        have H3 := Lib.hid h3
        clear hA hVw h3 SM SU RV hez hq
        go_enter Tryz.func17, Tryz.ntmps17
        go_wp2_with fail
        rw [← HW0.out, ← HG.out]
        refine (VC.out w0 HB0.out).mono ?_
        rintro e w1 ⟨rfl, hb⟩
        replace HB0 := Lib.hid (HB0.out.trans (hb.mono HB0.out.size))
        replace HE0 := Lib.hid (HE0.out.later hb)
        clear hb VC
        obtain ⟨c0, c1, c2⟩ := HE0.out.cells
        go_wp2_with fail
        refine (EC.out w1 HB0.out).mono ?_
        rintro e w3 ⟨rfl, hb⟩
        replace HB0 := Lib.hid (HB0.out.trans (hb.mono HB0.out.size))
        replace HE0 := Lib.hid (HE0.out.later hb)
        clear hb EC c0 c1 c2
        go_wp2
        go_ret3
        exact ApO.no HA.out H3.out rfl HB0.out
  · rw [if_pos h1] at hA
    have HA := Lib.hid hA
    have q1 : ((E1 : Int) != 0) = true := by rw [bne_iff_ne]; omega
    have H1 := Lib.hid h1
    clear hA hVw h1 hZs EC SM SU RV hez hq
    go_enter Tryz.func17, Tryz.ntmps17
    go_wp2_with fail
    rw [← HW0.out, ← HG.out]
    refine (VC.out w0 HB0.out).mono ?_
    rintro e w1 ⟨rfl, hb⟩
    replace HB0 := Lib.hid (HB0.out.trans (hb.mono HB0.out.size))
    replace HE0 := Lib.hid (HE0.out.later hb)
    clear hb VC
    go_wp2
    go_ret3
    exact ApO.no HA.out H1.out rfl HB0.out

end Go.Proofs.YteiphdcgffapbaaGreatDoor
