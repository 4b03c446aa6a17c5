/-
  entry.Apply: the landed code.
-/
import Derived.Test.YteiphdcgffapbaaGreatDoorEntry
import Derived.Test.YteiphdcgffapbaaGreatDoorGZProgA
import Derived.Test.YteiphdcgffapbaaGreatDoorZSameW
import Derived.Deep.QuietTactic
import Derived.BigQuiet
import Derived.Test.YteiphdcgffapbaaGreatDoorGBaseB
import Derived.Test.YteiphdcgffapbaaGreatDoorGZDefs
set_option linter.unusedVariables false
set_option linter.unusedSimpArgs false
set_option maxRecDepth 1000000
namespace Go.Proofs.YteiphdcgffapbaaGreatDoor
open Go.RowKit Go.Shelf

/-- What Apply answers. -/
def ApO (w : World) (cs : List ColB) (seq : Int) (view : List PairB) (x : EntB) (e : Ending) (w' : World) : Prop :=
  ∃ v, e = .returned (.tuple #[.int .i64 (apN cs seq view x), v, .int .i64 (apE cs seq view x : Nat)]) ∧ RdP w' v (apV cs seq view x) ∧ Below w.heap.size w w'
theorem ApO.no {w w' : World} {cs : List ColB} {seq : Int} {view : List PairB} {x : EntB} {k : Nat} {y : Int} (h : apE cs seq view x = k) (hk : k ≠ 0) (hy : y = (k : Int)) (hb : Below w.heap.size w w') :
    ApO w cs seq view x (.returned (.tuple #[.int .i64 0, .slice none 0 0, .int .i64 y])) w' := by
  subst hy
  refine ⟨.slice none 0 0, ?_, ?_, hb⟩
  · unfold apN; rw [h, if_neg hk]
  · unfold apV; rw [h, if_neg hk]; exact RdP.nil w'
theorem ApO.yes {w w' : World} {cs : List ColB} {seq : Int} {view qs : List PairB} {x : EntB} {v : Value} {n : Int} (h : apE cs seq view x = 0) (hn : x.2.1 = n) (hv : apV cs seq view x = qs) (hr : RdP w' v qs) (hb : Below w.heap.size w w') :
    ApO w cs seq view x (.returned (.tuple #[.int .i64 n, v, .int .i64 0])) w' := by
  subst hn hv
  refine ⟨v, ?_, hr, hb⟩
  unfold apN; rw [h, if_pos rfl]; rfl

set_option maxHeartbeats 8000000 in
theorem entry_Apply (sv vv ev : Value) (cs : List ColB) (seq : Int) (view : List PairB) (x : EntB) (w : World) (hR : RdC w sv cs) (hV : RdP w vv view) (hE : RdN w ev x) (hC : CS cs) (hVO : PSO view) (hX : EnO x) (hq : inW seq) (hT : Tabs w) :
    Calls Tryz.prog 16 #[sv, .int .i64 seq, vv, ev] w (ApO w cs seq view x) := by
  obtain ⟨kind, s2, ps⟩ := x
  obtain ⟨pv, rfl, hP⟩ := hE
  dsimp only at hP
  obtain ⟨ao, no, co, rfl⟩ := hP.lit12
  obtain ⟨av, nv, cv, rfl⟩ := hV.lit12
  have VC := Lib.hid (fun wz (hz : Below w.heap.size w wz) => zset_Check sv (.slice av nv cv) cs view wz (hR.later hz (Nat.le_refl _)) (hV.later hz (Nat.le_refl _)) hC hVO (hT.later hz))
  have EC := Lib.hid (fun wz (hz : Below w.heap.size w wz) => entry_Check sv _ cs (kind, s2, ps) wz (hR.later hz (Nat.le_refl _)) ⟨_, rfl, hP.later hz (Nat.le_refl _)⟩ hC hX (hT.later hz))
  have SM := Lib.hid (fun wz (hz : Below w.heap.size w wz) => zset_Same (.slice ao no co) (.slice av nv cv) ps view wz (hP.later hz (Nat.le_refl _)) (hV.later hz (Nat.le_refl _)))
  have SU := Lib.hid (fun wz (hz : Below w.heap.size w wz) => zset_Sum sv (.slice av nv cv) (.slice ao no co) cs view ps wz (hR.later hz (Nat.le_refl _)) (hV.later hz (Nat.le_refl _)) (hP.later hz (Nat.le_refl _)) hC hVO hX.2.2 (hT.later hz))
  have S0 := Lib.hid (fun wz (hz : Below w.heap.size w wz) => zset_Sum sv (.slice av nv cv) (.slice none 0 0) cs view [] wz (hR.later hz (Nat.le_refl _)) (hV.later hz (Nat.le_refl _)) (RdP.nil _) hC hVO (fun p hp => absurd hp (by simp)) (hT.later hz))
  obtain ⟨N1, N2⟩ := new_one12 w (.cells #[.int .i64 kind, .int .i64 s2, .slice ao no co] 25)
  obtain ⟨w0, hw0⟩ : ∃ w0, w0 = w.alloc (.cells #[.int .i64 kind, .int .i64 s2, .slice ao no co] 25) := ⟨_, rfl⟩
  rw [← hw0] at N1 N2
  obtain ⟨g, hg⟩ : ∃ g, g = w.heap.size := ⟨_, rfl⟩
  rw [← hg] at N1
  have HE0 := Lib.hid (show Ebox w0 g kind s2 (.slice ao no co) from N1)
  have HB0 := Lib.hid N2
  have HW0 := Lib.hid hw0
  have HG := Lib.hid hg
  have hA : apE cs seq view (kind, s2, ps) = if chkZ cs view ≠ 0 then chkZ cs view else if seq < 0 ∨ 281474976710656 < seq then 3 else if entE cs (kind, s2, ps) ≠ 0 then entE cs (kind, s2, ps)
      else if (kind = 0 ∧ s2 ≠ seq + 1) ∨ (kind = 1 ∧ s2 ≠ seq) then 14 else if kind = 1 then (if ps = view then 0 else 15) else sumE cs view ps := rfl
  have hVw : apE cs seq view (kind, s2, ps) = 0 → apV cs seq view (kind, s2, ps) = if kind = 1 then view else sumO cs view ps := fun h => by unfold apV; rw [if_pos h]
  have IN := Lib.hid (fun wz => entry_isNumber seq wz)
  have hZs : chkZ cs view = 0 → Zs cs view := fun h => ⟨hVO, h⟩
  have hez := entE_zero (cs := cs) (x := (kind, s2, ps))
  obtain ⟨E1, hE1⟩ : ∃ E1, E1 = chkZ cs view := ⟨_, rfl⟩
  obtain ⟨E2, hE2⟩ : ∃ E2, E2 = entE cs (kind, s2, ps) := ⟨_, rfl⟩
  rw [← hE1] at VC hA hZs
  rw [← hE2] at EC hA hez
  clear hR hV hP hC hVO hX hT N1 N2 hw0 hg hE1 hE2
  by_cases h1 : E1 = 0
  · subst h1
    have hZ := Lib.hid (hZs rfl)
    rw [if_neg (by simp)] at hA
    clear hZs
    by_cases h2 : seq < 0 ∨ 281474976710656 < seq
    · rw [if_pos h2] at hA
      rw [decide_eq_true h2] at IN
      have HA := Lib.hid hA
      clear hA hVw h2 EC SM SU S0 hez hq
      go_enter Tryz.func16, Tryz.ntmps16
      go_wp2_with fail
      rw [← HW0.out, ← HG.out]
      refine (VC.out w0 HB0.out).mono ?_
      rintro e w1 ⟨rfl, hb⟩
      replace HB0 := Lib.hid (HB0.out.trans (hb.mono HB0.out.size))
      replace HE0 := Lib.hid (HE0.out.later hb)
      clear hb VC
      go_wp2_with fail
      refine (IN.out w1).mono ?_
      rintro e w2 ⟨rfl, rfl⟩
      clear IN
      go_wp2
      go_ret3
      exact ApO.no HA.out (by decide) rfl HB0.out
    · rw [if_neg h2] at hA
      rw [decide_eq_false h2] at IN
      have h2' : 0 ≤ seq ∧ seq ≤ 281474976710656 := by omega
      clear h2
      by_cases h3 : E2 = 0
      · subst h3
        rw [if_neg (by simp)] at hA
        obtain ⟨_, hk, hs, hck⟩ := hez.1 rfl
        dsimp only at hk hs hck
        clear hez
        have NX := Lib.hid (fun wz => entry_next seq kind h2' wz)
        by_cases h4 : (kind = 0 ∧ s2 ≠ seq + 1) ∨ (kind = 1 ∧ s2 ≠ seq)
        · rw [if_pos h4] at hA
          have HA := Lib.hid hA
          have hd : ∃ y : Int, (if kind = 1 then seq else seq + 1) = y ∧ (s2 != y) = true := by
            refine ⟨_, rfl, ?_⟩
            rw [bne_iff_ne]
            rcases h4 with ⟨rfl, h⟩ | ⟨rfl, h⟩
            · exact h
            · exact h
          obtain ⟨y, hy, d1⟩ := hd
          rw [hy] at NX
          clear hA hVw h4 hy SM SU S0 hck hk hq hs h2'
          go_enter Tryz.func16, Tryz.ntmps16
          go_wp2_with fail
          rw [← HW0.out, ← HG.out]
          refine (VC.out w0 HB0.out).mono ?_
          rintro e w1 ⟨rfl, hb⟩
          replace HB0 := Lib.hid (HB0.out.trans (hb.mono HB0.out.size))
          replace HE0 := Lib.hid (HE0.out.later hb)
          clear hb VC
          go_wp2_with fail
          refine (IN.out w1).mono ?_
          rintro e w2 ⟨rfl, rfl⟩
          clear IN
          obtain ⟨c0, c1, c2⟩ := HE0.out.cells
          go_wp2_with fail
          refine (EC.out w1 HB0.out).mono ?_
          rintro e w3 ⟨rfl, hb⟩
          replace HB0 := Lib.hid (HB0.out.trans (hb.mono HB0.out.size))
          replace HE0 := Lib.hid (HE0.out.later hb)
          clear hb EC c0 c1 c2
          obtain ⟨c0, c1, c2⟩ := HE0.out.cells
          go_wp2
          go_quiet (first | (go_at_call 43; refine Calls.quiet_of_same ((NX.out _).mono (fun _ _ h => ⟨h.1, h.2.symm⟩))))
          have HD := Lib.hid (below_drewN HB0.out 1)
          go_wp2
          go_ret3
          exact ApO.no HA.out (by decide) rfl (below_drewN HB0.out _)
        · rw [if_neg h4] at hA
          have h0 : (0 : Int) ≠ 1 := by decide
          rcases hk with rfl | rfl
          · rw [if_neg h0] at hA NX
            rw [if_neg h0] at hVw
            obtain rfl : s2 = seq + 1 := by omega
            have d1 : ((seq + 1 : Int) != seq + 1) = false := by simp
            obtain ⟨E4, hE4⟩ : ∃ E4, E4 = sumE cs view ps := ⟨_, rfl⟩
            rw [← hE4] at hA SU
            have HA := Lib.hid hA
            have HV := Lib.hid hVw
            clear hA hVw h4 h0 SM S0 hck hq hs hE4
            go_enter Tryz.func16, Tryz.ntmps16
            go_wp2_with fail
            rw [← HW0.out, ← HG.out]
            refine (VC.out w0 HB0.out).mono ?_
            rintro e w1 ⟨rfl, hb⟩
            replace HB0 := Lib.hid (HB0.out.trans (hb.mono HB0.out.size))
            replace HE0 := Lib.hid (HE0.out.later hb)
            clear hb VC
            go_wp2_with fail
            refine (IN.out w1).mono ?_
            rintro e w2 ⟨rfl, rfl⟩
            clear IN
            obtain ⟨c0, c1, c2⟩ := HE0.out.cells
            go_wp2_with fail
            refine (EC.out w1 HB0.out).mono ?_
            rintro e w3 ⟨rfl, hb⟩
            replace HB0 := Lib.hid (HB0.out.trans (hb.mono HB0.out.size))
            replace HE0 := Lib.hid (HE0.out.later hb)
            clear hb EC c0 c1 c2
            obtain ⟨c0, c1, c2⟩ := HE0.out.cells
            go_wp2
            go_quiet (first | (go_at_call 43; refine Calls.quiet_of_same ((NX.out _).mono (fun _ _ h => ⟨h.1, h.2.symm⟩))))
            generalize hwd : w3.drewN _ = w4
            have HB4 := Lib.hid (show Below w.heap.size w w4 from by rw [← hwd]; exact below_drewN HB0.out _)
            have hE4 : Ebox w4 g 0 (seq + 1) (.slice ao no co) := by rw [← hwd]; exact HE0.out
            obtain ⟨c0, c1, c2⟩ := hE4.cells
            clear hwd
            go_wp2_with fail
            refine (SU.out w4 HB4.out).mono ?_
            rintro e w5 ⟨rv, rfl, hr, hb⟩
            have HB5 := Lib.hid (HB4.out.trans (hb.mono HB4.out.size))
            have HE5 := Lib.hid (hE4.later hb)
            have HR5 := Lib.hid hr
            have hr9 := hr.lit12
            clear hb SU hr hE4 c0 c1 c2
            obtain ⟨ar, nr, cr, rfl⟩ := hr9
            obtain ⟨c0, c1, c2⟩ := HE5.out.cells
            by_cases h9 : E4 = 0
            · subst h9
              go_wp2
              go_ret3
              exact ApO.yes HA.out rfl (HV.out HA.out) HR5.out HB5.out
            · have q9 : ((E4 : Int) != 0) = true := by rw [bne_iff_ne]; omega
              have H9 := Lib.hid h9
              clear h9
              go_wp2
              go_ret3
              exact ApO.no HA.out H9.out rfl HB5.out
          · rw [if_pos rfl] at hA NX
            rw [if_pos rfl] at hVw
            obtain rfl : s2 = seq := by omega
            have d1 : ((s2 : Int) != s2) = false := by simp
            clear h4 h0
            by_cases h5 : ps = view
            · rw [if_pos h5] at hA
              have HA := Lib.hid hA
              have HV := Lib.hid hVw
              rw [decide_eq_true h5] at SM
              obtain ⟨z1, z2⟩ := sum_none hZ.out
              rw [z1, z2] at S0
              clear hA hVw SU hck hq hs h5 z1 z2
              go_enter Tryz.func16, Tryz.ntmps16
              go_wp2_with fail
              rw [← HW0.out, ← HG.out]
              refine (VC.out w0 HB0.out).mono ?_
              rintro e w1 ⟨rfl, hb⟩
              replace HB0 := Lib.hid (HB0.out.trans (hb.mono HB0.out.size))
              replace HE0 := Lib.hid (HE0.out.later hb)
              clear hb VC
              go_wp2_with fail
              refine (IN.out w1).mono ?_
              rintro e w2 ⟨rfl, rfl⟩
              clear IN
              obtain ⟨c0, c1, c2⟩ := HE0.out.cells
              go_wp2_with fail
              refine (EC.out w1 HB0.out).mono ?_
              rintro e w3 ⟨rfl, hb⟩
              replace HB0 := Lib.hid (HB0.out.trans (hb.mono HB0.out.size))
              replace HE0 := Lib.hid (HE0.out.later hb)
              clear hb EC c0 c1 c2
              obtain ⟨c0, c1, c2⟩ := HE0.out.cells
              go_wp2
              go_quiet (first | (go_at_call 43; refine Calls.quiet_of_same ((NX.out _).mono (fun _ _ h => ⟨h.1, h.2.symm⟩))))
              generalize hwd : w3.drewN _ = w4
              have HB4 := Lib.hid (show Below w.heap.size w w4 from by rw [← hwd]; exact below_drewN HB0.out _)
              have HE4 := Lib.hid (show Ebox w4 g 1 s2 (.slice ao no co) from by rw [← hwd]; exact HE0.out)
              obtain ⟨c0, c1, c2⟩ := HE4.out.cells
              clear hwd
              go_wp2_with fail
              refine (SM.out w4 HB4.out).mono ?_
              rintro e w5 ⟨rfl, hb⟩
              have HB5 := Lib.hid (HB4.out.trans (hb.mono HB4.out.size))
              have HE5 := Lib.hid (HE4.out.later hb)
              clear hb SM c0 c1 c2 HE4
              go_wp2_with fail
              refine (S0.out w5 HB5.out).mono ?_
              rintro e w6 ⟨rv, rfl, hr, hb⟩
              have HB6 := Lib.hid (HB5.out.trans (hb.mono HB5.out.size))
              have HE6 := Lib.hid (HE5.out.later hb)
              have HR6 := Lib.hid hr
              have hr9 := hr.lit12
              clear hb S0 hr
              obtain ⟨ar, nr, cr, rfl⟩ := hr9
              obtain ⟨c0, c1, c2⟩ := HE6.out.cells
              go_wp2
              go_ret3
              exact ApO.yes HA.out rfl (HV.out HA.out) HR6.out HB6.out
            · rw [if_neg h5] at hA
              have HA := Lib.hid hA
              rw [decide_eq_false h5] at SM
              clear hA hVw SU S0 hck hq hs h5
              go_enter Tryz.func16, Tryz.ntmps16
              go_wp2_with fail
              rw [← HW0.out, ← HG.out]
              refine (VC.out w0 HB0.out).mono ?_
              rintro e w1 ⟨rfl, hb⟩
              replace HB0 := Lib.hid (HB0.out.trans (hb.mono HB0.out.size))
              replace HE0 := Lib.hid (HE0.out.later hb)
              clear hb VC
              go_wp2_with fail
              refine (IN.out w1).mono ?_
              rintro e w2 ⟨rfl, rfl⟩
              clear IN
              obtain ⟨c0, c1, c2⟩ := HE0.out.cells
              go_wp2_with fail
              refine (EC.out w1 HB0.out).mono ?_
              rintro e w3 ⟨rfl, hb⟩
              replace HB0 := Lib.hid (HB0.out.trans (hb.mono HB0.out.size))
              replace HE0 := Lib.hid (HE0.out.later hb)
              clear hb EC c0 c1 c2
              obtain ⟨c0, c1, c2⟩ := HE0.out.cells
              go_wp2
              go_quiet (first | (go_at_call 43; refine Calls.quiet_of_same ((NX.out _).mono (fun _ _ h => ⟨h.1, h.2.symm⟩))))
              generalize hwd : w3.drewN _ = w4
              have HB4 := Lib.hid (show Below w.heap.size w w4 from by rw [← hwd]; exact below_drewN HB0.out _)
              have HE4 := Lib.hid (show Ebox w4 g 1 s2 (.slice ao no co) from by rw [← hwd]; exact HE0.out)
              obtain ⟨c0, c1, c2⟩ := HE4.out.cells
              clear hwd
              go_wp2_with fail
              refine (SM.out w4 HB4.out).mono ?_
              rintro e w5 ⟨rfl, hb⟩
              have HB5 := Lib.hid (HB4.out.trans (hb.mono HB4.out.size))
              have HE5 := Lib.hid (HE4.out.later hb)
              clear hb SM c0 c1 c2 HE4
              go_wp2
              go_ret3
              exact ApO.no HA.out (by decide) rfl HB5.out
      · rw [if_pos h3] at hA
        have HA := Lib.hid hA
        have q3 : ((E2 : Int) != 0) = true := by rw [bne_iff_ne]; omega
        have H3 := Lib.hid h3
        clear hA hVw h3 SM SU S0 hez hq
        go_enter Tryz.func16, Tryz.ntmps16
        go_wp2_with fail
        rw [← HW0.out, ← HG.out]
        refine (VC.out w0 HB0.out).mono ?_
        rintro e w1 ⟨rfl, hb⟩
        replace HB0 := Lib.hid (HB0.out.trans (hb.mono HB0.out.size))
        replace HE0 := Lib.hid (HE0.out.later hb)
        clear hb VC
        go_wp2_with fail
        refine (IN.out w1).mono ?_
        rintro e w2 ⟨rfl, rfl⟩
        clear IN
        obtain ⟨c0, c1, c2⟩ := HE0.out.cells
        go_wp2_with fail
        refine (EC.out w1 HB0.out).mono ?_
        rintro e w3 ⟨rfl, hb⟩
        replace HB0 := Lib.hid (HB0.out.trans (hb.mono HB0.out.size))
        replace HE0 := Lib.hid (HE0.out.later hb)
        clear hb EC c0 c1 c2
        go_wp2
        go_ret3
        exact ApO.no HA.out H3.out rfl HB0.out
  · rw [if_pos h1] at hA
    have HA := Lib.hid hA
    have q1 : ((E1 : Int) != 0) = true := by rw [bne_iff_ne]; omega
    have H1 := Lib.hid h1
    clear hA hVw h1 hZs EC IN SM SU S0 hez hq
    go_enter Tryz.func16, Tryz.ntmps16
    go_wp2_with fail
    rw [← HW0.out, ← HG.out]
    refine (VC.out w0 HB0.out).mono ?_
    rintro e w1 ⟨rfl, hb⟩
    replace HB0 := Lib.hid (HB0.out.trans (hb.mono HB0.out.size))
    replace HE0 := Lib.hid (HE0.out.later hb)
    clear hb VC
    go_wp2
    go_ret3
    exact ApO.no HA.out H1.out rfl HB0.out

end Go.Proofs.YteiphdcgffapbaaGreatDoor


/-
  Layer 12's laws: their example; are pairs too many.
-/
namespace Go.Proofs.YteiphdcgffapbaaGreatDoor
open Go.RowKit Go.Shelf

def ex12P : List PairB := [(ex10A, 1)]
theorem ex12P_ok : PSO ex12P := by
  intro p hp
  simp [ex12P] at hp
  subst hp
  refine ⟨fun c hc => ?_, by decide, by decide⟩
  simp [ex10A] at hc
  rcases hc with rfl | rfl <;> exact ⟨by decide, by decide⟩
theorem ex12_one : apE ex10C 3 [] (0, 4, ex12P) = 0 ∧ apN ex10C 3 [] (0, 4, ex12P) = 4 ∧ apV ex10C 3 [] (0, 4, ex12P) = ex12P := by decide +kernel
theorem ex12_two : apE ex10C 4 ex12P (1, 4, ex12P) = 0 ∧ apN ex10C 4 ex12P (1, 4, ex12P) = 4 ∧ apV ex10C 4 ex12P (1, 4, ex12P) = ex12P := by decide +kernel
theorem rdP_one12 (w : World) (p : TriB) (h1 : RdE w p.1 p.2.1) :
    RdP (w.alloc (.cells #[p.1, .int .i64 p.2.2] 64)) (.slice (some ⟨w.heap.size, 0, none⟩) 1 1) [p.2] := by
  have hbe := (Below.refl w.heap.size w).alloc (Nat.le_refl _) (.cells #[p.1, .int .i64 p.2.2] 64)
  have ho := ownG_built pairE w w.heap.size (Nat.le_refl _) ([p].map triV) (by intro x hx; obtain ⟨t, _, rfl⟩ := List.mem_map.1 hx; rfl) (by
    intro x hx u hu
    obtain ⟨t, ht, rfl⟩ := List.mem_map.1 hx
    simp at ht
    subst ht
    exact triV_one h1 u hu) (by simp)
  refine ⟨[p], rfl, OwnG.rd ho (by simp), ?_⟩
  intro t ht
  simp at ht
  subst ht
  exact h1.later hbe (Nat.le_refl _)

theorem entry_MaxSeq (w : World) : Calls Tryz.prog 23 #[] w fun e w' => e = .returned (.int .i64 281474976710656) ∧ w = w' := by
  go_enter Tryz.func23, Tryz.ntmps23
  go_wp2
  go_ret
  exact ⟨rfl, rfl⟩

theorem apply_none12 (sv vv ev : Value) (seq : Int) (view : List PairB) (x : EntB) (w : World) (hR : RdC w sv ex10C) (hV : RdP w vv view) (hE : RdN w ev x) (hVO : PSO view) (hX : EnO x) (hq : inW seq) (hT : Tabs w) (h : apE ex10C seq view x = 0 ∧ apN ex10C seq view x = 4 ∧ apV ex10C seq view x = ex12P) :
    Calls Tryz.prog 16 #[sv, .int .i64 seq, vv, ev] w fun e w' => ∃ v, e = .returned (.tuple #[.int .i64 4, v, .int .i64 0]) ∧ RdP w' v ex12P ∧ Below w.heap.size w w' := by
  refine (entry_Apply sv vv ev ex10C seq view x w hR hV hE ex10C_ok hVO hX hq hT).mono ?_
  rintro e w' ⟨v, he, hr, hb⟩
  rw [h.1, h.2.1] at he
  rw [h.2.2] at hr
  exact ⟨v, he, hr, hb⟩

set_option maxHeartbeats 8000000 in
theorem law12_alive (w : World) (hT : Tabs w) :
    Calls Tryz.prog 7 #[] w fun e w' => e = .returned (.bool true) ∧ Below w.heap.size w w' := by
  have HV1 := Lib.hid (rdC_two10 w (⟨#[105, 100]⟩, 0) (⟨#[110, 97, 109, 101]⟩, 4))
  have HB1 := Lib.hid ((Below.refl w.heap.size w).alloc (Nat.le_refl _) (.cells #[.string ⟨#[105, 100]⟩, .int .i64 0, .string ⟨#[110, 97, 109, 101]⟩, .int .i64 4] 57))
  have HT := Lib.hid hT
  clear hT
  go_enter Tryz.func7, Tryz.ntmps7
  go_wp2_with fail
  refine (cell_Int10 1 1 (by decide) _).mono ?_
  rintro e w2 ⟨rfl, hb⟩
  have HB2 := Lib.hid (HB1.out.trans (hb.mono HB1.out.size))
  have HV2 := Lib.hid (HV1.out.later hb (Nat.le_refl _))
  have HR3 := Lib.hid (rdE_two10 w2 (1, ⟨#[]⟩) (0, ⟨#[97]⟩))
  have hb3 := (Below.refl w2.heap.size w2).alloc (Nat.le_refl _) (.cells #[.int .u64 1, .string ⟨#[]⟩, .int .u64 0, .string ⟨#[97]⟩] 60)
  have HB3 := Lib.hid (HB2.out.trans (hb3.mono HB2.out.size))
  have HV3 := Lib.hid (HV2.out.later hb3 (Nat.le_refl _))
  have HP4 := Lib.hid (rdP_one12 (w2.alloc (.cells #[.int .u64 1, .string ⟨#[]⟩, .int .u64 0, .string ⟨#[97]⟩] 60)) (.slice (some ⟨w2.heap.size, 0, none⟩) 2 2, (ex10A, 1)) HR3.out)
  have hb4 := (Below.refl (w2.alloc (.cells #[.int .u64 1, .string ⟨#[]⟩, .int .u64 0, .string ⟨#[97]⟩] 60)).heap.size _).alloc (Nat.le_refl _) (.cells #[.slice (some ⟨w2.heap.size, 0, none⟩) 2 2, .int .i64 1] 64)
  have HB4 := Lib.hid (HB3.out.trans (hb4.mono HB3.out.size))
  have HV4 := Lib.hid (HV3.out.later hb4 (Nat.le_refl _))
  obtain ⟨w4, hw4⟩ : ∃ w4, w4 = (w2.alloc (.cells #[.int .u64 1, .string ⟨#[]⟩, .int .u64 0, .string ⟨#[97]⟩] 60)).alloc (.cells #[.slice (some ⟨w2.heap.size, 0, none⟩) 2 2, .int .i64 1] 64) := ⟨_, rfl⟩
  have HP5 := HP4.out
  rw [World.size_alloc] at HP5
  have HP5 : RdP w4 (.slice (some ⟨w2.heap.size + 1, 0, none⟩) 1 1) ex12P := by rw [hw4]; exact HP5
  have HB4 : Hid (Below w.heap.size w w4) := Lib.hid (by rw [hw4]; exact HB4.out)
  have HV4 : RdC w4 (.slice (some ⟨w.heap.size, 0, none⟩) 2 2) ex10C := by rw [hw4]; exact HV4.out
  obtain ⟨g2, hg2⟩ : ∃ g2, g2 = w2.heap.size + 1 := ⟨_, rfl⟩
  obtain ⟨g1, hg1⟩ : ∃ g1, g1 = w.heap.size := ⟨_, rfl⟩
  rw [← hg2] at HP5
  rw [← hg1] at HV4
  have HW4 := Lib.hid hw4
  have HG := Lib.hid (And.intro hg1 hg2)
  have HP5 := Lib.hid HP5
  have HV4 := Lib.hid HV4
  have AP := Lib.hid (fun vv seq view x (hV : RdP w4 vv view) => apply_none12 (.slice (some ⟨g1, 0, none⟩) 2 2) vv (.agg #[.int .i64 0, .int .i64 4, .slice (some ⟨g2, 0, none⟩) 1 1]) seq view x w4 HV4.out hV)
  have A1 := Lib.hid (AP.out (.slice none 0 0) 3 [] (0, 4, ex12P) (RdP.nil w4) ⟨_, rfl, HP5.out⟩ (fun p hp => absurd hp (by simp)) ⟨by unfold inW; dsimp only; omega, by unfold inW; dsimp only; omega, ex12P_ok⟩ (by unfold inW; omega) (HT.out.later HB4.out) ex12_one)
  clear hb hb3 hb4 HB1 HV1 HB2 HV2 HR3 HB3 HV3 HP4 hw4 hg1 hg2 AP
  go_wp2_with fail
  rw [← HW4.out, ← HG.out.1, ← HG.out.2]
  refine A1.out.mono ?_
  rintro e w5 ⟨v1, rfl, hr, hb⟩
  have HB5 := Lib.hid (HB4.out.trans (hb.mono HB4.out.size))
  have HP6 := Lib.hid (HP5.out.later hb (Nat.le_refl _))
  have HV6 := Lib.hid (HV4.out.later hb (Nat.le_refl _))
  have HR6 := Lib.hid hr
  have A2 := Lib.hid (apply_none12 (.slice (some ⟨g1, 0, none⟩) 2 2) v1 (.agg #[.int .i64 1, .int .i64 4, .slice (some ⟨g2, 0, none⟩) 1 1]) 4 ex12P (1, 4, ex12P) w5 HV6.out hr ⟨_, rfl, HP6.out⟩ ex12P_ok ⟨by unfold inW; dsimp only; omega, by unfold inW; dsimp only; omega, ex12P_ok⟩ (by unfold inW; omega) (HT.out.later HB5.out) ex12_two)
  clear hr hb A1 HB4 HP5 HV4 HW4
  go_wp2_with fail
  refine A2.out.mono ?_
  rintro e w6 ⟨v2, rfl, hr, hb⟩
  have HB6 := Lib.hid (HB5.out.trans (hb.mono HB5.out.size))
  have HP7 := Lib.hid (HP6.out.later hb (Nat.le_refl _))
  have HR7 := Lib.hid (HR6.out.later hb (Nat.le_refl _))
  have S1 := Lib.hid (zset_Same v1 (.slice (some ⟨g2, 0, none⟩) 1 1) ex12P ex12P w6 HR7.out HP7.out)
  rw [decide_eq_true rfl] at S1
  have HS7 := Lib.hid hr
  clear hr hb A2 HB5 HP6 HV6 HR6 HR7
  go_wp2_with fail
  refine S1.out.mono ?_
  rintro e w7 ⟨rfl, hb⟩
  have HB7 := Lib.hid (HB6.out.trans (hb.mono HB6.out.size))
  have S2 := Lib.hid (zset_Same v2 (.slice (some ⟨g2, 0, none⟩) 1 1) ex12P ex12P w7 (HS7.out.later hb (Nat.le_refl _)) (HP7.out.later hb (Nat.le_refl _)))
  rw [decide_eq_true rfl] at S2
  clear hb HB6 HP7 HS7 S1
  go_wp2_with fail
  refine S2.out.mono ?_
  rintro e w8 ⟨rfl, hb⟩
  have HB8 := Lib.hid (HB7.out.trans (hb.mono HB7.out.size))
  clear hb S2 HB7
  go_wp2_with fail
  refine (entry_MaxSeq w8).mono ?_
  rintro e w9 ⟨rfl, rfl⟩
  go_wp2
  go_ret
  exact ⟨rfl, HB8.out⟩

/-- What 'great' answers. -/
def GreatO (w : World) (Q : Prop) (e : Ending) (w' : World) : Prop := ∃ b : Bool, e = .returned (.bool b) ∧ (b = false → Q) ∧ Below w.heap.size w w'

set_option maxHeartbeats 4000000 in
theorem law12_great (v1 v : Value) (cs : List ColB) (vals : List Value) (pss : List (List PairB)) (w : World) (hR : RdC w v1 cs) (h : RdPs w v vals) (hn : vals.length ≤ 12) (hl : pss.length = vals.length) (hr : ∀ i, i < vals.length → ∀ wz, Below w.heap.size w wz → RdP wz (vals.getD i undef) (pss.getD i [])) :
    Calls Tryz.prog 8 #[v1, v] w (GreatO w (cs.length ≤ 30 ∧ ∀ i, i < pss.length → (pss.getD i []).length ≤ 100)) := by
  have hlen := RdG.len h pairsOk
  rw [List.length_map] at hlen
  have hl1 := hR.len
  have hsm1 := hR.small
  have GR := Lib.hid (law08_greatN v vals pss w h hn hl hr)
  have HH := Lib.hid h
  have HR := Lib.hid hr
  obtain ⟨n, hn9⟩ : ∃ n, n = vals.length := ⟨_, rfl⟩
  obtain ⟨c, hc⟩ : ∃ c, c = cs.length := ⟨_, rfl⟩
  rw [← hn9] at hlen hn
  rw [← hc] at hl1 hsm1
  have hlen : ∀ u, (Builtin.len_ #[66] 3 #[v]).run Tryz.prog u = .ok (.int .i64 (n : Int)) u := hlen
  have HN := Lib.hid hn9
  have HL := Lib.hid hl
  have HC := Lib.hid hc
  clear hR h hn9 hl hr hc
  go_enter Tryz.func8, Tryz.ntmps8
  go_wp2
  go_loopw [9] (fun i wr => ∃ k : Nat, k ≤ n ∧ i = .int .i64 k ∧ Hid (∀ j, j < k → (pss.getD j []).length ≤ 100) ∧ w = wr) (fun i _ => n - (intOf i).toNat)
  case atStart => exact ⟨0, by omega, rfl, Lib.hid (fun j hj => absurd hj (by omega)), rfl⟩
  case round =>
    obtain ⟨k, hk, rfl, HX, rfl⟩ := hrel
    by_cases hlt : k < n
    · have d1 : decide ((k : Int) < (n : Int)) = true := decide_eq_true (by omega)
      have hl2 : k < (vals.map fun x => [x]).length := by rw [List.length_map, ← HN.out]; exact hlt
      have hidx := RdG.idx HH.out pairsOk k hl2
      obtain ⟨b, o, ha, hc⟩ := RdG.at HH.out hl2
      rw [ha] at hidx
      rw [getD_map (fun x => [x]) vals k (by rw [← HN.out]; exact hlt) undef] at hc
      have hc0 := hc 0 _ rfl
      rw [Nat.add_zero] at hc0
      have hre := HR.out k (by rw [← HN.out]; exact hlt) w (Below.refl _ _)
      have hl5 := hre.len
      have hsm5 := hre.small
      obtain ⟨rv, hrv⟩ : ∃ rv, rv = vals.getD k undef := ⟨_, rfl⟩
      rw [← hrv] at hc0 hl5
      obtain ⟨m, hm⟩ : ∃ m, m = (pss.getD k []).length := ⟨_, rfl⟩
      rw [← hm] at hl5 hsm5
      have HM := Lib.hid hm
      have hidx : ∀ u, (Instr.indexAt 66 v (.int .i64 (k : Int))).run Tryz.prog u = .ok (.pointer (some ⟨b, o, none⟩)) u := hidx
      clear hl2 ha hc hre hrv hm
      by_cases h5 : 100 < m
      · have d2 : decide ((m : Int) > 100) = true := decide_eq_true (by omega)
        go_wp2
        go_ret
        exact ⟨true, rfl, fun h => (by cases h), Below.refl _ _⟩
      · have d2 : decide ((m : Int) > 100) = false := decide_eq_false (by omega)
        have HX2 := Lib.hid (show ∀ j, j < k + 1 → (pss.getD j []).length ≤ 100 from fun j hj => by
          by_cases e : j = k
          · subst e; rw [← HM.out]; omega
          · exact HX.out j (by omega))
        clear HX
        go_wp2
        go_roundw
        case rel => exact ⟨k + 1, by omega, by go_num, HX2, (by first | trivial | rfl)⟩
        case measure => simp [intOf]; omega
    · obtain rfl : k = n := by omega
      have d1 : decide ((k : Int) < (k : Int)) = false := decide_eq_false (by omega)
      by_cases h5 : 30 < c
      · have d2 : decide ((c : Int) > 30) = true := decide_eq_true (by omega)
        go_wp2
        go_ret
        exact ⟨true, rfl, fun h => (by cases h), Below.refl _ _⟩
      · have d2 : decide ((c : Int) > 30) = false := decide_eq_false (by omega)
        have HC5 := Lib.hid (show cs.length ≤ 30 by rw [← HC.out]; omega)
        go_wp2_with fail
        refine GR.out.mono ?_
        rintro e w2 ⟨x, rfl, hx, _, hb⟩
        have HB2 := Lib.hid hb
        clear hb GR
        rcases hx with rfl | rfl
        · go_wp2
          go_ret
          exact ⟨false, rfl, fun _ => ⟨HC5.out, fun i hi => HX.out i (by rw [HN.out, ← HL.out]; exact hi)⟩, HB2.out⟩
        · go_wp2
          go_ret
          exact ⟨true, rfl, fun h => (by cases h), HB2.out⟩

theorem great_list12 (v1 : Value) (cs : List ColB) (vals : List Value) (pss : List (List PairB)) (w : World) (hR : RdC w v1 cs) (hn : vals.length ≤ 3) (hl : pss.length = vals.length) (hr : ∀ i, i < vals.length → RdP w (vals.getD i undef) (pss.getD i [])) :
    Calls Tryz.prog 8 #[v1, .slice (some ⟨w.heap.size, 0, none⟩) vals.length vals.length] (w.alloc (.cells vals.toArray 23)) (GreatO w (cs.length ≤ 30 ∧ ∀ i, i < pss.length → (pss.getD i []).length ≤ 100)) := by
  obtain ⟨N1, N2⟩ := new_one12 w (.cells vals.toArray 23)
  refine (law12_great v1 _ cs vals pss _ (hR.later N2 (Nat.le_refl _)) (rdPs_block (vals := vals) N1 (by omega)) (by omega) hl ?_).mono ?_
  · intro i hi wz hz
    exact (hr i hi).later (N2.trans (hz.mono N2.size)) (Nat.le_refl _)
  · rintro e w' ⟨b, rfl, hx, hb⟩
    exact ⟨b, rfl, hx, N2.trans (hb.mono N2.size)⟩
theorem great_one12 (v1 v2 : Value) (cs : List ColB) (a : List PairB) (w : World) (hR : RdC w v1 cs) (h2 : RdP w v2 a) :
    Calls Tryz.prog 8 #[v1, .slice (some ⟨w.heap.size, 0, none⟩) 1 1] (w.alloc (.cells #[v2] 23)) (GreatO w (cs.length ≤ 30 ∧ a.length ≤ 100)) := by
  refine (great_list12 v1 cs [v2] [a] w hR (by simp) rfl (fun i hi => by
    have hi : i < 1 := hi
    obtain rfl : i = 0 := by omega
    exact h2)).mono ?_
  rintro e w' ⟨b, rfl, hx, hb⟩
  exact ⟨b, rfl, fun h => ⟨(hx h).1, (hx h).2 0 (by simp)⟩, hb⟩
end Go.Proofs.YteiphdcgffapbaaGreatDoor


/-
  Layer 12's laws: what they share.
-/
namespace Go.Proofs.YteiphdcgffapbaaGreatDoor
open Go.RowKit Go.Shelf

end Go.Proofs.YteiphdcgffapbaaGreatDoor

