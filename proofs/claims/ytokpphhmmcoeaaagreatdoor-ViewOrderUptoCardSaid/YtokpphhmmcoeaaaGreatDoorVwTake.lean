/-
  Package view: Take.
-/
import Derived.Test.YtokpphhmmcoeaaaGreatDoorVwW
import Derived.Laws.EntriesVeiled
import Derived.MapKept
import Derived.WalkSmall
set_option linter.unusedVariables false
set_option linter.unusedSimpArgs false
set_option maxRecDepth 1000000
namespace Go.Proofs.YtokpphhmmcoeaaaGreatDoor
open Go.RowKit Go.Shelf

/-! ## A message, taken -/

set_option maxHeartbeats 8000000 in
theorem view_Take {w : World} {N g : Nat} {cs : List ColB} {qs : List PairB} {c : CurB} {n : Int} {Q : Nat → Prop} (hV : Vw 65 w N g cs qs c n Q) (hQ : ∀ j, Q j → j < w.heap.size) (mv : Value) (m : MsgB) (hM : RdMg w mv m) (hm : MsO m) (hn : 0 ≤ n ∧ n ≤ 1000000) (hC : CS cs) (hT : Tabs w) :
    Calls Tryz.prog 8 #[.pointer (some ⟨g, 0, none⟩), mv] w (TkO 65 w N g cs qs c n Q m) := by
  obtain ⟨pv, rfl, hp⟩ := hM
  obtain ⟨_, N1, N2⟩ := new1 w (.cells #[.int .i64 m.1, pv, .int .i64 m.2.2.1, .int .i64 m.2.2.2.1, .int .u32 m.2.2.2.2] 32)
  obtain ⟨ap, np, kp, rfl⟩ := RdP.lit17 hp
  have HV := Lib.hid hV
  have HP := Lib.hid hp
  obtain ⟨w0, hw0⟩ : ∃ w0, w0 = w.alloc (.cells #[.int .i64 m.1, .slice ap np kp, .int .i64 m.2.2.1, .int .i64 m.2.2.2.1, .int .u32 m.2.2.2.2] 32) := ⟨_, rfl⟩
  rw [← hw0] at N1 N2
  have HW0 := Lib.hid hw0
  have HB0 := Lib.hid N2
  have HN1 := Lib.hid N1
  have d0 := cell_of_row _ _ 0 _ _ _ N1
  have d1 := cell_of_row _ _ 1 _ _ _ N1
  have d2 := cell_of_row _ _ 2 _ _ _ N1
  have d3 := cell_of_row _ _ 3 _ _ _ N1
  have d4 := cell_of_row _ _ 4 _ _ _ N1
  simp at d0 d1 d2 d3 d4
  have HBd := Lib.hid (Below.refl w0.heap.size w0).drew
  have KD := Lib.hid (view_kinds w0.drew)
  clear hV hp N1 N2 hw0
  by_cases hk : m.1 ≠ 0 ∧ m.1 ≠ 1
  · have HE := Lib.hid (tk_kind (cs := cs) (qs := qs) (c := c) hk)
    have HK := Lib.hid hk
    clear hk d1 d2 d3 d4
    go_enter Tryz.func8, Tryz.ntmps8
    go_wp2_with fail
    rw [← HW0.out]
    go_region_with (go_at_call 22; refine KD.out.mono ?_; rintro e w3 ⟨mm, rfl, hmm, hb⟩; have d0 := cell_of_row _ _ 0 _ _ _ (hb.block _ (Array.getElem?_eq_some_iff.1 HN1.out).1 |>.trans HN1.out); simp at d0; have hlk := kinds_miss hmm m.1 HK.out.1 HK.out.2)
    all_goals
      have HB3 := Lib.hid (HB0.out.trans ((HBd.out.trans hb).mono HB0.out.size))
      clear hmm hb KD d0 hlk
      go_wp2
      go_ret
      exact TkO.no HV.out HB3.out HE.out (by decide) rfl
  · have hk9 : m.1 = 0 ∨ m.1 = 1 := by omega
    have HK := Lib.hid hk9
    have hent := enters_kindF m.1 #[.pointer (some ⟨g, 0, none⟩), .slice ap np kp]
    have HT := Lib.hid hT
    have HN := Lib.hid hn
    have HQ := Lib.hid hQ
    clear hk hk9 d1 d2 d3 d4 hT hn hQ
    go_enter Tryz.func8, Tryz.ntmps8
    go_wp2_with fail
    rw [← HW0.out]
    go_region_with (go_at_call 22; refine KD.out.mono ?_; rintro e w3 ⟨mm, rfl, hmm, hb⟩; have d0 := cell_of_row _ _ 0 _ _ _ (hb.block _ (Array.getElem?_eq_some_iff.1 HN1.out).1 |>.trans HN1.out); simp at d0; have hlk := kinds_look hmm m.1 HK.out)
    all_goals
      have HN3 := Lib.hid ((HBd.out.trans hb).block _ (Array.getElem?_eq_some_iff.1 HN1.out).1 |>.trans HN1.out)
      have HB3 := Lib.hid (HB0.out.trans ((HBd.out.trans hb).mono HB0.out.size))
      have d2 := cell_of_row _ _ 2 _ _ _ HN3.out
      have d3 := cell_of_row _ _ 3 _ _ _ HN3.out
      have d4 := cell_of_row _ _ 4 _ _ _ HN3.out
      simp at d2 d3 d4
      have HV3 := Lib.hid (HV.out.later HB3.out)
      have LD := Lib.hid (view_leads HV3.out m.2.2)
      clear hmm hb KD d0 hlk
      go_wp2_with fail
      have LT := Lib.hid (tk_lead (cs := cs) (qs := qs) (c := c) HK.out)
      obtain ⟨LE, hLE⟩ : ∃ LE, LE = leE c m.2.2 := ⟨_, rfl⟩
      rw [← hLE] at LD LT
      have HLE := Lib.hid hLE
      clear hLE
      refine LD.out.mono ?_
      rintro e w4 ⟨rfl, hb4⟩
      have HB4 := Lib.hid (HB3.out.trans (hb4.mono HB3.out.size))
      have hb34 := HB3.out.size
      have HN4 := Lib.hid ((hb4.block _ (Array.getElem?_eq_some_iff.1 HN3.out).1).trans HN3.out)
      clear LD hb4 d2 d3 d4
      by_cases h0 : LE = 0
      · have BEE := Lib.hid (LT.out.2 h0)
        subst h0
        have d1 := cell_of_row _ _ 1 _ _ _ HN4.out
        simp at d1
        have BC := Lib.hid (view_become (HV.out.later HB4.out) (.slice ap np kp) m HK.out (HP.out.later HB4.out (Nat.le_refl _)) hm hC (HT.out.later HB4.out))
        clear LT
        go_wp2_with fail
        refine BC.out.mono ?_
        rintro e w5 ⟨xv, rfl, hx, hb5⟩
        obtain ⟨ax, nx, kx, rfl⟩ := RdP.lit17 hx.rd
        have HB5 := Lib.hid (HB4.out.trans (hb5.mono HB4.out.size))
        have HN5 := Lib.hid ((hb5.block _ (Array.getElem?_eq_some_iff.1 HN4.out).1).trans HN4.out)
        have HX := Lib.hid hx
        clear hb5 hx BC d1 hent
        rw [← BEE.out] at HX ⊢
        obtain ⟨E, hE⟩ : ∃ E, E = tkE cs qs c m := ⟨_, rfl⟩
        rw [← hE] at HX ⊢
        have HE := Lib.hid hE
        clear hE
        by_cases h0 : E = 0
        · subst h0
          have HYS := Lib.hid (tk_yes (cs := cs) (qs := qs) (c := c) (n := n) (m := m) HE.out.symm)
          obtain ⟨sv, vv, hB, hS, hP⟩ := HV.out.box
          obtain ⟨c0, c1, c2, c3, c4, c5⟩ := (hB.later HB5.out).cells
          have hf := (hB.later HB5.out).free
          have d2 := cell_of_row _ _ 2 _ _ _ HN5.out
          have d3 := cell_of_row _ _ 3 _ _ _ HN5.out
          have d4 := cell_of_row _ _ 4 _ _ _ HN5.out
          simp at d2 d3 d4
          have HBX := Lib.hid (And.intro hB hS)
          clear hB hS hP
          go_wp2_with fail
          go_region
          all_goals
            clear d2 d3 d4
            go_wp2
            go_ret
            have hx := HX.out
            rw [if_pos trivial] at hx
            have hwr : wrap64 (n + 1) = n + 1 := by have := HN.out; unfold wrap64; omega
            have hz := tk_set (c := c) HV.out.set hm
            obtain ⟨y1, y2, y3⟩ := HYS.out
            rw [y1] at hz
            have hst := Vw.stored (k := n + 1) (d := m.2.2) HV.out HBX.out.1 HBX.out.2 HB5.out (hx.offS fun j hj hq => by
              rcases hq with hq | hq
              · have := HQ.out j hq; have := HB4.out.size; omega
              · have := HBX.out.1.lt; have := HB4.out.size; omega) hz rfl
            unfold TkO
            rw [hwr, y1, y2, y3]
            exact ⟨by rw [← HE.out]; rfl, hst.1.drew, hst.2.below (Below.refl _ _).drew (Nat.le_refl _)⟩
        · have q : ((E : Int) != 0) = true := by rw [bne_iff_ne]; omega
          have HNE := Lib.hid h0
          clear h0
          go_wp2
          go_ret
          exact TkO.no HV.out HB5.out HE.out.symm HNE.out rfl
      · have HTE := Lib.hid (LT.out.1 h0)
        have q : ((LE : Int) != 0) = true := by rw [bne_iff_ne]; omega
        have HN0 := Lib.hid h0
        clear h0 LT hent
        go_wp2
        go_ret
        exact TkO.no HV.out HB4.out HTE.out HN0.out rfl

end Go.Proofs.YtokpphhmmcoeaaaGreatDoor
