/-
  The document's own answers for layer 12 (deckleref12): Check, Same, Write.
-/
import Derived.Test.YteiphdcgffapbaaGreatDoorEntry
import Derived.Test.YteiphdcgffapbaaGreatDoorGEntP
import Derived.Test.YteiphdcgffapbaaGreatDoorGBatRef
import Derived.Test.YteiphdcgffapbaaGreatDoorGFrame
import Derived.Test.YteiphdcgffapbaaGreatDoorGWireR
import Derived.Test.YteiphdcgffapbaaGreatDoorGZRef
import Derived.Test.YteiphdcgffapbaaGreatDoorGBaseA
set_option linter.unusedVariables false
set_option linter.unusedSimpArgs false
set_option maxRecDepth 1000000
namespace Go.Proofs.YteiphdcgffapbaaGreatDoor
open Go.RowKit Go.Shelf

set_option maxHeartbeats 4000000 in
theorem ref_Check12 (sv ev : Value) (cs : List ColB) (x : EntB) (w : World) (hR : RdC w sv cs) (hE : RdN w ev x) (hC : CS cs) (hX : EnO x) :
    Calls Tryz.prog 12 #[sv, ev] w fun e w' => e = .returned (.int .i64 (entE cs x : Nat)) ∧ Below w.heap.size w w' := by
  obtain ⟨kind, seq, ps⟩ := x
  obtain ⟨pv, rfl, hP⟩ := hE
  obtain ⟨hk, hs, hO⟩ := hX
  dsimp only at hP hk hs hO ⊢
  obtain ⟨ao, no, co, rfl⟩ := hP.lit12
  obtain ⟨N1, N2⟩ := new_one12 w (.cells #[.int .i64 kind, .int .i64 seq, .slice ao no co] 25)
  obtain ⟨w0, hw0⟩ : ∃ w0, w0 = w.alloc (.cells #[.int .i64 kind, .int .i64 seq, .slice ao no co] 25) := ⟨_, rfl⟩
  rw [← hw0] at N1 N2
  have SC := Lib.hid (ref_Check05 sv cs w0 (hR.later N2 (Nat.le_refl _)) hC)
  have ZC := Lib.hid (fun wz (hz : Below w.heap.size w wz) => ref_Check08 sv (.slice ao no co) cs ps wz (hR.later hz (Nat.le_refl _)) (hP.later hz (Nat.le_refl _)) hC hO)
  obtain ⟨g, hg⟩ : ∃ g, g = w.heap.size := ⟨_, rfl⟩
  rw [← hg] at N1
  have HE0 := Lib.hid (show Ebox w0 g kind seq (.slice ao no co) from N1)
  have HB0 := Lib.hid N2
  have HW0 := Lib.hid hw0
  have HG := Lib.hid hg
  obtain ⟨E, hE⟩ : ∃ E, E = errS (colsL cs) := ⟨_, rfl⟩
  obtain ⟨R, hRR⟩ : ∃ R, R = entE cs (kind, seq, ps) := ⟨_, rfl⟩
  rw [← hE] at SC
  rw [← hRR]
  unfold entE at hRR
  dsimp only at hRR
  rw [← hE] at hRR
  clear hR hP hC hO N1 N2 hw0 hg hE
  by_cases hE0 : E = 0
  · subst hE0
    rw [if_neg (by simp)] at hRR
    by_cases h1 : kind < 0 ∨ 1 < kind
    · rw [if_pos h1] at hRR
      subst hRR
      have hd : (decide (kind < 0) = true) ∨ (decide (kind < 0) = false ∧ decide (kind > 1) = true) := by
        by_cases h : kind < 0
        · exact .inl (decide_eq_true h)
        · exact .inr ⟨decide_eq_false h, decide_eq_true (by omega)⟩
      clear h1 ZC
      rcases hd with d1 | ⟨d1, d2⟩
      all_goals (
        go_enter Tryz.func12, Tryz.ntmps12
        go_wp2_with fail
        rw [← HW0.out, ← HG.out]
        refine SC.out.mono ?_
        rintro e w1 ⟨rfl, hb⟩
        have HB1 := Lib.hid (HB0.out.trans (hb.mono HB0.out.size))
        obtain ⟨c0, c1, c2⟩ := (HE0.out.later hb).cells
        clear hb SC HE0
        go_wp2
        go_ret
        exact ⟨rfl, HB1.out⟩)
    · rw [if_neg h1] at hRR
      have d1 : decide (kind < 0) = false := decide_eq_false (by omega)
      have d2 : decide (kind > 1) = false := decide_eq_false (by omega)
      clear h1
      by_cases h2 : seq < 0 ∨ 281474976710656 < seq
      · rw [if_pos h2] at hRR
        subst hRR
        have hd : (decide (seq < 0) = true) ∨ (decide (seq < 0) = false ∧ decide (seq > 281474976710656) = true) := by
          by_cases h : seq < 0
          · exact .inl (decide_eq_true h)
          · exact .inr ⟨decide_eq_false h, decide_eq_true (by omega)⟩
        clear h2 ZC
        rcases hd with d3 | ⟨d3, d4⟩
        all_goals (
          go_enter Tryz.func12, Tryz.ntmps12
          go_wp2_with fail
          rw [← HW0.out, ← HG.out]
          refine SC.out.mono ?_
          rintro e w1 ⟨rfl, hb⟩
          have HB1 := Lib.hid (HB0.out.trans (hb.mono HB0.out.size))
          obtain ⟨c0, c1, c2⟩ := (HE0.out.later hb).cells
          clear hb SC HE0
          go_wp2
          go_ret
          exact ⟨rfl, HB1.out⟩)
      · rw [if_neg h2] at hRR
        have d3 : decide (seq < 0) = false := decide_eq_false (by omega)
        have d4 : decide (seq > 281474976710656) = false := decide_eq_false (by omega)
        rw [← hRR] at ZC
        clear h2 hRR
        go_enter Tryz.func12, Tryz.ntmps12
        go_wp2_with fail
        rw [← HW0.out, ← HG.out]
        refine SC.out.mono ?_
        rintro e w1 ⟨rfl, hb⟩
        have HB1 := Lib.hid (HB0.out.trans (hb.mono HB0.out.size))
        obtain ⟨c0, c1, c2⟩ := (HE0.out.later hb).cells
        clear hb SC HE0
        go_wp2_with fail
        refine (ZC.out w1 HB1.out).mono ?_
        rintro e w3 ⟨rfl, hb⟩
        have HB3 := Lib.hid (HB1.out.trans (hb.mono HB1.out.size))
        clear hb
        go_wp2
        go_ret
        exact ⟨rfl, HB3.out⟩
  · rw [if_pos hE0] at hRR
    subst hRR
    have q : ((R : Int) != 0) = true := by rw [bne_iff_ne]; omega
    clear hE0 ZC
    go_enter Tryz.func12, Tryz.ntmps12
    go_wp2_with fail
    rw [← HW0.out, ← HG.out]
    refine SC.out.mono ?_
    rintro e w1 ⟨rfl, hb⟩
    have HB1 := Lib.hid (HB0.out.trans (hb.mono HB0.out.size))
    clear hb SC HE0
    go_wp2
    go_ret
    exact ⟨rfl, HB1.out⟩

set_option maxHeartbeats 4000000 in
theorem ref_Same12 (v1 v2 : Value) (x y : EntB) (w : World) (h1 : RdN w v1 x) (h2 : RdN w v2 y) :
    Calls Tryz.prog 15 #[v1, v2] w fun e w' => e = .returned (.bool (decide (x = y))) ∧ Below w.heap.size w w' := by
  obtain ⟨k1, s1, ps⟩ := x
  obtain ⟨k2, s2, qs⟩ := y
  obtain ⟨p1, rfl, hP⟩ := h1
  obtain ⟨p2, rfl, hQ⟩ := h2
  dsimp only at hP hQ ⊢
  obtain ⟨ao, no, co, rfl⟩ := hP.lit12
  obtain ⟨bo, mo, do_, rfl⟩ := hQ.lit12
  have SM := Lib.hid (fun wz (hz : Below w.heap.size w wz) => ref_Same08 (.slice ao no co) (.slice bo mo do_) ps qs wz (hP.later hz (Nat.le_refl _)) (hQ.later hz (Nat.le_refl _)))
  have HB0 := Lib.hid (((Below.refl w.heap.size w).alloc (Nat.le_refl _) (.cells #[.int .i64 k1, .int .i64 s1, .slice ao no co] 25)).alloc (by simp) (.cells #[.int .i64 k2, .int .i64 s2, .slice bo mo do_] 25))
  clear hP hQ
  by_cases h1 : k1 = k2
  · subst h1
    have d1 : ((k1 : Int) == k1) = true := by simp
    by_cases h2 : s1 = s2
    · subst h2
      have d2 : ((s1 : Int) == s1) = true := by simp
      have HE := Lib.hid (show decide (ps = qs) = decide (((k1, s1, ps) : EntB) = (k1, s1, qs)) from by simp)
      go_enter Tryz.func15, Tryz.ntmps15
      go_wp2_with fail
      refine (SM.out _ HB0.out).mono ?_
      rintro e w3 ⟨rfl, hb⟩
      have HB3 := Lib.hid (HB0.out.trans (hb.mono HB0.out.size))
      generalize decide (ps = qs) = z at *
      clear hb
      go_wp2
      go_ret
      exact ⟨by rw [← HE.out]; rfl, HB3.out⟩
    · have d2 : ((s1 : Int) == s2) = false := by rw [beq_eq_false_iff_ne]; exact h2
      have HE := Lib.hid (show false = decide (((k1, s1, ps) : EntB) = (k1, s2, qs)) from by simp [h2])
      clear h2 SM
      go_enter Tryz.func15, Tryz.ntmps15
      go_wp2
      go_ret
      exact ⟨by rw [← HE.out]; rfl, HB0.out⟩
  · have d1 : ((k1 : Int) == k2) = false := by rw [beq_eq_false_iff_ne]; exact h1
    have HE := Lib.hid (show false = decide (((k1, s1, ps) : EntB) = (k2, s2, qs)) from by simp [h1])
    clear h1 SM
    go_enter Tryz.func15, Tryz.ntmps15
    go_wp2
    go_ret
    exact ⟨by rw [← HE.out]; rfl, HB0.out⟩

set_option maxHeartbeats 8000000 in
theorem ref_Write12 (sv ev : Value) (cs : List ColB) (x : EntB) (w : World) (hR : RdC w sv cs) (hE : RdN w ev x) (hC : CS cs) (hX : EnO x) :
    Calls Tryz.prog 10 #[sv, ev] w (RetW w (entW cs x)) := by
  obtain ⟨kind, seq, ps⟩ := x
  obtain ⟨pv, rfl, hP⟩ := hE
  dsimp only at hP
  obtain ⟨ao, no, co, rfl⟩ := hP.lit12
  have EC := Lib.hid (fun wz (hz : Below w.heap.size w wz) => ref_Check12 sv _ cs (kind, seq, ps) wz (hR.later hz (Nat.le_refl _)) ⟨_, rfl, hP.later hz (Nat.le_refl _)⟩ hC hX)
  have hW : entW cs (kind, seq, ps) = if entE cs (kind, seq, ps) ≠ 0 then ([], entE cs (kind, seq, ps)) else wrF (2 - kind) (entP cs (kind, seq, ps)) := rfl
  have hz := entE_zero (cs := cs) (x := (kind, seq, ps))
  obtain ⟨N1, N2⟩ := new_one12 w (.cells #[.int .i64 kind, .int .i64 seq, .slice ao no co] 25)
  obtain ⟨w0, hw0⟩ : ∃ w0, w0 = w.alloc (.cells #[.int .i64 kind, .int .i64 seq, .slice ao no co] 25) := ⟨_, rfl⟩
  rw [← hw0] at N1 N2
  obtain ⟨g, hg⟩ : ∃ g, g = w.heap.size := ⟨_, rfl⟩
  rw [← hg] at N1
  have HE0 := Lib.hid (show Ebox w0 g kind seq (.slice ao no co) from N1)
  have HB0 := Lib.hid N2
  have HW0 := Lib.hid hw0
  have HG := Lib.hid hg
  obtain ⟨E, hE⟩ : ∃ E, E = entE cs (kind, seq, ps) := ⟨_, rfl⟩
  rw [← hE] at EC hW hz
  by_cases h0 : E = 0
  · subst h0
    rw [if_neg (by simp)] at hW
    obtain ⟨_, hk, hs, hck⟩ := hz.1 rfl
    dsimp only at hk hs hck
    have hws := wr_small hX.2.2 hck
    have hwp := wr_pos cs ps
    dsimp only at hws
    have BW := Lib.hid (fun wz (hz : Below w.heap.size w wz) => ref_Write10F sv (.slice ao no co) cs ps wz (hR.later hz (Nat.le_refl _)) (hP.later hz (Nat.le_refl _)) hC hX.2.2)
    rw [hck, if_pos rfl] at BW
    obtain ⟨n, rfl⟩ := Int.eq_ofNat_of_zero_le hs.1
    have hn : n ≤ 281474976710656 := by omega
    have hle := encU_le n (by omega)
    have hW : entW cs (kind, (n : Int), ps) = wrF (2 - kind) (encU n ++ btWr (kindsL cs) (psL ps)) := hW
    obtain ⟨L, hL⟩ : ∃ L, L = btWr (kindsL cs) (psL ps) := ⟨_, rfl⟩
    rw [← hL] at hws BW hW hwp
    have HLp := Lib.hid hwp
    have HW := Lib.hid hW
    rw [hW]
    have HLs := Lib.hid (And.intro hle hws)
    clear hR hP hC hX hz hck hW hL hE hws hwp hle hs N1 N2 hw0 hg
    rcases hk with rfl | rfl
    · go_enter Tryz.func10, Tryz.ntmps10
      go_wp2_with fail
      rw [← HW0.out, ← HG.out]
      refine (EC.out w0 HB0.out).mono ?_
      rintro e w1 ⟨rfl, hb⟩
      have HB1 := Lib.hid (HB0.out.trans (hb.mono HB0.out.size))
      have HE1 := Lib.hid (HE0.out.later hb)
      obtain ⟨c0, c1, c2⟩ := HE1.out.cells
      clear hb HE0
      go_wp2_with fail
      refine (BW.out w1 HB1.out).mono ?_
      rintro e w2 ⟨bv, rfl, hO, hb⟩
      have HB2 := Lib.hid (HB1.out.trans (hb.mono HB1.out.size))
      have hE2 := HE1.out.later hb
      have hR2 := hO.rd (by have := HLs.out.2; omega)
      have HR2 := Lib.hid (fun wz (hz : Below w2.heap.size w2 wz) => hR2.later hz (Nat.le_refl _))
      clear c0 c1 c2
      have q0 := fun wz (hz : Below w2.heap.size w2 wz) => (hE2.later hz).cells
      have Q := Lib.hid (fun wz (hz : Below w2.heap.size w2 wz) => And.intro hz (And.intro (q0 wz hz).1 (q0 wz hz).2.1))
      have WU := Lib.hid (fun wz (hz : Below w2.heap.size w2 wz) => (ref_Uint (n : Int) (by omega) (by omega) wz).mono (fun e w' (h : RetB wz (encU (n : Int).toNat) e w') => show (∃ uv, e = .returned uv ∧ Own w' w2.heap.size uv (encU n)) ∧ Below w2.heap.size w2 w' from by
        obtain ⟨uv, he, hO, hb⟩ := h
        rw [Int.toNat_natCast] at hO
        exact ⟨⟨uv, he, hO.base hz.size⟩, hz.trans (hb.mono hz.size)⟩))
      have FW := Lib.hid (fun k wz v (hz : Below w2.heap.size w2 wz) (ho : Own wz w2.heap.size v (encU n ++ L)) => (ref_Write11 k v (encU n ++ L) wz (ho.rd (by have := HLs.out; rw [List.length_append]; omega))).mono (fun e w' h => show (∃ fv, e = .returned (.tuple #[fv, .int .i64 ((wrF k (encU n ++ L)).2 : Nat)]) ∧ Own w' w2.heap.size fv (wrF k (encU n ++ L)).1) ∧ Below w2.heap.size w2 w' from by
        obtain ⟨fv, he, hO, hb⟩ := h
        exact ⟨⟨fv, he, hO.base hz.size⟩, hz.trans (hb.mono hz.size)⟩))
      have hcv : IntKind.u64.wrap (n : Int) = (n : Int) := by
        have : IntKind.u64.wrap (n : Int) = (n : Int) % 18446744073709551616 := by simp [IntKind.wrap, IntKind.signed, IntKind.bits]
        omega
      have m0 : Below w2.heap.size w2 w2.drew := (Below.refl _ _).drew
      clear hb hO hR2 hE2 q0 HE1 BW EC
      go_wp2
      go_region_held3 (fun z => Below w2.heap.size w2 z ∧ z.cell? ⟨g, 0, none⟩ = some (.int .i64 0) ∧ z.cell? ⟨g, 1, none⟩ = some (.int .i64 (n : Int))) (first | (exact Q.out _ m0) | go_keep)
        ((first
          | (go_at_call 29; refine (WU.out _ (by assumption)).mono ?_; rintro e w6 ⟨⟨uv, rfl, hOu⟩, m3⟩; clear m0; have m0 := m3; clear m3)
          | (go_at_call 28; refine (FW.out _ _ _ (by assumption) (by assumption)).mono ?_; rintro e w8 ⟨⟨fv, rfl, hOf⟩, m3⟩; clear m0; have m0 := m3; clear m3)
          | (refine stepB_append w2.heap.size uv (encU n) bv L (by rfl) (by rfl) (by assumption) (by rfl) (HR2.out _ m0) HLp.out (by have := HLs.out; omega) m0.size w2.heap.size w2 m0 (Nat.le_refl _) ?_; intro va wa hOa m3 hga; clear m0 hga hOu; have m0 := m3; clear m3)))
      have HB3 := Lib.hid (HB2.out.trans (m0.mono HB2.out.size))
      have HO3 := Lib.hid (hOf.base (base' := w.heap.size) HB2.out.size)
      clear m0 hOf WU FW Q HR2
      go_wp2
      go_ret2
      exact ⟨_, rfl, HO3.out, HB3.out⟩
    · go_enter Tryz.func10, Tryz.ntmps10
      go_wp2_with fail
      rw [← HW0.out, ← HG.out]
      refine (EC.out w0 HB0.out).mono ?_
      rintro e w1 ⟨rfl, hb⟩
      have HB1 := Lib.hid (HB0.out.trans (hb.mono HB0.out.size))
      have HE1 := Lib.hid (HE0.out.later hb)
      obtain ⟨c0, c1, c2⟩ := HE1.out.cells
      clear hb HE0
      go_wp2_with fail
      refine (BW.out w1 HB1.out).mono ?_
      rintro e w2 ⟨bv, rfl, hO, hb⟩
      have HB2 := Lib.hid (HB1.out.trans (hb.mono HB1.out.size))
      have hE2 := HE1.out.later hb
      have hR2 := hO.rd (by have := HLs.out.2; omega)
      have HR2 := Lib.hid (fun wz (hz : Below w2.heap.size w2 wz) => hR2.later hz (Nat.le_refl _))
      clear c0 c1 c2
      have q0 := fun wz (hz : Below w2.heap.size w2 wz) => (hE2.later hz).cells
      have Q := Lib.hid (fun wz (hz : Below w2.heap.size w2 wz) => And.intro hz (And.intro (q0 wz hz).1 (q0 wz hz).2.1))
      have WU := Lib.hid (fun wz (hz : Below w2.heap.size w2 wz) => (ref_Uint (n : Int) (by omega) (by omega) wz).mono (fun e w' (h : RetB wz (encU (n : Int).toNat) e w') => show (∃ uv, e = .returned uv ∧ Own w' w2.heap.size uv (encU n)) ∧ Below w2.heap.size w2 w' from by
        obtain ⟨uv, he, hO, hb⟩ := h
        rw [Int.toNat_natCast] at hO
        exact ⟨⟨uv, he, hO.base hz.size⟩, hz.trans (hb.mono hz.size)⟩))
      have FW := Lib.hid (fun k wz v (hz : Below w2.heap.size w2 wz) (ho : Own wz w2.heap.size v (encU n ++ L)) => (ref_Write11 k v (encU n ++ L) wz (ho.rd (by have := HLs.out; rw [List.length_append]; omega))).mono (fun e w' h => show (∃ fv, e = .returned (.tuple #[fv, .int .i64 ((wrF k (encU n ++ L)).2 : Nat)]) ∧ Own w' w2.heap.size fv (wrF k (encU n ++ L)).1) ∧ Below w2.heap.size w2 w' from by
        obtain ⟨fv, he, hO, hb⟩ := h
        exact ⟨⟨fv, he, hO.base hz.size⟩, hz.trans (hb.mono hz.size)⟩))
      have hcv : IntKind.u64.wrap (n : Int) = (n : Int) := by
        have : IntKind.u64.wrap (n : Int) = (n : Int) % 18446744073709551616 := by simp [IntKind.wrap, IntKind.signed, IntKind.bits]
        omega
      have m0 : Below w2.heap.size w2 w2.drew := (Below.refl _ _).drew
      clear hb hO hR2 hE2 q0 HE1 BW EC
      go_wp2
      go_region_held3 (fun z => Below w2.heap.size w2 z ∧ z.cell? ⟨g, 0, none⟩ = some (.int .i64 1) ∧ z.cell? ⟨g, 1, none⟩ = some (.int .i64 (n : Int))) (first | (exact Q.out _ m0) | go_keep)
        ((first
          | (go_at_call 29; refine (WU.out _ (by assumption)).mono ?_; rintro e w6 ⟨⟨uv, rfl, hOu⟩, m3⟩; clear m0; have m0 := m3; clear m3)
          | (go_at_call 28; refine (FW.out _ _ _ (by assumption) (by assumption)).mono ?_; rintro e w8 ⟨⟨fv, rfl, hOf⟩, m3⟩; clear m0; have m0 := m3; clear m3)
          | (refine stepB_append w2.heap.size uv (encU n) bv L (by rfl) (by rfl) (by assumption) (by rfl) (HR2.out _ m0) HLp.out (by have := HLs.out; omega) m0.size w2.heap.size w2 m0 (Nat.le_refl _) ?_; intro va wa hOa m3 hga; clear m0 hga hOu; have m0 := m3; clear m3)))
      have HB3 := Lib.hid (HB2.out.trans (m0.mono HB2.out.size))
      have HO3 := Lib.hid (hOf.base (base' := w.heap.size) HB2.out.size)
      clear m0 hOf WU FW Q HR2
      go_wp2
      go_ret2
      exact ⟨_, rfl, HO3.out, HB3.out⟩
  · rw [if_pos h0] at hW
    have q : ((E : Int) != 0) = true := by rw [bne_iff_ne]; omega
    have HW := Lib.hid hW
    clear hR hP hC hX hz h0 hW hE N1 N2 hw0 hg
    go_enter Tryz.func10, Tryz.ntmps10
    go_wp2_with fail
    rw [← HW0.out, ← HG.out]
    refine (EC.out w0 HB0.out).mono ?_
    rintro e w1 ⟨rfl, hb⟩
    have HB1 := Lib.hid (HB0.out.trans (hb.mono HB0.out.size))
    clear hb HE0
    go_wp2
    go_ret2
    rw [HW.out]
    exact ⟨_, rfl, own_nil _ _, HB1.out⟩

end Go.Proofs.YteiphdcgffapbaaGreatDoor
