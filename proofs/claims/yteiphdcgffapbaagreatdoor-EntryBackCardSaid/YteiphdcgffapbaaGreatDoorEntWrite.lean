/-
  entry.Write: the landed code.
-/
import Derived.Test.YteiphdcgffapbaaGreatDoorEntry
import Derived.Test.YteiphdcgffapbaaGreatDoorGEntP
import Derived.Test.YteiphdcgffapbaaGreatDoorBatW
import Derived.Test.YteiphdcgffapbaaGreatDoorGFrame
import Derived.Test.YteiphdcgffapbaaGreatDoorGBaseA
set_option linter.unusedVariables false
set_option linter.unusedSimpArgs false
set_option maxRecDepth 1000000
namespace Go.Proofs.YteiphdcgffapbaaGreatDoor
open Go.RowKit Go.Shelf

set_option maxHeartbeats 8000000 in
theorem entry_Write (sv ev : Value) (cs : List ColB) (x : EntB) (w : World) (hR : RdC w sv cs) (hE : RdN w ev x) (hC : CS cs) (hX : EnO x) (hT : Tabs w) (hF : Frs w) :
    Calls Tryz.prog 9 #[sv, ev] w (RetW w (entW cs x)) := by
  obtain ⟨kind, seq, ps⟩ := x
  obtain ⟨pv, rfl, hP⟩ := hE
  dsimp only at hP
  obtain ⟨ao, no, co, rfl⟩ := hP.lit12
  have EC := Lib.hid (fun wz (hz : Below w.heap.size w wz) => entry_Check sv _ cs (kind, seq, ps) wz (hR.later hz (Nat.le_refl _)) ⟨_, rfl, hP.later hz (Nat.le_refl _)⟩ hC hX (hT.later hz))
  have hW : entW cs (kind, seq, ps) = if entE cs (kind, seq, ps) ≠ 0 then ([], entE cs (kind, seq, ps)) else wrF (2 - kind) (entP cs (kind, seq, ps)) := rfl
  have hz := entE_zero (cs := cs) (x := (kind, seq, ps))
  obtain ⟨N1, N2⟩ := new_one12 w (.cells #[.int .i64 kind, .int .i64 seq, .slice ao no co] 25)
  obtain ⟨w0, hw0⟩ : ∃ w0, w0 = w.alloc (.cells #[.int .i64 kind, .int .i64 seq, .slice ao no co] 25) := ⟨_, rfl⟩
  rw [← hw0] at N1 N2
  obtain ⟨g, hg⟩ : ∃ g, g = w.heap.size := ⟨_, rfl⟩
  rw [← hg] at N1
  have HE0 := Lib.hid (show Ebox w0 g kind seq (.slice ao no co) from N1)
  have HB0 := Lib.hid N2
  have HW0 := Lib.hid hw0
  have HG := Lib.hid hg
  obtain ⟨E, hE⟩ : ∃ E, E = entE cs (kind, seq, ps) := ⟨_, rfl⟩
  rw [← hE] at EC hW hz
  by_cases h0 : E = 0
  · subst h0
    rw [if_neg (by simp)] at hW
    obtain ⟨_, hk, hs, hck⟩ := hz.1 rfl
    dsimp only at hk hs hck
    have hws := wr_small hX.2.2 hck
    have hwp := wr_pos cs ps
    dsimp only at hws
    have BW := Lib.hid (fun wz (hz : Below w.heap.size w wz) => batch_Write sv (.slice ao no co) cs ps wz (hR.later hz (Nat.le_refl _)) (hP.later hz (Nat.le_refl _)) hC hX.2.2 (hT.later hz))
    rw [hck, if_pos rfl] at BW
    obtain ⟨n, rfl⟩ := Int.eq_ofNat_of_zero_le hs.1
    have hn : n ≤ 281474976710656 := by omega
    have hle := encU_le n (by omega)
    have hW : entW cs (kind, (n : Int), ps) = wrF (2 - kind) (encU n ++ btWr (kindsL cs) (psL ps)) := hW
    obtain ⟨L, hL⟩ : ∃ L, L = btWr (kindsL cs) (psL ps) := ⟨_, rfl⟩
    rw [← hL] at hws BW hW hwp
    have HLp := Lib.hid hwp
    have HW := Lib.hid hW
    rw [hW]
    have HLs := Lib.hid (And.intro hle hws)
    have HF := Lib.hid hF
    clear hR hP hC hX hT hF hz hck hW hL hE hws hwp hle hs N1 N2 hw0 hg
    rcases hk with rfl | rfl
    · go_enter Tryz.func9, Tryz.ntmps9
      go_wp2_with fail
      rw [← HW0.out, ← HG.out]
      refine (EC.out w0 HB0.out).mono ?_
      rintro e w1 ⟨rfl, hb⟩
      have HB1 := Lib.hid (HB0.out.trans (hb.mono HB0.out.size))
      have HE1 := Lib.hid (HE0.out.later hb)
      obtain ⟨c0, c1, c2⟩ := HE1.out.cells
      clear hb HE0
      go_wp2_with fail
      refine (BW.out w1 HB1.out).mono ?_
      rintro e w2 ⟨bv, rfl, hO, hb⟩
      have HB2 := Lib.hid (HB1.out.trans (hb.mono HB1.out.size))
      have hE2 := HE1.out.later hb
      have hR2 := hO.rd (by have := HLs.out.2; omega)
      have HR2 := Lib.hid (fun wz (hz : Below w2.heap.size w2 wz) => hR2.later hz (Nat.le_refl _))
      clear c0 c1 c2
      have hF2 := HF.out.later HB2.out
      have q0 := fun wz (hz : Below w2.heap.size w2 wz) => (hE2.later hz).cells
      have qf := fun wz (hz : Below w2.heap.size w2 wz) => hF2.later hz
      have Q := Lib.hid (fun wz (hz : Below w2.heap.size w2 wz) => And.intro hz (And.intro (q0 wz hz).1 (And.intro (q0 wz hz).2.1 (qf wz hz).1)))
      have WU := Lib.hid (fun wz (hz : Below w2.heap.size w2 wz) => (wire_Uint (n : Int) (by omega) (by omega) wz).mono (fun e w' (h : RetB wz (encU (n : Int).toNat) e w') => show (∃ uv, e = .returned uv ∧ Own w' w2.heap.size uv (encU n)) ∧ Below w2.heap.size w2 w' from by
        obtain ⟨uv, he, hO, hb⟩ := h
        rw [Int.toNat_natCast] at hO
        exact ⟨⟨uv, he, hO.base hz.size⟩, hz.trans (hb.mono hz.size)⟩))
      have FW := Lib.hid (fun k wz v (hz : Below w2.heap.size w2 wz) (ho : Own wz w2.heap.size v (encU n ++ L)) => (frame_Write k v (encU n ++ L) wz (ho.rd (by have := HLs.out; rw [List.length_append]; omega))).mono (fun e w' h => show (∃ fv, e = .returned (.tuple #[fv, .int .i64 ((wrF k (encU n ++ L)).2 : Nat)]) ∧ Own w' w2.heap.size fv (wrF k (encU n ++ L)).1) ∧ Below w2.heap.size w2 w' from by
        obtain ⟨fv, he, hO, hb⟩ := h
        exact ⟨⟨fv, he, hO.base hz.size⟩, hz.trans (hb.mono hz.size)⟩))
      have hcv : IntKind.u64.wrap (n : Int) = (n : Int) := by
        have : IntKind.u64.wrap (n : Int) = (n : Int) % 18446744073709551616 := by simp [IntKind.wrap, IntKind.signed, IntKind.bits]
        omega
      have m0 : Below w2.heap.size w2 w2.drew := (Below.refl _ _).drew
      clear hb hO hR2 hE2 hF2 q0 qf HE1 BW EC
      go_wp2
      go_region_held3 (fun z => Below w2.heap.size w2 z ∧ z.cell? ⟨g, 0, none⟩ = some (.int .i64 0) ∧ z.cell? ⟨g, 1, none⟩ = some (.int .i64 (n : Int)) ∧ z.cell? ⟨0, 0, none⟩ = some (.int .i64 2)) (first | (exact Q.out _ m0) | go_keep)
        ((first
          | (go_at_call 26; refine (WU.out _ (by assumption)).mono ?_; rintro e w6 ⟨⟨uv, rfl, hOu⟩, m3⟩; clear m0; have m0 := m3; clear m3)
          | (go_at_call 20; refine (FW.out _ _ _ (by assumption) (by assumption)).mono ?_; rintro e w8 ⟨⟨fv, rfl, hOf⟩, m3⟩; clear m0; have m0 := m3; clear m3)
          | (refine stepB_append w2.heap.size uv (encU n) bv L (by rfl) (by rfl) (by assumption) (by rfl) (HR2.out _ m0) HLp.out (by have := HLs.out; omega) m0.size w2.heap.size w2 m0 (Nat.le_refl _) ?_; intro va wa hOa m3 hga; clear m0 hga hOu; have m0 := m3; clear m3)))
      have HB3 := Lib.hid (HB2.out.trans (m0.mono HB2.out.size))
      have HO3 := Lib.hid (hOf.base (base' := w.heap.size) HB2.out.size)
      clear m0 hOf WU FW Q HR2
      go_wp2
      go_ret2
      exact ⟨_, rfl, HO3.out, HB3.out⟩
    · go_enter Tryz.func9, Tryz.ntmps9
      go_wp2_with fail
      rw [← HW0.out, ← HG.out]
      refine (EC.out w0 HB0.out).mono ?_
      rintro e w1 ⟨rfl, hb⟩
      have HB1 := Lib.hid (HB0.out.trans (hb.mono HB0.out.size))
      have HE1 := Lib.hid (HE0.out.later hb)
      obtain ⟨c0, c1, c2⟩ := HE1.out.cells
      clear hb HE0
      go_wp2_with fail
      refine (BW.out w1 HB1.out).mono ?_
      rintro e w2 ⟨bv, rfl, hO, hb⟩
      have HB2 := Lib.hid (HB1.out.trans (hb.mono HB1.out.size))
      have hE2 := HE1.out.later hb
      have hR2 := hO.rd (by have := HLs.out.2; omega)
      have HR2 := Lib.hid (fun wz (hz : Below w2.heap.size w2 wz) => hR2.later hz (Nat.le_refl _))
      clear c0 c1 c2
      have hF2 := HF.out.later HB2.out
      have q0 := fun wz (hz : Below w2.heap.size w2 wz) => (hE2.later hz).cells
      have qf := fun wz (hz : Below w2.heap.size w2 wz) => hF2.later hz
      have Q := Lib.hid (fun wz (hz : Below w2.heap.size w2 wz) => And.intro hz (And.intro (q0 wz hz).1 (And.intro (q0 wz hz).2.1 (qf wz hz).2)))
      have WU := Lib.hid (fun wz (hz : Below w2.heap.size w2 wz) => (wire_Uint (n : Int) (by omega) (by omega) wz).mono (fun e w' (h : RetB wz (encU (n : Int).toNat) e w') => show (∃ uv, e = .returned uv ∧ Own w' w2.heap.size uv (encU n)) ∧ Below w2.heap.size w2 w' from by
        obtain ⟨uv, he, hO, hb⟩ := h
        rw [Int.toNat_natCast] at hO
        exact ⟨⟨uv, he, hO.base hz.size⟩, hz.trans (hb.mono hz.size)⟩))
      have FW := Lib.hid (fun k wz v (hz : Below w2.heap.size w2 wz) (ho : Own wz w2.heap.size v (encU n ++ L)) => (frame_Write k v (encU n ++ L) wz (ho.rd (by have := HLs.out; rw [List.length_append]; omega))).mono (fun e w' h => show (∃ fv, e = .returned (.tuple #[fv, .int .i64 ((wrF k (encU n ++ L)).2 : Nat)]) ∧ Own w' w2.heap.size fv (wrF k (encU n ++ L)).1) ∧ Below w2.heap.size w2 w' from by
        obtain ⟨fv, he, hO, hb⟩ := h
        exact ⟨⟨fv, he, hO.base hz.size⟩, hz.trans (hb.mono hz.size)⟩))
      have hcv : IntKind.u64.wrap (n : Int) = (n : Int) := by
        have : IntKind.u64.wrap (n : Int) = (n : Int) % 18446744073709551616 := by simp [IntKind.wrap, IntKind.signed, IntKind.bits]
        omega
      have m0 : Below w2.heap.size w2 w2.drew := (Below.refl _ _).drew
      clear hb hO hR2 hE2 hF2 q0 qf HE1 BW EC
      go_wp2
      go_region_held3 (fun z => Below w2.heap.size w2 z ∧ z.cell? ⟨g, 0, none⟩ = some (.int .i64 1) ∧ z.cell? ⟨g, 1, none⟩ = some (.int .i64 (n : Int)) ∧ z.cell? ⟨0, 1, none⟩ = some (.int .i64 1)) (first | (exact Q.out _ m0) | go_keep)
        ((first
          | (go_at_call 26; refine (WU.out _ (by assumption)).mono ?_; rintro e w6 ⟨⟨uv, rfl, hOu⟩, m3⟩; clear m0; have m0 := m3; clear m3)
          | (go_at_call 20; refine (FW.out _ _ _ (by assumption) (by assumption)).mono ?_; rintro e w8 ⟨⟨fv, rfl, hOf⟩, m3⟩; clear m0; have m0 := m3; clear m3)
          | (refine stepB_append w2.heap.size uv (encU n) bv L (by rfl) (by rfl) (by assumption) (by rfl) (HR2.out _ m0) HLp.out (by have := HLs.out; omega) m0.size w2.heap.size w2 m0 (Nat.le_refl _) ?_; intro va wa hOa m3 hga; clear m0 hga hOu; have m0 := m3; clear m3)))
      have HB3 := Lib.hid (HB2.out.trans (m0.mono HB2.out.size))
      have HO3 := Lib.hid (hOf.base (base' := w.heap.size) HB2.out.size)
      clear m0 hOf WU FW Q HR2
      go_wp2
      go_ret2
      exact ⟨_, rfl, HO3.out, HB3.out⟩
  · rw [if_pos h0] at hW
    have q : ((E : Int) != 0) = true := by rw [bne_iff_ne]; omega
    have HW := Lib.hid hW
    clear hR hP hC hX hT hF hz h0 hW hE N1 N2 hw0 hg
    go_enter Tryz.func9, Tryz.ntmps9
    go_wp2_with fail
    rw [← HW0.out, ← HG.out]
    refine (EC.out w0 HB0.out).mono ?_
    rintro e w1 ⟨rfl, hb⟩
    have HB1 := Lib.hid (HB0.out.trans (hb.mono HB0.out.size))
    clear hb HE0
    go_wp2
    go_ret2
    rw [HW.out]
    exact ⟨_, rfl, own_nil _ _, HB1.out⟩

end Go.Proofs.YteiphdcgffapbaaGreatDoor
