/-
  Layer 17's laws: their example.
-/
import Derived.Test.YtokpphhmmcoeaaaGreatDoorVwTake
import Derived.Test.YtokpphhmmcoeaaaGreatDoorGBaseB
import Derived.Test.YtokpphhmmcoeaaaGreatDoorZSameW
import Derived.Lib.Hide
import Derived.BigQuiet
set_option linter.unusedVariables false
set_option linter.unusedSimpArgs false
set_option maxRecDepth 1000000
namespace Go.Proofs.YtokpphhmmcoeaaaGreatDoor
open Go.RowKit Go.Shelf

def ex17B : List CellB := [(2, ⟨#[]⟩), (0, ⟨#[98]⟩)]
def ex17P : List PairB := [(ex10A, 1)]
def ex17Q : List PairB := [(ex10A, -1), (ex17B, 1)]
def ex17R : List PairB := [(ex17B, 1)]
theorem ex17_rows : CES ex10A ∧ CES ex17B := by
  refine ⟨fun c hc => ?_, fun c hc => ?_⟩
  · simp [ex10A] at hc
    rcases hc with rfl | rfl <;> exact ⟨by decide, by decide⟩
  · simp [ex17B] at hc
    rcases hc with rfl | rfl <;> exact ⟨by decide, by decide⟩
theorem ex17P_ok : PSO ex17P := by
  intro p hp
  simp [ex17P] at hp
  subst hp
  exact ⟨ex17_rows.1, by decide, by decide⟩
theorem ex17Q_ok : PSO ex17Q := by
  intro p hp
  simp [ex17Q] at hp
  rcases hp with rfl | rfl
  · exact ⟨ex17_rows.1, by decide, by decide⟩
  · exact ⟨ex17_rows.2, by decide, by decide⟩
theorem ex17_fine : errS (colsL ex10C) = 0 := by decide +kernel
theorem ex17_one : sumE ex10C [] ex17P = 0 ∧ sumO ex10C [] ex17P = ex17P := by decide +kernel
theorem ex17_two : sumE ex10C ex17P ex17Q = 0 ∧ sumO ex10C ex17P ex17Q = ex17R := by decide +kernel
theorem ex17_take1 : tkE ex10C [] (0, 0, prt ex10C) (0, ex17P, 1, 50, prt ex10C) = 0 ∧ tkQ ex10C [] (0, 0, prt ex10C) (0, ex17P, 1, 50, prt ex10C) = ex17P ∧ tkC ex10C [] (0, 0, prt ex10C) (0, ex17P, 1, 50, prt ex10C) = (1, 50, prt ex10C) ∧ tkN ex10C [] (0, 0, prt ex10C) 0 (0, ex17P, 1, 50, prt ex10C) = 1 := by
  obtain ⟨h1, h2⟩ := tk_change (cs := ex10C) (qs := []) (c := (0, 0, prt ex10C)) (m := (0, ex17P, 1, 50, prt ex10C)) rfl rfl (by dsimp only; omega)
  have h0 : tkE ex10C [] (0, 0, prt ex10C) (0, ex17P, 1, 50, prt ex10C) = 0 := h1.trans ex17_one.1
  obtain ⟨k1, k2, k3⟩ := tk_yes (n := 0) h0
  exact ⟨h0, k1.trans (h2.trans ex17_one.2), k2, k3⟩
theorem ex17_take2 : tkE ex10C ex17P (1, 50, prt ex10C) (0, ex17Q, 2, 90, prt ex10C) = 0 ∧ tkQ ex10C ex17P (1, 50, prt ex10C) (0, ex17Q, 2, 90, prt ex10C) = ex17R ∧ tkC ex10C ex17P (1, 50, prt ex10C) (0, ex17Q, 2, 90, prt ex10C) = (2, 90, prt ex10C) ∧ tkN ex10C ex17P (1, 50, prt ex10C) 1 (0, ex17Q, 2, 90, prt ex10C) = 2 := by
  obtain ⟨h1, h2⟩ := tk_change (cs := ex10C) (qs := ex17P) (c := (1, 50, prt ex10C)) (m := (0, ex17Q, 2, 90, prt ex10C)) rfl rfl (by dsimp only; omega)
  have h0 : tkE ex10C ex17P (1, 50, prt ex10C) (0, ex17Q, 2, 90, prt ex10C) = 0 := h1.trans ex17_two.1
  obtain ⟨k1, k2, k3⟩ := tk_yes (n := 1) h0
  exact ⟨h0, k1.trans (h2.trans ex17_two.2), k2, k3⟩

/-- Pairs in a block of their own. -/
theorem newP_built17 {w w' : World} {B : Nat} (ts : List TriB) (hw : w' = w.alloc (.cells ((ts.map triV).flatten.toArray) 75)) (hs : ts.length ≤ 100) (hB : B ≤ w.heap.size) (h : ∀ t ∈ ts, NewE w B t.1 t.2.1) : NewP w' B (.slice (some ⟨w.heap.size, 0, none⟩) ts.length ts.length) (ts.map (·.2)) := by
  subst hw
  have hbe := (Below.refl w.heap.size w).alloc (Nat.le_refl _) (.cells ((ts.map triV).flatten.toArray) 75)
  have ho := ownG_built pairE w w.heap.size (Nat.le_refl _) (ts.map triV) (by intro x hx; obtain ⟨t, _, rfl⟩ := List.mem_map.1 hx; rfl) (by
    intro x hx u hu
    obtain ⟨t, ht, rfl⟩ := List.mem_map.1 hx
    exact triV_one (h t ht).1 u hu) (by simp; omega)
  rw [List.length_map] at ho
  exact ⟨ts, rfl, OwnG.rd ho (by rw [List.length_map]; omega), fun i hi => by rw [adr_lit]; exact hB, fun t ht => ⟨(h t ht).1.later hbe (Nat.le_refl _), (h t ht).2⟩⟩

abbrev S17 (w : World) (b r : Nat) (z : World) : Prop := z.cell? ⟨b, 0, none⟩ = some (.slice (some ⟨r, 0, none⟩) 2 2) ∧ Below w.heap.size w z

theorem S17.of {w z z' : World} {b r : Nat} (hb : b < w.heap.size) (h : S17 w b r z) (hz : Below w.heap.size z z') : S17 w b r z' := ⟨(hz.cell (p := ⟨b, 0, none⟩) hb).trans h.1, h.2.trans hz⟩
theorem S17.alloc {w z : World} {b r : Nat} (hb : b < w.heap.size) (h : S17 w b r z) (x : Obj) : S17 w b r (z.alloc x) := S17.of hb h ((Below.refl _ z).alloc h.2.size x)
theorem S17.drew {w z : World} {b r : Nat} (hb : b < w.heap.size) (h : S17 w b r z) : S17 w b r z.drew := S17.of hb h (Below.refl _ z).drew

theorem ex17_tail {w : World} {b : Nat} (h : RdP w (.slice (some ⟨b, 0, none⟩) 2 2) ex17Q) : RdP w (.slice (some ⟨b, 2, none⟩) 1 1) ex17R := by
  obtain ⟨v', e1, e2⟩ := h.from 1 (by decide)
  have h2 : (Instr.slice 27 (.slice (some ⟨b, 0, none⟩) 2 2) (some (.int .i64 ((1 : Nat) : Int))) none none).run Tryz.prog w = .ok (.slice (some ⟨b, 2, none⟩) 1 1) w := by kernel_rfl
  have e3 := (e1 w).symm.trans h2
  injection e3 with e3
  subst e3
  exact e2 w (Below.refl _ _)

set_option maxHeartbeats 16000000 in
theorem law17_alive (w : World) (hT : Tabs w) :
    Calls Tryz.prog 12 #[] w fun e w' => e = .returned (.bool true) ∧ Below w.heap.size w w' := by
  have HV1 := Lib.hid (rdC_two10 w (⟨#[105, 100]⟩, 0) (⟨#[110, 97, 109, 101]⟩, 4))
  have HB1 := Lib.hid ((Below.refl w.heap.size w).alloc (Nat.le_refl _) (.cells #[.string ⟨#[105, 100]⟩, .int .i64 0, .string ⟨#[110, 97, 109, 101]⟩, .int .i64 4] 68))
  have HT := Lib.hid hT
  have NW := Lib.hid (view_New _ ex10C (fun _ => False) _ HV1.out ex10C_ok (fun _ h => h.elim) (hT.later HB1.out))
  unfold NvO at NW
  rw [ex17_fine] at NW
  clear hT
  go_enter Tryz.func12, Tryz.ntmps12
  go_wp2_with fail
  refine NW.out.mono ?_
  rintro e w2 ⟨v, rfl, hb, hv⟩
  rcases hv with ⟨h0, _⟩ | ⟨_, g, rfl, hg, hv⟩
  · exact absurd rfl h0
  have HB2 := Lib.hid (HB1.out.trans (hb.mono HB1.out.size))
  have HG := Lib.hid (Nat.le_trans HB1.out.size hg)
  have HVW2 := Lib.hid (show Vw 65 w2 w.heap.size g ex10C [] (0, 0, prt ex10C) 0 (fun _ => False) from ⟨hv.set, Nat.le_trans HB1.out.size hg, hv.free, hv.box⟩)
  have HV2 := Lib.hid (HV1.out.later hb (Nat.le_refl _))
  have PR := Lib.hid (schema_Print _ ex10C w2 (HV1.out.later hb (Nat.le_refl _)) ex10C_ok (HT.out.later HB2.out))
  rw [if_pos ex17_fine, ex17_fine] at PR
  have PR : Hid (Calls Tryz.prog 19 #[.slice (some ⟨w.heap.size, 0, none⟩) 2 2] w2 fun e w' => e = .returned (.tuple #[.int .u32 (prt ex10C), .int .i64 ((0 : Nat) : Int)]) ∧ Below w2.heap.size w2 w') := PR
  obtain ⟨pr, hpr⟩ : ∃ pr, pr = prt ex10C := ⟨_, rfl⟩
  rw [← hpr] at PR HVW2
  have HPR := Lib.hid hpr
  clear hb hv hg NW HB1 HV1 hpr
  go_wp2_with fail
  refine PR.out.mono ?_
  rintro e w3 ⟨rfl, hb⟩
  have HB3 := Lib.hid (HB2.out.trans (hb.mono HB2.out.size))
  have HVW3 := Lib.hid (HVW2.out.later hb)
  clear hb PR HVW2 HB2
  go_wp2_with fail
  refine (cell_Int10 1 1 (by decide) _).mono ?_
  rintro e w4 ⟨rfl, hb⟩
  have HB4 := Lib.hid (HB3.out.trans (hb.mono HB3.out.size))
  have HVW4 := Lib.hid (HVW3.out.later hb)
  clear hb HB3 HVW3
  go_wp2_with fail
  obtain ⟨r1, hr1⟩ : ∃ r1, r1 = w4.heap.size := ⟨_, rfl⟩
  obtain ⟨w5, hw5⟩ : ∃ w5, w5 = (w4.alloc (.cells #[.int .u64 1, .string ⟨#[]⟩, .int .u64 0, .string ⟨#[97]⟩] 71)).alloc (.cells #[.slice (some ⟨w4.heap.size, 0, none⟩) 2 2, .int .i64 1] 75) := ⟨_, rfl⟩
  rw [← hw5]
  have hra := rdE_two10 w4 (1, ⟨#[]⟩) (0, ⟨#[97]⟩)
  have hb4 := (Below.refl w4.heap.size w4).alloc (Nat.le_refl _) (.cells #[.int .u64 1, .string ⟨#[]⟩, .int .u64 0, .string ⟨#[97]⟩] 71)
  obtain ⟨M0, M1, M2⟩ := new1 (w4.alloc (.cells #[.int .u64 1, .string ⟨#[]⟩, .int .u64 0, .string ⟨#[97]⟩] 71)) (.cells #[.slice (some ⟨w4.heap.size, 0, none⟩) 2 2, .int .i64 1] 75)
  rw [← hw5] at M0 M1 M2
  have hsa : (w4.alloc (.cells #[.int .u64 1, .string ⟨#[]⟩, .int .u64 0, .string ⟨#[97]⟩] 71)).heap.size = w4.heap.size + 1 := World.size_alloc _ _
  have hpa := newP_built17 (w' := w5) (B := w4.heap.size) [(.slice (some ⟨w4.heap.size, 0, none⟩) 2 2, (ex10A, 1))] hw5 (by simp) (by omega) (fun t ht => by
    simp at ht
    subst ht
    exact ⟨hra, fun i _ => by rw [adr_lit]; exact Nat.le_refl _⟩)
  rw [hsa] at M1 hpa
  have HB5 := Lib.hid (HB4.out.trans ((hb4.trans (M2.mono (by omega))).mono HB4.out.size))
  have HVW5 := Lib.hid (HVW4.out.later (hb4.trans (M2.mono (by omega))))
  have HRA := Lib.hid (hra.later M2 (Nat.le_refl _))
  have HPA := Lib.hid hpa
  have k0 := cell_of_row _ _ 0 _ _ _ M1
  simp at k0
  rw [← hr1] at k0 HRA HPA ⊢
  have hrl : r1 + 1 < w5.heap.size := by omega
  have HGL := Lib.hid (show g < r1 from by rw [hr1]; exact HVW4.out.lt)
  have CI := Lib.hid (fun wz (hz : S17 w5 (r1 + 1) r1 wz) => (cell_Int10 2 2 (by decide) wz).mono fun e w' (h : e = .returned (.agg #[.int .u64 ((2 : Nat) : Int), .string ⟨#[]⟩]) ∧ Below wz.heap.size wz w') => (show e = .returned (.agg #[.int .u64 ((2 : Nat) : Int), .string ⟨#[]⟩]) ∧ S17 w5 (r1 + 1) r1 w' from ⟨h.1, S17.of hrl hz (h.2.mono hz.2.size)⟩))
  clear hw5 hra hb4 M0 M1 M2 hsa hpa HB4 HVW4 hr1
  have k1 := Below.refl w5.heap.size w5
  go_region_held3 (fun z => z.cell? ⟨r1 + 1, 0, none⟩ = some (.slice (some ⟨r1, 0, none⟩) 2 2) ∧ Below w5.heap.size w5 z) (first | exact ⟨k0, k1⟩ | exact S17.alloc hrl (by assumption) _ | exact S17.drew hrl ⟨k0, k1⟩)
    ((go_at_call 25; refine (CI.out _ (by assumption)).mono ?_; rintro e w6 ⟨rfl, k0, k1⟩))
  all_goals
    obtain ⟨r2, hr2⟩ : ∃ r2, r2 = w6.heap.size := ⟨_, rfl⟩
    obtain ⟨w7, hw7⟩ : ∃ w7, w7 = (w6.alloc (.cells #[.int .u64 2, .string ⟨#[]⟩, .int .u64 0, .string ⟨#[98]⟩] 71)).alloc (.cells #[.slice (some ⟨r1, 0, none⟩) 2 2, .int .i64 (-1), .slice (some ⟨w6.heap.size, 0, none⟩) 2 2, .int .i64 1] 75) := ⟨_, rfl⟩
    have hrb := rdE_two10 w6 (2, ⟨#[]⟩) (0, ⟨#[98]⟩)
    have hb6 := (Below.refl w6.heap.size w6).alloc (Nat.le_refl _) (.cells #[.int .u64 2, .string ⟨#[]⟩, .int .u64 0, .string ⟨#[98]⟩] 71)
    have hsb : (w6.alloc (.cells #[.int .u64 2, .string ⟨#[]⟩, .int .u64 0, .string ⟨#[98]⟩] 71)).heap.size = w6.heap.size + 1 := World.size_alloc _ _
    have hra6 := (HRA.out.later k1 (Nat.le_refl _)).later hb6 (Nat.le_refl _)
    have hr16 : r1 ≤ w6.heap.size := by have := k1.size; omega
    have hpb := newP_built17 (w' := w7) (B := r1) [(.slice (some ⟨r1, 0, none⟩) 2 2, (ex10A, -1)), (.slice (some ⟨w6.heap.size, 0, none⟩) 2 2, (ex17B, 1))] hw7 (by simp) (by rw [hsb]; omega) (fun t ht => by
      simp at ht
      rcases ht with rfl | rfl
      · exact ⟨hra6, fun i _ => by rw [adr_lit]; exact Nat.le_refl _⟩
      · exact ⟨hrb, fun i _ => by rw [adr_lit]; exact hr16⟩)
    rw [hsb] at hpb
    have hb7 : Below w6.heap.size w6 w7 := by rw [hw7]; exact hb6.alloc (by rw [hsb]; omega) _
    have HB7 := Lib.hid (HB5.out.trans ((k1.trans (hb7.mono k1.size)).mono HB5.out.size))
    have HVW7 := Lib.hid (HVW5.out.later (k1.trans (hb7.mono k1.size)))
    have HPA7 := Lib.hid (HPA.out.later (k1.trans (hb7.mono k1.size)) (Nat.le_refl _))
    have HPB7 : Hid (NewP w7 r1 (.slice (some ⟨r2 + 1, 0, none⟩) 2 2) ex17Q) := Lib.hid (by rw [hr2]; exact hpb)
    have HR2 := Lib.hid hr2
    clear hr2
    clear hrb hb6 hsb hra6 hpb hb7 HB5 HVW5 HPA HRA k0 k1
    go_wp2_with fail
    rw [← hw7]
    have TK := Lib.hid (view_Take HVW7.out (fun _ h => h.elim) _ (0, ex17P, 1, 50, pr) ⟨_, rfl, HPA7.out.rd⟩ ex17P_ok (by omega) ex10C_ok (HT.out.later HB7.out))
    have TKE := ex17_take1
    rw [← HPR.out] at TKE
    unfold TkO at TK
    rw [TKE.1, TKE.2.1, TKE.2.2.1, TKE.2.2.2] at TK
    clear hw7 TKE
    refine TK.out.mono ?_
    rintro e w8 ⟨rfl, hv, hO⟩
    have hb8 := HVW7.out.below hO
    have HB8 := Lib.hid (HB7.out.trans hb8)
    have HVW8 := Lib.hid hv
    have HPB8 := Lib.hid (HPB7.out.only hO fun q hq e => by have := HGL.out; omega)
    clear hv hO hb8 TK HVW7 HPA7 HPB7 HB7
    go_wp2_with fail
    rw [← HR2.out]
    have TK := Lib.hid (view_Take HVW8.out (fun _ h => h.elim) _ (0, ex17Q, 2, 90, pr) ⟨_, rfl, HPB8.out.rd⟩ ex17Q_ok (by omega) ex10C_ok (HT.out.later HB8.out))
    have TKE := ex17_take2
    rw [← HPR.out] at TKE
    unfold TkO at TK
    rw [TKE.1, TKE.2.1, TKE.2.2.1, TKE.2.2.2] at TK
    clear TKE
    refine TK.out.mono ?_
    rintro e w9 ⟨rfl, hv, hO⟩
    have hb9 := HVW8.out.below hO
    have HB9 := Lib.hid (HB8.out.trans hb9)
    have HVW9 := Lib.hid hv
    have HPB9 := Lib.hid (HPB8.out.only hO fun q hq e => by have := HGL.out; omega)
    clear hv hO hb9 TK HVW8 HPB8 HB8
    go_wp2_with fail
    have hsl : (1 : Nat) ≤ 2 := by decide
    have HPC := Lib.hid (ex17_tail HPB9.out.rd)
    have PS := Lib.hid (fun wz (hz : Below w9.heap.size w9 wz) => view_Pairs (HVW9.out.later hz))
    have SA := Lib.hid (fun wz v (hz : Below w9.heap.size w9 wz) (hv : RdP wz v ex17R) => (zset_Same v (.slice (some ⟨r2 + 1, 2, none⟩) 1 1) ex17R ex17R wz hv (HPC.out.later hz (Nat.le_refl _))).mono fun e w' (h : e = .returned (.bool (decide (ex17R = ex17R))) ∧ Below wz.heap.size wz w') => (show e = .returned (.bool true) ∧ Below w9.heap.size w9 w' from ⟨by rw [h.1]; rfl, hz.trans (h.2.mono hz.size)⟩))
    have TA := Lib.hid (fun wz (hz : Below w9.heap.size w9 wz) => view_Taken (HVW9.out.later hz))
    have CU := Lib.hid (fun wz (hz : Below w9.heap.size w9 wz) => (view_Cursor (HVW9.out.later hz)).mono fun e w' (h : e = .returned (.agg #[.int .i64 2, .int .i64 90, .int .u32 pr]) ∧ Below wz.heap.size wz w') => (show e = .returned (.agg #[.int .i64 2, .int .i64 90, .int .u32 pr]) ∧ Below w9.heap.size w9 w' from ⟨h.1, hz.trans (h.2.mono hz.size)⟩))
    have hfd : ∀ u, (Instr.field 30 (.agg #[.int .i64 2, .int .i64 90, .int .u32 pr]) 0).run Tryz.prog u = .ok (.int .i64 2) u := fun _ => by kernel_rfl
    have k0 := Below.refl w9.heap.size w9
    clear hsl HVW9 HPB9 HPC
    go_region_held3 (fun z => Below w9.heap.size w9 z) (first | exact k0 | exact (by assumption : Below w9.heap.size w9 _).drew)
      ((first
        | (go_at_call 9; refine (PS.out _ (by assumption)).mono ?_; rintro e w10 ⟨xv, rfl, ho, hb10⟩; have k0 := (by assumption : Below w9.heap.size w9 _).trans (hb10.mono (by assumption : Below w9.heap.size w9 _).size); have hx := ho.1.rd (by decide); obtain ⟨ax, nx, kx, rfl⟩ := RdP.lit17 hx; clear ho hb10)
        | (go_at_call 21; refine (SA.out _ _ (by assumption) (by assumption)).mono ?_; rintro e w11 ⟨rfl, k0⟩)
        | (go_at_call 11; refine (TA.out _ (by assumption)).mono ?_; rintro e w12 ⟨rfl, rfl⟩)
        | (go_at_call 10; refine (CU.out _ (by assumption)).mono ?_; rintro e w13 ⟨rfl, k0⟩)))
    all_goals
      have HBe := Lib.hid (HB9.out.trans (k0.mono HB9.out.size))
      clear k0
      go_wp2
      go_ret
      exact ⟨rfl, HBe.out⟩

end Go.Proofs.YtokpphhmmcoeaaaGreatDoor
