/-
  ColumnBack: the law's own walk.
-/
import Derived.Test.YtccclfpngdjmjaaDoorColumnOne
set_option linter.unusedVariables false
set_option linter.unusedSimpArgs false
set_option maxRecDepth 1000000
namespace Go.Proofs.YtccclfpngdjmjaaDoor
open Go.RowKit Go.Shelf

theorem back_same {kind : Int} {cs : List Ce} (hk : 0 ≤ kind ∧ kind ≤ 5) (hF : ∀ c ∈ cs, Fit kind c) (hn : cs.length ≤ 1015) (n : Int) (hnn : n = (cs.length : Int)) :
    rdK (wrC kind cs) kind n 0 = (cs, (wrC kind cs).length, 0) ∧ rdE9 (wrC kind cs) kind n = 0 ∧ rdC9 (wrC kind cs) kind n = cs := by
  subst hnn
  have h := rdK_put (l := wrC kind cs) (m := []) (k := 0) hk hF (by omega) (by simp)
  rw [Nat.zero_add] at h
  have e : rdE9 (wrC kind cs) kind cs.length = 0 := by
    unfold rdE9; rw [h]; unfold told; rw [if_pos rfl, if_neg (by simp)]
  exact ⟨h, e, by unfold rdC9; rw [e, if_pos rfl, h]⟩
theorem back_less {kind : Int} {cs : List Ce} (hk : 0 ≤ kind ∧ kind ≤ 5) (hF : ∀ c ∈ cs, Fit kind c) (hn : cs.length ≤ 1015) (n : Int) (hnn : n = (cs.length : Int)) (h0 : 0 < (wrC kind cs).length) :
    rdE9 ((wrC kind cs).take ((wrC kind cs).length - 1)) kind n = 5 ∧ (rdK ((wrC kind cs).take ((wrC kind cs).length - 1)) kind n 0).2.1 < (wrC kind cs).length := by
  subst hnn
  have h := rdK_less (l := (wrC kind cs).take ((wrC kind cs).length - 1)) (k := 0) (j := (wrC kind cs).length - 1) hk hF (by omega) (by simp) (by omega)
  have hp := rdK_place (l := (wrC kind cs).take ((wrC kind cs).length - 1)) (kind := kind) (n := (cs.length : Int)) (Nat.zero_le _)
  rw [List.length_take] at hp
  exact ⟨by unfold rdE9 told; rw [h, if_neg (by decide)], by omega⟩
theorem back_more {kind : Int} {cs : List Ce} (hk : 0 ≤ kind ∧ kind ≤ 5) (hF : ∀ c ∈ cs, Fit kind c) (hn : cs.length ≤ 1015) (n : Int) (hnn : n = (cs.length : Int)) :
    rdE9 (wrC kind cs) kind (n + 8) = 5 := by
  subst hnn
  have h := rdK_more (l := wrC kind cs) (k := 0) hk hF (by omega) (by simp)
  unfold rdE9 told; rw [h, if_neg (by decide)]
theorem back_long {kind : Int} {cs : List Ce} (hk : 0 ≤ kind ∧ kind ≤ 5) (hF : ∀ c ∈ cs, Fit kind c) (hn : cs.length ≤ 1015) (n : Int) (hnn : n = (cs.length : Int)) (b : UInt8) :
    rdE9 (wrC kind cs ++ [b]) kind n = 7 ∧ (rdK (wrC kind cs ++ [b]) kind n 0).2.1 = (wrC kind cs).length := by
  subst hnn
  have h := rdK_put (l := wrC kind cs ++ [b]) (m := [b]) (k := 0) hk hF (by omega) (by simp)
  rw [Nat.zero_add] at h
  exact ⟨by unfold rdE9 told; rw [h, if_pos rfl, if_pos (by simp)], by rw [h]⟩

set_option maxHeartbeats 16000000 in
theorem columnBack_walk (kind : Int) (v : Value) (cs : List CellB) (w : World) (hk : -9223372036854775808 ≤ kind ∧ kind ≤ 9223372036854775807) (hR : RdE w v cs) (hC : CES cs) (hT : Tabs w) :
    Calls Tryd.prog 6 #[.int .i64 kind, v] w fun e w' => e = .returned (.bool true) ∧ Below w.heap.size w w' := by
  have HR := Lib.hid hR
  have HC := Lib.hid hC
  have HT := Lib.hid hT
  have hlen := hR.len
  have hsm := hR.small
  obtain ⟨n, hn⟩ : ∃ n, n = cs.length := ⟨_, rfl⟩
  rw [← hn] at hlen hsm
  have HN := Lib.hid hn
  clear hk hR hC hT hn
  go_enter Tryd.func6, Tryd.ntmps6
  go_wp2_with fail
  refine (law09_alive w HT.out).mono ?_
  rintro e w1 ⟨rfl, hb⟩
  have HB := Lib.hid hb
  clear hb
  go_wp2_with fail
  refine (law09_great v cs w1 (HR.out.later HB.out (Nat.le_refl _)) HC.out).mono ?_
  rintro e w2 ⟨g, rfl, hb, hg⟩
  have HB2 := Lib.hid (HB.out.trans (hb.mono HB.out.size))
  have HG := Lib.hid hg
  clear hb hg HB
  cases g with
  | true =>
    go_wp2_with fail
    refine (law09_alive w2 (HT.out.later HB2.out)).mono ?_
    rintro e w3 ⟨rfl, hb⟩
    have HB3 := Lib.hid (HB2.out.trans (hb.mono HB2.out.size))
    clear hb HB2
    go_wp2
    go_ret
    exact ⟨rfl, HB3.out⟩
  | false =>
    by_cases hl : n ≤ 1015
    · have d1 : decide ((1015 : Int) < (n : Int)) = false := decide_eq_false (by omega)
      have CW := Lib.hid (column_Write kind v cs w2 (HR.out.later HB2.out (Nat.le_refl _)) HC.out (HT.out.later HB2.out) (fun h => great_small h HC.out (by have := HN.out; omega) (HG.out rfl)))
      by_cases hy : wrE kind (cesL cs) = 0
      · obtain ⟨hk5, hF⟩ := wrE_fit hy (fun c hc => ce_cases HC.out hc)
        have hcl : (cesL cs).length = n := by rw [cesL_length]; exact HN.out.symm
        have hgs := HG.out rfl (fit_total hy HC.out (by have := HN.out; omega))
        have hle := wrC_le hF
        rw [hcl] at hle
        rw [← HN.out] at hgs
        have SM1 := Lib.hid (back_same hk5 hF (by omega) (n : Int) (by rw [hcl]))
        have LS := Lib.hid (back_less hk5 hF (by omega) (n : Int) (by rw [hcl]))
        have MR := Lib.hid (back_more hk5 hF (by omega) (n : Int) (by rw [hcl]))
        have LG := Lib.hid (back_long hk5 hF (by omega) (n : Int) (by rw [hcl]) 0)
        obtain ⟨L, hL⟩ : ∃ L, L = wrC kind (cesL cs) := ⟨_, rfl⟩
        rw [← hL] at SM1 LS MR LG hle
        have HL := Lib.hid hL
        have HY := Lib.hid hy
        obtain ⟨T, hTt⟩ : ∃ T, T = sumT (cesL cs) := ⟨_, rfl⟩
        rw [← hTt] at hle hgs
        have HTt := Lib.hid hTt
        have hll : L.length ≤ 100000 := by omega
        clear hy hk5 hF hcl hL HG hTt
        go_wp2_with fail
        refine CW.out.mono ?_
        rintro e w3 ⟨bv, rfl, hO, hb⟩
        have HB3 := Lib.hid (HB2.out.trans (hb.mono HB2.out.size))
        rw [HY.out]
        rw [HY.out, if_pos rfl, ← HL.out] at hO
        have hRb := hO.rd (by omega)
        have hlb := hRb.len
        have HRb := Lib.hid hRb
        clear hb hO CW HB2 hRb
        go_wp2_with fail
        refine (column_Read kind (n : Int) bv L w3 HRb.out (HT.out.later HB3.out)).mono ?_
        rintro e w4 ⟨hb, tv, ds, rfl, hO, hCd, hds⟩
        rw [(SM1.out).2.2] at hds
        have heq : cs = ds := (cesL_inj hds).symm
        subst heq
        rw [(SM1.out).2.1, (SM1.out).1]
        dsimp only
        have HB4 := Lib.hid (HB3.out.trans (hb.mono HB3.out.size))
        have HRb4 := Lib.hid (HRb.out.later hb (Nat.le_refl _))
        have HO4 := Lib.hid (hO.rd (by have := HN.out; omega))
        clear hb hO hCd hds HB3 SM1
        go_wp2
        go_loopw [10, 56] (fun a i wr => ∃ k q : Nat, k ≤ n ∧ i = .int .i64 k ∧ a = .int .i64 (q : Int) ∧ Hid (q = sumT ((cesL cs).take k)) ∧ Hid (Below w.heap.size w wr) ∧ Hid (Rd wr bv L) ∧ Hid (RdE wr tv cs)) (fun _ i _ => n - (intOf i).toNat)
        case atStart => exact ⟨0, 0, by omega, rfl, rfl, Lib.hid (by simp [sumT]), HB4, HRb4, HO4⟩
        case round =>
          clear HB4 HRb4 HO4
          obtain ⟨k, q, hk, rfl, rfl, HQ, HB, HRr, HO⟩ := hrel
          by_cases hlt : k < n
          · have hr := HR.out.later HB.out (Nat.le_refl _)
            have hl2 : k < cs.length := by rw [← HN.out]; exact hlt
            obtain ⟨b, o, hidx, hcell, hblk⟩ := hr.get hl2
            obtain ⟨hc0, hc1⟩ := hcell _ hr
            obtain ⟨hs1, hs2⟩ := HC.out.get hl2
            have hsd := sumT_drop (cesL cs) k (by rw [cesL_length]; exact hl2)
            rw [cesL_getD hl2] at hsd
            have hle2 := sumT_take (cesL cs) (k + 1)
            rw [← HTt.out] at hle2
            rcases hcg : cs.getD k default with ⟨cn, s⟩
            rw [hcg] at hc0 hc1 hs1 hs2 hsd
            dsimp only at hc0 hc1 hs1 hs2
            have hS := rdS_of hs2
            have hlen2 := hS.len
            have hsz : (ceL (cn, s)).2.length = s.size := hS.size9.symm
            rw [hsz, ← HQ.out] at hsd
            rw [← hS.size9] at hlen2
            obtain ⟨z, hz⟩ : ∃ z : Nat, z = s.size := ⟨_, rfl⟩
            rw [← hz] at hlen2 hsd hs2
            have hqz : q + z ≤ 5000 := by omega
            have HQ2 := Lib.hid (show q + z = sumT ((cesL cs).take (k + 1)) from hsd.symm)
            have HVq := Lib.hid (show Value.int .i64 ((q : Int) + (z : Int)) = .int .i64 ((q + z : Nat) : Int) by push_cast; rfl)
            have HB1 := Lib.hid (HB.out.alloc HB.out.size (.cells #[.int .u64 (cn : Int), .string s] 44))
            have HR1 := Lib.hid (HRr.out.alloc (.cells #[.int .u64 (cn : Int), .string s] 44))
            have HO1 := Lib.hid (HO.out.later (show Below wr.heap.size wr (wr.alloc (.cells #[.int .u64 (cn : Int), .string s] 44)) from (Below.refl _ _).alloc (Nat.le_refl _) _) (Nat.le_refl _))
            clear hr hcell hcg hl2 hblk hsd hle2 hsz hS hz
            go_wp2
            go_roundw
            case rel => exact ⟨k + 1, q + z, by omega, by go_num, HVq.out, HQ2, HB1, HR1, HO1⟩
            case measure => simp [intOf]; omega
          · obtain rfl : k = n := by omega
            have hqT : q = T := by rw [HQ.out, HTt.out, List.take_of_length_le (by rw [cesL_length, ← HN.out]; exact Nat.le_refl _)]
            subst hqT
            have hne : ((L.length : Int) != (L.length : Int)) = false := by simp
            have SM6 := Lib.hid (ref_Same06 v tv cs cs wr (HR.out.later HB.out (Nat.le_refl _)) HO.out)
            rw [decide_eq_true rfl] at SM6
            obtain ⟨M, hM⟩ : ∃ M, M = L.length := ⟨_, rfl⟩
            rw [← hM] at hlb hne hle hll LS LG ⊢
            have HMl := Lib.hid hM
            clear hlt hM
            go_wp2_with fail
            refine SM6.out.mono ?_
            rintro e w6 ⟨rfl, hb⟩
            have HB6 := Lib.hid (HB.out.trans (hb.mono HB.out.size))
            have HRb6 := Lib.hid (HRr.out.later hb (Nat.le_refl _))
            clear hb SM6 HB HRr HO
            go_wp2_with fail
            refine (column_Bound (k : Int) (q : Int) w6 (by omega) (by omega)).mono ?_
            rintro e w7 ⟨rfl, hb⟩
            rw [show boundV (k : Int) (q : Int) = ((10 * k + q : Nat) : Int) from by unfold boundV; rw [if_neg (by omega)]; push_cast; rfl]
            obtain ⟨BD, hBD⟩ : ∃ BD, BD = 10 * k + q := ⟨_, rfl⟩
            rw [← hBD] at hle ⊢
            have d5 : decide ((M : Int) > (BD : Int)) = false := decide_eq_false (by omega)
            have d6 : decide (BD < M) = false := decide_eq_false (by omega)
            have HB7 := Lib.hid (HB6.out.trans (hb.mono HB6.out.size))
            have HRb7 := Lib.hid (HRb6.out.later hb (Nat.le_refl _))
            clear hb HB6 HRb6 hBD
            have CMore := Lib.hid (fun wz (hz : Below w.heap.size w wz) (hr : Rd wz bv L) => (show Calls Tryd.prog 15 #[bv, .int .i64 kind, .int .i64 ((k : Int) + 8)] wz fun e w' => ∃ tv kk, e = .returned (.tuple #[tv, .int .i64 kk, .int .i64 5]) ∧ Below wz.heap.size wz w' from by
              refine (column_Read kind ((k : Int) + 8) bv L wz hr (HT.out.later hz)).mono ?_
              rintro e w' ⟨hb, tv, ds, rfl, _⟩
              rw [MR.out]
              exact ⟨_, _, rfl, hb⟩))
            have CLong := Lib.hid (fun wz u (hz : Below w.heap.size w wz) (hr : Rd wz u (L ++ [0])) => (show Calls Tryd.prog 15 #[u, .int .i64 kind, .int .i64 (k : Int)] wz fun e w' => ∃ tv, e = .returned (.tuple #[tv, .int .i64 (M : Int), .int .i64 7]) ∧ Below wz.heap.size wz w' from by
              refine (column_Read kind (k : Int) u (L ++ [0]) wz hr (HT.out.later hz)).mono ?_
              rintro e w' ⟨hb, tv, ds, rfl, _⟩
              rw [LG.out.1, LG.out.2]
              exact ⟨_, rfl, hb⟩))
            have HLs := Lib.hid LS.out
            by_cases hM0 : 0 < M
            · have d7 : decide ((M : Int) > 0) = true := decide_eq_true (by omega)
              obtain ⟨cv, hcut, hcv⟩ := HRb7.out.upto (M - 1) (by rw [← HMl.out]; omega)
              rw [show ((M - 1 : Nat) : Int) = (M : Int) - 1 from by omega] at hcut
              obtain ⟨l1, l2⟩ := LS.out hM0
              have HL1 := Lib.hid l1
              have HL2 := Lib.hid l2
              have HCv := Lib.hid (hcv w7 HRb7.out)
              clear hcv l1 l2 HLs LS
              go_wp2_with fail
              refine (column_Read kind (k : Int) cv (L.take (M - 1)) w7 HCv.out (HT.out.later HB7.out)).mono ?_
              rintro e w8 ⟨hb, tv2, ds, rfl, _⟩
              rw [HL1.out]
              obtain ⟨kk, hkk⟩ : ∃ kk, kk = (rdK (L.take (M - 1)) kind (k : Int) 0).2.1 := ⟨_, rfl⟩
              have hkl : kk < M := by rw [hkk]; exact HL2.out
              rw [← hkk]
              have d8 : decide ((kk : Int) ≥ (M : Int)) = false := decide_eq_false (by omega)
              have d9 : decide (M ≤ kk) = false := decide_eq_false (by omega)
              have HB8 := Lib.hid (HB7.out.trans (hb.mono HB7.out.size))
              have HRb8 := Lib.hid (HRb7.out.later hb (Nat.le_refl _))
              clear hb HB7 HRb7 hkk hcut HCv
              go_wp2_with fail
              refine (CMore.out w8 HB8.out HRb8.out).mono ?_
              rintro e w9 ⟨tv3, k3, rfl, hb⟩
              have HB9 := Lib.hid (HB8.out.trans (hb.mono HB8.out.size))
              have HRb9 := Lib.hid (HRb8.out.later hb (Nat.le_refl _))
              clear hb HB8 HRb8
              have HA := Lib.hid (show Below w.heap.size w (w9.alloc (.cells #[] 5)) from HB9.out.alloc HB9.out.size _)
              have HO0 := Lib.hid (own_empty w9 w9.heap.size (Nat.le_refl _))
              have HLA := Lib.hid (HRb9.out.alloc (.cells #[] 5))
              have hws : w.heap.size ≤ w9.heap.size := HB9.out.size
              have hws1 : w9.heap.size ≤ (w9.alloc (.cells #[] 5)).heap.size := by simp
              have hz1 : ([] : List UInt8).length + L.length ≤ 140737488355328 := by rw [← HMl.out]; simp; omega
              have hz2 : L.length + [(0 : UInt8)].length ≤ 140737488355328 := by rw [← HMl.out]; simp; omega
              have HZ3 := Lib.hid (show (L ++ [(0 : UInt8)]).length ≤ 140737488351232 by rw [List.length_append, ← HMl.out]; simp; omega)
              go_wp2_with (with_reducible refine wpl_append w9.heap.size _ [] ?hs1 HO0.out bv L ?hx1 HLA.out hz1 hws1 w.heap.size w HA.out hws ?_)
              all_goals (try rfl)
              intro va wa hOa hBa hga
              rw [List.nil_append] at hOa
              have HBa := Lib.hid hBa
              have HO7 := Lib.hid (hOa.alloc (.cells #[.int .u8 0] 5))
              have HB7 := Lib.hid (hBa.alloc hBa.size (.cells #[.int .u8 0] 5))
              have HR7 := Lib.hid (rd_one wa 0 (by decide) (by decide))
              have hs6 : w9.heap.size ≤ wa.heap.size := by have := hga.size; simp at this; omega
              clear hOa hBa hga hws1
              have hs7 : w9.heap.size ≤ (wa.alloc (.cells #[.int .u8 0] 5)).heap.size := by simp; omega
              go_wp2_with (with_reducible refine wpl_append w9.heap.size _ L ?hs2 HO7.out _ [(0 : UInt8)] ?hx2 HR7.out hz2 hs7 w.heap.size w HB7.out hws ?_)
              all_goals (try rfl)
              intro vb wb hOb hBb hgb
              have HBb := Lib.hid hBb
              have HRb := Lib.hid (hOb.rd HZ3.out)
              clear hOb hBb hgb
              go_wp2_with fail
              refine (CLong.out wb vb HBb.out HRb.out).mono ?_
              rintro e wc ⟨tv4, rfl, hb⟩
              have HBc := Lib.hid (HBb.out.trans (hb.mono HBb.out.size))
              clear hb
              go_wp2
              go_ret
              exact ⟨by simp, HBc.out⟩
            · have d7 : decide ((M : Int) > 0) = false := decide_eq_false (by omega)
              have d8 : decide (0 < M) = false := decide_eq_false (by omega)
              clear HLs LS
              go_wp2_with fail
              refine (CMore.out w7 HB7.out HRb7.out).mono ?_
              rintro e w9 ⟨tv3, k3, rfl, hb⟩
              have HB9 := Lib.hid (HB7.out.trans (hb.mono HB7.out.size))
              have HRb9 := Lib.hid (HRb7.out.later hb (Nat.le_refl _))
              clear hb HB7 HRb7
              have HA := Lib.hid (show Below w.heap.size w (w9.alloc (.cells #[] 5)) from HB9.out.alloc HB9.out.size _)
              have HO0 := Lib.hid (own_empty w9 w9.heap.size (Nat.le_refl _))
              have HLA := Lib.hid (HRb9.out.alloc (.cells #[] 5))
              have hws : w.heap.size ≤ w9.heap.size := HB9.out.size
              have hws1 : w9.heap.size ≤ (w9.alloc (.cells #[] 5)).heap.size := by simp
              have hz1 : ([] : List UInt8).length + L.length ≤ 140737488355328 := by rw [← HMl.out]; simp; omega
              have hz2 : L.length + [(0 : UInt8)].length ≤ 140737488355328 := by rw [← HMl.out]; simp; omega
              have HZ3 := Lib.hid (show (L ++ [(0 : UInt8)]).length ≤ 140737488351232 by rw [List.length_append, ← HMl.out]; simp; omega)
              go_wp2_with (with_reducible refine wpl_append w9.heap.size _ [] ?hs3 HO0.out bv L ?hx3 HLA.out hz1 hws1 w.heap.size w HA.out hws ?_)
              all_goals (try rfl)
              intro va wa hOa hBa hga
              rw [List.nil_append] at hOa
              have HBa := Lib.hid hBa
              have HO7 := Lib.hid (hOa.alloc (.cells #[.int .u8 0] 5))
              have HB7 := Lib.hid (hBa.alloc hBa.size (.cells #[.int .u8 0] 5))
              have HR7 := Lib.hid (rd_one wa 0 (by decide) (by decide))
              have hs6 : w9.heap.size ≤ wa.heap.size := by have := hga.size; simp at this; omega
              clear hOa hBa hga hws1
              have hs7 : w9.heap.size ≤ (wa.alloc (.cells #[.int .u8 0] 5)).heap.size := by simp; omega
              go_wp2_with (with_reducible refine wpl_append w9.heap.size _ L ?hs4 HO7.out _ [(0 : UInt8)] ?hx4 HR7.out hz2 hs7 w.heap.size w HB7.out hws ?_)
              all_goals (try rfl)
              intro vb wb hOb hBb hgb
              have HBb := Lib.hid hBb
              have HRb := Lib.hid (hOb.rd HZ3.out)
              clear hOb hBb hgb
              go_wp2_with fail
              refine (CLong.out wb vb HBb.out HRb.out).mono ?_
              rintro e wc ⟨tv4, rfl, hb⟩
              have HBc := Lib.hid (HBb.out.trans (hb.mono HBb.out.size))
              clear hb
              go_wp2
              go_ret
              exact ⟨by simp, HBc.out⟩
      · obtain ⟨y, hyy⟩ : ∃ y, y = wrE kind (cesL cs) := ⟨_, rfl⟩
        have HY := Lib.hid hyy
        rw [← hyy] at hy
        have hyb : ((y : Int) != 0) = true := by rw [bne_iff_ne]; omega
        have HYn := Lib.hid hy
        clear hyy hy HG
        go_wp2_with fail
        refine CW.out.mono ?_
        rintro e w3 ⟨bv, rfl, hO, hb⟩
        have HB3 := Lib.hid (HB2.out.trans (hb.mono HB2.out.size))
        rw [← HY.out]
        rw [← HY.out, if_neg HYn.out] at hO
        have hlb := (hO.rd (by simp)).len
        have hlb : ∀ u, (Builtin.len_ #[25] 3 #[bv]).run Tryd.prog u = .ok (.int .i64 0) u := hlb
        clear hb hO CW HB2
        go_wp2
        go_ret
        exact ⟨rfl, HB3.out⟩
    · have d1 : decide ((1015 : Int) < (n : Int)) = true := decide_eq_true (by omega)
      clear HG
      go_wp2_with fail
      refine (law09_alive w2 (HT.out.later HB2.out)).mono ?_
      rintro e w3 ⟨rfl, hb⟩
      have HB3 := Lib.hid (HB2.out.trans (hb.mono HB2.out.size))
      clear hb HB2
      go_wp2
      go_ret
      exact ⟨rfl, HB3.out⟩

end Go.Proofs.YtccclfpngdjmjaaDoor
