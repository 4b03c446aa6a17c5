/-
  The document's own answers for layer 8: Text, of a set.
-/
import Derived.Test.YtfpidkcdgebnpaaGreatDoorGZDefs
import Derived.Test.YtfpidkcdgebnpaaGreatDoorGZRef
import Derived.Test.YtfpidkcdgebnpaaGreatDoorGZProgC
import Derived.Test.YtfpidkcdgebnpaaGreatDoorGZRefT
import Derived.Test.YtfpidkcdgebnpaaGreatDoorGHex
import Derived.Deep.RegionHeld3
set_option linter.unusedVariables false
set_option linter.unusedSimpArgs false
set_option maxRecDepth 1000000
namespace Go.Proofs.YtfpidkcdgebnpaaGreatDoor
open Go.RowKit Go.Shelf

theorem textZ_succ {cs : List ColB} {ps : List PairB} {k : Nat} (h : k < ps.length) : Lib.join ((ps.take (k + 1)).map (pairT cs)) sep2 = if k = 0 then pairT cs (ps.getD k default) else Lib.join ((ps.take k).map (pairT cs)) sep2 ++ sep2 ++ pairT cs (ps.getD k default) := by
  have e9 : ps.take (k + 1) = ps.take k ++ [ps.getD k default] := by rw [List.take_add_one]; simp [List.getD, h]
  rw [e9, List.map_append, List.map_singleton, join_snoc]
  by_cases h0 : k = 0
  · rw [if_pos h0, if_pos (by rw [h0]; rfl)]
  · rw [if_neg h0, if_neg (by
      intro e
      have := congrArg List.length e
      rw [List.length_map, List.length_take, List.length_nil] at this
      omega)]
theorem sdec_ne (x : Int) : sdec x ≠ [] := by
  unfold sdec
  split
  · simp
  · intro h
    have hd : ∀ n, dec n ≠ [] := fun n => by
      unfold dec
      split <;> simp
    exact hd _ h

set_option maxHeartbeats 16000000 in
theorem ref_Text08 (v1 v2 : Value) (cs : List ColB) (ps : List PairB) (w : World) (h1 : RdC w v1 cs) (h2 : RdP w v2 ps) (hC : CS cs) (hP : PSO ps) (h0 : chkZ cs ps = 0) :
    Calls Tryz.prog 28 #[v1, v2] w fun e w' => (∃ t, e = .returned (.string t) ∧ RdS t (textZ cs ps)) ∧ Below w.heap.size w w' := by
  have hz := (chkZ_zero hP).1 h0
  have HV := Lib.hid hz.2.2.all
  have hn24 := hz.2.1
  have hl2 := h2.len
  have H2 := Lib.hid h2
  have R1 := Lib.hid (fun wz (hz : Below w.heap.size w wz) => h1.later hz (Nat.le_refl _))
  obtain ⟨n, hn⟩ : ∃ n, n = ps.length := ⟨_, rfl⟩
  rw [← hn] at hl2 hn24
  have HN := Lib.hid hn
  have HB0 := Lib.hid (Below.refl w.heap.size w)
  clear h1 h2 hz hn h0
  go_enter Tryz.func28, Tryz.ntmps28
  go_wp2
  go_loopw [5, 6] (fun a i wr => ∃ (k : Nat) (tb : ByteArray), k ≤ n ∧ i = .int .i64 k ∧ a = .string tb ∧ Hid (Below w.heap.size w wr) ∧ Hid (tb = ⟨(Lib.join ((ps.take k).map (pairT cs)) sep2).toArray⟩) ∧ tb.size ≤ 5200 * k) (fun _ i _ => n - (intOf i).toNat)
  case atStart => exact ⟨0, _, by omega, rfl, rfl, HB0, Lib.hid rfl, by decide⟩
  case round =>
    clear HB0
    obtain ⟨k, tb, hk, rfl, rfl, HB, HT, htz⟩ := hrel
    by_cases hlt : k < n
    · have k2 : k < ps.length := by rw [← HN.out]; exact hlt
      obtain ⟨b, o, rv, hi, c0, c1, re, hbl⟩ := H2.out.get k2
      obtain ⟨hce, hww⟩ := hP.get k2
      obtain ⟨ao, nn, cap, rfl⟩ := re.lit
      have hv8 := (HV.out (ps.getD k default) (by simp [List.getD, k2])).1
      have HTS := Lib.hid (textZ_succ (cs := cs) k2)
      obtain ⟨p, hp⟩ : ∃ p, p = ps.getD k default := ⟨_, rfl⟩
      rw [← hp] at c1 re hce hww hv8 HTS
      have hsm := pairT_small hce hww hv8
      rcases p with ⟨r, x⟩
      dsimp only at c1 re hce hww hv8 hsm
      have hc0 := (HB.out.cell (p := ⟨b, o, none⟩) hbl).trans c0
      have hc1 := (HB.out.cell (p := ⟨b, o + 1, none⟩) hbl).trans c1
      have SG := Lib.hid (fun wz : World => (show Calls Tryz.prog 62 #[.int .i64 x] wz fun e w' => (∃ t, e = .returned (.string t) ∧ t = ⟨(sdec x).toArray⟩ ∧ t.size ≤ 30) ∧ wz = w' from by
        refine (ref_Signed x hww.1 hww.2 wz).mono ?_
        rintro e w' ⟨⟨t, he, ht⟩, hw⟩
        exact ⟨⟨t, he, ht.eq, by rw [ht.size]; exact hsm.2.2⟩, hw⟩))
      have RT := Lib.hid (fun wz (hz : Below w.heap.size w wz) => (show Calls Tryz.prog 63 #[v1, .slice ao nn cap] wz fun e w' => (∃ t, e = .returned (.string t) ∧ t = ⟨(textR cs r).toArray⟩ ∧ t.size ≤ 5000) ∧ Below w.heap.size w w' ∧ w'.cell? ⟨b, o, none⟩ = some (.slice ao nn cap) ∧ w'.cell? ⟨b, o + 1, none⟩ = some (.int .i64 x) from by
        refine (ref_Text06 v1 _ cs r wz (R1.out wz hz) (re.later hz (Nat.le_refl _)) hC hce hv8).mono ?_
        rintro e w' ⟨⟨t, he, ht⟩, hb⟩
        have hb9 := hz.trans (hb.mono hz.size)
        exact ⟨⟨t, he, ht.eq, by rw [ht.size]; exact hsm.2.1⟩, hb9, (hb9.cell (p := ⟨b, o, none⟩) hbl).trans c0, (hb9.cell (p := ⟨b, o + 1, none⟩) hbl).trans c1⟩))
      clear hp k2 re hce hww hv8 hsm c0 c1
      by_cases hk0 : k = 0
      · subst hk0
        rw [show ((0 : Nat) : Int) = 0 from rfl] at hi
        go_wp2
        have m0 : Below w.heap.size w wr.drew := HB.out.drew
        have m1 : wr.drew.cell? ⟨b, o, none⟩ = some (.slice ao nn cap) := hc0
        have m2 : wr.drew.cell? ⟨b, o + 1, none⟩ = some (.int .i64 x) := hc1
        go_region_held3 (fun u => Below w.heap.size w u ∧ u.cell? ⟨b, o, none⟩ = some (.slice ao nn cap) ∧ u.cell? ⟨b, o + 1, none⟩ = some (.int .i64 x)) (first | (exact ⟨m0, m1, m2⟩) | go_keep)
          ((first
            | (go_at_call 62; refine (SG.out _).mono ?_; rintro e w' ⟨⟨ts, rfl, ht, hts⟩, rfl⟩; have hZ := Lib.hid ht; clear ht; have p1 : ¬ (9223372036854775807 < tb.size + ts.size) := (by omega); have p2 : ¬ (9223372036854775807 < tb.size + ts.size + 1) := (by omega))
            | (go_at_call 63; refine (RT.out _ (by first | exact HB.out.drew | assumption)).mono ?_; rintro e w' ⟨⟨tr, rfl, ht, htr⟩, m3, m4, m5⟩; clear m0 m1 m2; have m0 := m3; have m1 := m4; have m2 := m5; clear m3 m4 m5; have hY := Lib.hid ht; clear ht; have p3 : ¬ (9223372036854775807 < tb.size + ts.size + 1 + tr.size) := (by omega))))
        have HB3 := Lib.hid m0
        have HTn := Lib.hid (show tb ++ ts ++ ⟨#[32]⟩ ++ tr = ⟨(Lib.join ((ps.take (0 + 1)).map (pairT cs)) sep2).toArray⟩ from by
          have e1 := HT.out
          have e2 := HTS.out
          rw [if_pos trivial] at e2
          rw [e1, hZ.out, hY.out, e2]
          apply ByteArray.ext
          simp [Lib.join, pairT, sep2])
        have hsz3 : (tb ++ ts ++ ⟨#[32]⟩ ++ tr).size ≤ 5200 * (0 + 1) := by
          rw [ByteArray.size_append, ByteArray.size_append, ByteArray.size_append]
          have : (⟨#[32]⟩ : ByteArray).size = 1 := rfl
          omega
        clear m0 m1 m2 hZ hY hi hc0 hc1 p1 p2 p3 SG RT
        go_wp2
        go_roundw
        case rel => exact ⟨0 + 1, _, by omega, by go_num, rfl, HB3, HTn, hsz3⟩
        case measure => simp [intOf]; omega
      · have d1 : decide ((k : Int) > 0) = true := decide_eq_true (by omega)
        have d2 : decide ((0 : Int) < (k : Int)) = true := decide_eq_true (by omega)
        have p0 : ¬ (9223372036854775807 < tb.size + 2) := by omega
        have p00 : ¬ (9223372036854775807 < tb.size + (⟨#[59, 32]⟩ : ByteArray).size) := by
          have : (⟨#[59, 32]⟩ : ByteArray).size = 2 := rfl
          omega
        go_wp2
        obtain ⟨tc, htc⟩ : ∃ tc : ByteArray, tc = tb ++ (⟨#[59, 32]⟩ : ByteArray) := ⟨_, rfl⟩
        rw [← htc]
        have hcz : tc.size ≤ 5200 * k + 2 := by rw [htc, ByteArray.size_append]; show tb.size + 2 ≤ _; omega
        have HTC := Lib.hid htc
        clear htc
        have m0 : Below w.heap.size w wr.drew := HB.out.drew
        have m1 : wr.drew.cell? ⟨b, o, none⟩ = some (.slice ao nn cap) := hc0
        have m2 : wr.drew.cell? ⟨b, o + 1, none⟩ = some (.int .i64 x) := hc1
        go_region_held3 (fun u => Below w.heap.size w u ∧ u.cell? ⟨b, o, none⟩ = some (.slice ao nn cap) ∧ u.cell? ⟨b, o + 1, none⟩ = some (.int .i64 x)) (first | (exact ⟨m0, m1, m2⟩) | go_keep)
          ((first
            | (go_at_call 62; refine (SG.out _).mono ?_; rintro e w' ⟨⟨ts, rfl, ht, hts⟩, rfl⟩; have hZ := Lib.hid ht; clear ht; have p1 : ¬ (9223372036854775807 < tc.size + ts.size) := (by omega); have p2 : ¬ (9223372036854775807 < tc.size + ts.size + 1) := (by omega))
            | (go_at_call 63; refine (RT.out _ (by first | exact HB.out.drew | assumption)).mono ?_; rintro e w' ⟨⟨tr, rfl, ht, htr⟩, m3, m4, m5⟩; clear m0 m1 m2; have m0 := m3; have m1 := m4; have m2 := m5; clear m3 m4 m5; have hY := Lib.hid ht; clear ht; have p3 : ¬ (9223372036854775807 < tc.size + ts.size + 1 + tr.size) := (by omega))))
        have HB3 := Lib.hid m0
        have HTn := Lib.hid (show tc ++ ts ++ ⟨#[32]⟩ ++ tr = ⟨(Lib.join ((ps.take (k + 1)).map (pairT cs)) sep2).toArray⟩ from by
          have e1 := HT.out
          have e2 := HTS.out
          rw [if_neg hk0] at e2
          rw [HTC.out, e1, hZ.out, hY.out, e2]
          apply ByteArray.ext
          simp [Lib.join, pairT, sep2])
        have hsz3 : (tc ++ ts ++ ⟨#[32]⟩ ++ tr).size ≤ 5200 * (k + 1) := by
          rw [ByteArray.size_append, ByteArray.size_append, ByteArray.size_append]
          have : (⟨#[32]⟩ : ByteArray).size = 1 := rfl
          omega
        clear m0 m1 m2 hZ hY hi hc0 hc1 p1 p2 p3 SG RT
        go_wp2
        go_roundw
        case rel => exact ⟨k + 1, _, by omega, by go_num, rfl, HB3, HTn, hsz3⟩
        case measure => simp [intOf]; omega
    · obtain rfl : k = n := by omega
      have HF := Lib.hid (show tb = ⟨(Lib.join (ps.map (pairT cs)) sep2).toArray⟩ from by
        have := HT.out
        rwa [List.take_of_length_le (by rw [← HN.out]; exact Nat.le_refl _)] at this)
      clear hlt
      by_cases hk0 : k = 0
      · subst hk0
        have hps : ps = [] := List.eq_nil_of_length_eq_zero HN.out.symm
        have htb : tb = ⟨#[]⟩ := by rw [HF.out, hps]; rfl
        have HTX := Lib.hid (show textZ cs ps = [45] from by unfold textZ; rw [if_pos hps])
        subst htb
        clear HT
        go_wp2
        go_ret
        exact ⟨⟨_, rfl, by rw [HTX.out]; exact ⟨rfl, by simp⟩⟩, HB.out⟩
      · have hne : ps ≠ [] := fun h => hk0 (by rw [HN.out, h]; rfl)
        have HTX := Lib.hid (show textZ cs ps = Lib.join (ps.map (pairT cs)) sep2 from by unfold textZ; rw [if_neg hne])
        have htl : tb.toList.isEmpty = false := by
          have hsz : 0 < tb.size := by
            rw [HF.out]
            show 0 < (Lib.join (ps.map (pairT cs)) sep2).length
            obtain ⟨q, t, hqt⟩ := List.exists_cons_of_ne_nil hne
            rw [hqt, List.map_cons, Lib.join_cons]
            have := List.length_pos_iff.2 (sdec_ne q.2)
            unfold pairT
            simp; omega
          have hrs : RdS tb tb.data.toList := ⟨rfl, by simp; show tb.size ≤ _; omega⟩
          rw [hrs.toList]
          cases hq : tb.data.toList with
          | nil => exact absurd (show tb.size = 0 from by show tb.data.size = 0; rw [← Array.length_toList, hq]; rfl) (by omega)
          | cons a t => rfl
        clear HT
        go_wp2
        go_ret
        exact ⟨⟨_, rfl, by rw [HTX.out, HF.out]; exact rdS_list _ (by
          have h9 : tb.size = (Lib.join (ps.map (pairT cs)) sep2).length := by rw [HF.out]; simp [ByteArray.size]
          omega)⟩, HB.out⟩

end Go.Proofs.YtfpidkcdgebnpaaGreatDoor
