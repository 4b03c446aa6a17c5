/-
  zset.Same, zset.Weight.
-/
import Derived.Test.YtokpphhmmcoeaaaGreatDoorGZProgA
import Derived.Test.YtokpphhmmcoeaaaGreatDoorGZRef
import Derived.Test.YtokpphhmmcoeaaaGreatDoorGRow
set_option linter.unusedVariables false
set_option linter.unusedSimpArgs false
set_option maxRecDepth 1000000
namespace Go.Proofs.YtokpphhmmcoeaaaGreatDoor
open Go.RowKit Go.Shelf

set_option maxHeartbeats 2000000 in
/-- What is asked of two pairs. -/
theorem same_pair (r1 r2 : Value) (a b : List CellB) (x y : Int) (W : World) (h2 : RdE W r1 a) (h3 : RdE W r2 b) :
    Calls Tryz.prog 43 #[.agg #[r1, .int .i64 x], .agg #[r2, .int .i64 y]] W fun e w' => e = .returned (.bool (decide ((a, x) = (b, y)))) ∧ Below W.heap.size W w' := by
  obtain ⟨ao, n, cap, rfl⟩ := h2.lit
  obtain ⟨ao', n', cap', rfl⟩ := h3.lit
  obtain ⟨N0, N1, N2, N3⟩ := new2 W (.cells #[.slice ao n cap, .int .i64 x] 75) (.cells #[.slice ao' n' cap', .int .i64 y] 75)
  have CK := Lib.hid (row_Same _ _ a b _ (h2.later N3 (Nat.le_refl _)) (h3.later N3 (Nat.le_refl _)))
  have NB := Lib.hid N3
  clear N0 N1 N2 N3 h2 h3
  by_cases hxy : x = y
  · subst hxy
    have hd : decide ((a, x) = (b, x)) = decide (a = b) := by
      by_cases e : a = b
      · subst e; simp
      · rw [decide_eq_false e, decide_eq_false (fun h => e (Prod.mk.inj h).1)]
    rw [hd]
    obtain ⟨c, hcc⟩ : ∃ c, c = decide (a = b) := ⟨_, rfl⟩
    rw [← hcc] at CK ⊢
    have hq : (x == x) = true := by simp
    clear hcc hd
    go_enter Tryz.func43, Tryz.ntmps43
    go_wp2_with fail
    refine CK.out.mono ?_
    rintro e w1 ⟨rfl, hb⟩
    have HB := Lib.hid (NB.out.trans (hb.mono NB.out.size))
    clear hb CK
    go_wp2
    go_ret
    exact ⟨rfl, HB.out⟩
  · have hq : (x == y) = false := by rw [beq_eq_false_iff_ne]; exact hxy
    rw [decide_eq_false (fun h : (a, x) = (b, y) => hxy (Prod.mk.inj h).2)]
    clear CK hxy
    go_enter Tryz.func43, Tryz.ntmps43
    go_wp2
    go_ret
    exact ⟨rfl, NB.out⟩

set_option maxHeartbeats 4000000 in
theorem pairs_EqualFunc (v1 v2 : Value) (ps qs : List PairB) (w : World) (h1 : RdP w v1 ps) (h2 : RdP w v2 qs) :
    Calls Tryz.prog 42 #[v1, v2, .func (.func 43) #[] #[]] w fun e w' => e = .returned (.bool (decide (ps = qs))) ∧ Below w.heap.size w w' := by
  have hl1 := h1.len
  have hl2 := h2.len
  have hs1 := h1.small
  have hs2 := h2.small
  have H1 := Lib.hid h1
  have H2 := Lib.hid h2
  clear h1 h2
  by_cases hln : ps.length = qs.length
  · obtain ⟨n, hn⟩ : ∃ n, n = ps.length := ⟨_, rfl⟩
    rw [← hln] at hl2 hs2
    rw [← hn] at hl1 hl2 hs1 hs2
    have HN := Lib.hid hn
    have HL := Lib.hid hln
    clear hln hn
    go_enter Tryz.func42, Tryz.ntmps42
    go_wp2
    go_loopw [17] (fun i wr => ∃ k : Nat, k ≤ n ∧ i = .int .i64 k ∧ Hid (ps.take k = qs.take k) ∧ Hid (Below w.heap.size w wr)) (fun i _ => n - (intOf i).toNat)
    case atStart => exact ⟨0, by omega, rfl, Lib.hid (by simp), Lib.hid (Below.refl _ _)⟩
    case round =>
      obtain ⟨k, hk, rfl, HE, HB⟩ := hrel
      by_cases hlt : k < n
      · have k1 : k < ps.length := by rw [← HN.out]; exact hlt
        have k2 : k < qs.length := by rw [← HL.out]; exact k1
        obtain ⟨b, o, rv, hi, c0, c1, re, hbl⟩ := H1.out.get k1
        obtain ⟨b', o', rv', hi', c0', c1', re', hbl'⟩ := H2.out.get k2
        obtain ⟨ao, nn, cap, rfl⟩ := re.lit
        obtain ⟨ao', nn', cap', rfl⟩ := re'.lit
        have HT := Lib.hid (show ps.take (k + 1) = ps.take k ++ [ps.getD k default] from by rw [List.take_add_one]; simp [List.getD, k1])
        have HT' := Lib.hid (show qs.take (k + 1) = qs.take k ++ [qs.getD k default] from by rw [List.take_add_one]; simp [List.getD, k2])
        have HNE := Lib.hid (fun e : ps = qs => show ps.getD k default = qs.getD k default by rw [e])
        obtain ⟨p, hp⟩ : ∃ p, p = ps.getD k default := ⟨_, rfl⟩
        obtain ⟨p', hp'⟩ : ∃ p', p' = qs.getD k default := ⟨_, rfl⟩
        rw [← hp] at c1 re HT HNE
        rw [← hp'] at c1' re' HT' HNE
        rcases p with ⟨r1, x⟩
        rcases p' with ⟨r2, y⟩
        dsimp only at c1 re c1' re'
        have hc0 := (HB.out.cell (p := ⟨b, o, none⟩) hbl).trans c0
        have hc1 := (HB.out.cell (p := ⟨b, o + 1, none⟩) hbl).trans c1
        have hc0' := (HB.out.cell (p := ⟨b', o', none⟩) hbl').trans c0'
        have hc1' := (HB.out.cell (p := ⟨b', o' + 1, none⟩) hbl').trans c1'
        have hbw : b' < wr.heap.size := Nat.lt_of_lt_of_le hbl' HB.out.size
        have NN := Lib.hid (new2 wr (.cells #[.slice ao nn cap, .int .i64 x] 75) (.cells #[.slice ao' nn' cap', .int .i64 y] 75))
        have HBN := Lib.hid (HB.out.trans (NN.out.2.2.2.mono HB.out.size))
        have SS := Lib.hid (same_pair _ _ r1 r2 x y _ (re.later HBN.out (Nat.le_refl _)) (re'.later HBN.out (Nat.le_refl _)))
        clear hp hp' k1 k2 re re' c0 c1 c0' c1'
        by_cases hpq : (r1, x) = (r2, y)
        · have hdd : decide ((r1, x) = (r2, y)) = true := decide_eq_true hpq
          rw [hdd] at SS
          have HE2 := Lib.hid (show ps.take (k + 1) = qs.take (k + 1) from by rw [HT.out, HT'.out, HE.out, hpq])
          clear hdd hpq HNE
          go_wp2_with fail
          refine SS.out.mono ?_
          rintro e w3 ⟨rfl, hb⟩
          have HB4 := Lib.hid (HBN.out.trans (hb.mono HBN.out.size))
          clear hb SS hc0 hc1 hc0' hc1' NN HBN
          go_wp2
          go_roundw
          case rel => exact ⟨k + 1, by omega, by go_num, HE2, HB4⟩
          case measure => simp [intOf]; omega
        · have hdd : decide ((r1, x) = (r2, y)) = false := decide_eq_false hpq
          rw [hdd] at SS
          have HF := Lib.hid (show decide (ps = qs) = false from decide_eq_false (fun e => hpq (HNE.out e)))
          clear hdd hpq HNE
          go_wp2_with fail
          refine SS.out.mono ?_
          rintro e w3 ⟨rfl, hb⟩
          have HB4 := Lib.hid (HBN.out.trans (hb.mono HBN.out.size))
          clear hb SS hc0 hc1 hc0' hc1' NN HBN
          go_wp2
          go_ret
          exact ⟨by rw [HF.out]; rfl, HB4.out⟩
      · obtain rfl : k = n := by omega
        have HF := Lib.hid (show decide (ps = qs) = true from decide_eq_true (by
          have h := HE.out
          rwa [List.take_of_length_le (by rw [← HN.out]; exact Nat.le_refl _), List.take_of_length_le (by rw [← HL.out, ← HN.out]; exact Nat.le_refl _)] at h))
        go_wp2
        go_ret
        exact ⟨by rw [HF.out]; rfl, HB.out⟩
  · have HF := Lib.hid (show decide (ps = qs) = false from decide_eq_false (fun e => hln (by rw [e])))
    obtain ⟨n, hn⟩ : ∃ n, n = ps.length := ⟨_, rfl⟩
    obtain ⟨m, hm⟩ : ∃ m, m = qs.length := ⟨_, rfl⟩
    rw [← hn] at hl1 hs1 hln
    rw [← hm] at hl2 hs2 hln
    have hne : ((n : Int) != (m : Int)) = true := by rw [bne_iff_ne]; omega
    clear hn hm H1 H2
    go_enter Tryz.func42, Tryz.ntmps42
    go_wp2
    go_ret
    exact ⟨by rw [HF.out]; rfl, Below.refl _ _⟩

theorem zset_Same (v1 v2 : Value) (ps qs : List PairB) (w : World) (h1 : RdP w v1 ps) (h2 : RdP w v2 qs) :
    Calls Tryz.prog 21 #[v1, v2] w fun e w' => e = .returned (.bool (decide (ps = qs))) ∧ Below w.heap.size w w' := by
  have CK := Lib.hid (pairs_EqualFunc v1 v2 ps qs w h1 h2)
  obtain ⟨c, hc⟩ : ∃ c, c = decide (ps = qs) := ⟨_, rfl⟩
  rw [← hc] at CK ⊢
  clear hc h1 h2
  go_enter Tryz.func21, Tryz.ntmps21
  go_wp2_with fail
  refine CK.out.mono ?_
  rintro e w1 ⟨rfl, hb⟩
  have HB := Lib.hid hb
  clear hb CK
  go_wp2
  go_ret
  exact ⟨rfl, HB.out⟩

end Go.Proofs.YtokpphhmmcoeaaaGreatDoor
