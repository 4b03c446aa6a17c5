/- -/
import Derived.Test.YtmbpdpcinhhclaaGreatDoorKTrcP
import Derived.Test.YtmbpdpcinhhclaaGreatDoorKTrcS
import Derived.Test.YtmbpdpcinhhclaaGreatDoorKZSameW
import Derived.Test.YtmbpdpcinhhclaaGreatDoorKSchema
import Derived.Test.YtmbpdpcinhhclaaGreatDoorKCrcW
import Derived.Lib.SmallJoins
import Derived.Test.YtmbpdpcinhhclaaGreatDoorKTrcW
import Derived.Test.YtmbpdpcinhhclaaGreatDoorKTrcR
set_option linter.unusedVariables false
set_option linter.unusedSimpArgs false
set_option maxRecDepth 1000000
namespace Go.Proofs.YtmbpdpcinhhclaaGreatDoor
open Go.RowKit Go.Shelf

instance entB_dec : DecidableEq EntB := fun a b => (inferInstance : Decidable (a = b))

set_option maxHeartbeats 4000000 in
theorem trace_sameEntry (v1 v2 : Value) (x y : EntB) (w : World) (h1 : RdN w v1 x) (h2 : RdN w v2 y) :
    Calls Tryz.prog 51 #[v1, v2] w fun e w' => e = .returned (.bool (decide (x = y))) ∧ Below w.heap.size w w' := by
  obtain ⟨k1, s1, ps⟩ := x
  obtain ⟨k2, s2, qs⟩ := y
  obtain ⟨p1, rfl, hP⟩ := h1
  obtain ⟨p2, rfl, hQ⟩ := h2
  dsimp only at hP hQ ⊢
  obtain ⟨ao, no, co, rfl⟩ := hP.lit12
  obtain ⟨bo, mo, do_, rfl⟩ := hQ.lit12
  have SM := Lib.hid (fun wz (hz : Below w.heap.size w wz) => zset_Same (.slice ao no co) (.slice bo mo do_) ps qs wz (hP.later hz (Nat.le_refl _)) (hQ.later hz (Nat.le_refl _)))
  have HB0 := Lib.hid (((Below.refl w.heap.size w).alloc (Nat.le_refl _) (.cells #[.int .i64 k1, .int .i64 s1, .slice ao no co] 71)).alloc (by simp) (.cells #[.int .i64 k2, .int .i64 s2, .slice bo mo do_] 71))
  clear hP hQ
  by_cases h1 : k1 = k2
  · subst h1
    have d1 : ((k1 : Int) == k1) = true := by simp
    by_cases h2 : s1 = s2
    · subst h2
      have d2 : ((s1 : Int) == s1) = true := by simp
      have HE := Lib.hid (show decide (ps = qs) = decide (((k1, s1, ps) : EntB) = (k1, s1, qs)) from by simp)
      go_enter Tryz.func51, Tryz.ntmps51
      go_wp2_with fail
      refine (SM.out _ HB0.out).mono ?_
      rintro e w3 ⟨rfl, hb⟩
      have HB3 := Lib.hid (HB0.out.trans (hb.mono HB0.out.size))
      generalize decide (ps = qs) = z at *
      clear hb
      go_wp2
      go_ret
      exact ⟨by rw [← HE.out]; rfl, HB3.out⟩
    · have d2 : ((s1 : Int) == s2) = false := by rw [beq_eq_false_iff_ne]; exact h2
      have HE := Lib.hid (show false = decide (((k1, s1, ps) : EntB) = (k1, s2, qs)) from by simp [h2])
      clear h2 SM
      go_enter Tryz.func51, Tryz.ntmps51
      go_wp2
      go_ret
      exact ⟨by rw [← HE.out]; rfl, HB0.out⟩
  · have d1 : ((k1 : Int) == k2) = false := by rw [beq_eq_false_iff_ne]; exact h1
    have HE := Lib.hid (show false = decide (((k1, s1, ps) : EntB) = (k2, s2, qs)) from by simp [h1])
    clear h1 SM
    go_enter Tryz.func51, Tryz.ntmps51
    go_wp2
    go_ret
    exact ⟨by rw [← HE.out]; rfl, HB0.out⟩

set_option maxHeartbeats 4000000 in
theorem entries_EqualFunc (v1 v2 : Value) (ps qs : List EntB) (w : World) (h1 : RdZ w v1 ps) (h2 : RdZ w v2 qs) :
    Calls Tryz.prog 50 #[v1, v2, .func (.func 51) #[] #[]] w fun e w' => e = .returned (.bool (decide (ps = qs))) ∧ Below w.heap.size w w' := by
  have hl1 := h1.len
  have hl2 := h2.len
  have hs1 := h1.small
  have hs2 := h2.small
  have H1 := Lib.hid h1
  have H2 := Lib.hid h2
  clear h1 h2
  by_cases hln : ps.length = qs.length
  · obtain ⟨n, hn⟩ : ∃ n, n = ps.length := ⟨_, rfl⟩
    rw [← hln] at hl2 hs2
    rw [← hn] at hl1 hl2 hs1 hs2
    have HN := Lib.hid hn
    have HL := Lib.hid hln
    clear hln hn
    go_enter Tryz.func50, Tryz.ntmps50
    go_wp2
    go_loopw [17] (fun i wr => ∃ k : Nat, k ≤ n ∧ i = .int .i64 k ∧ Hid (ps.take k = qs.take k) ∧ Hid (Below w.heap.size w wr)) (fun i _ => n - (intOf i).toNat)
    case atStart => exact ⟨0, by omega, rfl, Lib.hid (by simp), Lib.hid (Below.refl _ _)⟩
    case round =>
      obtain ⟨k, hk, rfl, HE, HB⟩ := hrel
      by_cases hlt : k < n
      · have k1 : k < ps.length := by rw [← HN.out]; exact hlt
        have k2 : k < qs.length := by rw [← HL.out]; exact k1
        obtain ⟨b, o, rv, hi, c0, c1, c2, re, hbl⟩ := H1.out.get k1
        obtain ⟨b', o', rv', hi', c0', c1', c2', re', hbl'⟩ := H2.out.get k2
        obtain ⟨ao, nn, cap, rfl⟩ := re.lit12
        obtain ⟨ao', nn', cap', rfl⟩ := re'.lit12
        have HT := Lib.hid (show ps.take (k + 1) = ps.take k ++ [ps.getD k default] from by rw [List.take_add_one]; simp [List.getD, k1])
        have HT' := Lib.hid (show qs.take (k + 1) = qs.take k ++ [qs.getD k default] from by rw [List.take_add_one]; simp [List.getD, k2])
        have HNE := Lib.hid (fun e : ps = qs => show ps.getD k default = qs.getD k default by rw [e])
        obtain ⟨p, hp⟩ : ∃ p, p = ps.getD k default := ⟨_, rfl⟩
        obtain ⟨p', hp'⟩ : ∃ p', p' = qs.getD k default := ⟨_, rfl⟩
        rw [← hp] at c0 c1 re HT HNE
        rw [← hp'] at c0' c1' re' HT' HNE
        rcases p with ⟨x, z, r1⟩
        rcases p' with ⟨y, z', r2⟩
        dsimp only at c0 c1 re c0' c1' re'
        have hc0 := (HB.out.cell (p := ⟨b, o, none⟩) hbl).trans c0
        have hc1 := (HB.out.cell (p := ⟨b, o + 1, none⟩) hbl).trans c1
        have hc2 := (HB.out.cell (p := ⟨b, o + 2, none⟩) hbl).trans c2
        have hc0' := (HB.out.cell (p := ⟨b', o', none⟩) hbl').trans c0'
        have hc1' := (HB.out.cell (p := ⟨b', o' + 1, none⟩) hbl').trans c1'
        have hc2' := (HB.out.cell (p := ⟨b', o' + 2, none⟩) hbl').trans c2'
        have hbw : b' < wr.heap.size := Nat.lt_of_lt_of_le hbl' HB.out.size
        have NN := Lib.hid (new2 wr (.cells #[.int .i64 x, .int .i64 z, .slice ao nn cap] 71) (.cells #[.int .i64 y, .int .i64 z', .slice ao' nn' cap'] 71))
        have HBN := Lib.hid (HB.out.trans (NN.out.2.2.2.mono HB.out.size))
        have SS := Lib.hid (trace_sameEntry (.agg #[.int .i64 x, .int .i64 z, .slice ao nn cap]) (.agg #[.int .i64 y, .int .i64 z', .slice ao' nn' cap']) (x, z, r1) (y, z', r2) _ ⟨_, rfl, re.later HBN.out (Nat.le_refl _)⟩ ⟨_, rfl, re'.later HBN.out (Nat.le_refl _)⟩)
        clear hp hp' k1 k2 re re' c0 c1 c2 c0' c1' c2'
        by_cases hpq : ((x, z, r1) : EntB) = (y, z', r2)
        · have hdd : decide (((x, z, r1) : EntB) = (y, z', r2)) = true := decide_eq_true hpq
          rw [hdd] at SS
          have HE2 := Lib.hid (show ps.take (k + 1) = qs.take (k + 1) from by rw [HT.out, HT'.out, HE.out, hpq])
          clear hdd hpq HNE
          go_wp2_with fail
          refine SS.out.mono ?_
          rintro e w3 ⟨rfl, hb⟩
          have HB4 := Lib.hid (HBN.out.trans (hb.mono HBN.out.size))
          clear hb SS hc0 hc1 hc2 hc0' hc1' hc2' NN HBN
          go_wp2
          go_roundw
          case rel => exact ⟨k + 1, by omega, by go_num, HE2, HB4⟩
          case measure => simp [intOf]; omega
        · have hdd : decide (((x, z, r1) : EntB) = (y, z', r2)) = false := decide_eq_false hpq
          rw [hdd] at SS
          have HF := Lib.hid (show decide (ps = qs) = false from decide_eq_false (fun e => hpq (HNE.out e)))
          clear hdd hpq HNE
          go_wp2_with fail
          refine SS.out.mono ?_
          rintro e w3 ⟨rfl, hb⟩
          have HB4 := Lib.hid (HBN.out.trans (hb.mono HBN.out.size))
          clear hb SS hc0 hc1 hc2 hc0' hc1' hc2' NN HBN
          go_wp2
          go_ret
          exact ⟨by rw [HF.out]; rfl, HB4.out⟩
      · obtain rfl : k = n := by omega
        have HF := Lib.hid (show decide (ps = qs) = true from decide_eq_true (by
          have h := HE.out
          rwa [List.take_of_length_le (by rw [← HN.out]; exact Nat.le_refl _), List.take_of_length_le (by rw [← HL.out, ← HN.out]; exact Nat.le_refl _)] at h))
        go_wp2
        go_ret
        exact ⟨by rw [HF.out]; rfl, HB.out⟩
  · have HF := Lib.hid (show decide (ps = qs) = false from decide_eq_false (fun e => hln (by rw [e])))
    obtain ⟨n, hn⟩ : ∃ n, n = ps.length := ⟨_, rfl⟩
    obtain ⟨m, hm⟩ : ∃ m, m = qs.length := ⟨_, rfl⟩
    rw [← hn] at hl1 hs1 hln
    rw [← hm] at hl2 hs2 hln
    have hne : ((n : Int) != (m : Int)) = true := by rw [bne_iff_ne]; omega
    clear hn hm H1 H2
    go_enter Tryz.func50, Tryz.ntmps50
    go_wp2
    go_ret
    exact ⟨by rw [HF.out]; rfl, Below.refl _ _⟩

set_option maxHeartbeats 4000000 in
theorem trace_Same (v1 v2 : Value) (cs ds : List ColB) (es fs : List EntB) (w : World) (h1 : RdT13 w v1 cs es) (h2 : RdT13 w v2 ds fs) :
    Calls Tryz.prog 26 #[v1, v2] w (SaO13 w (cs = ds ∧ es = fs)) := by
  obtain ⟨s1, e1, rfl, hR1, hZ1⟩ := h1
  obtain ⟨s2, e2, rfl, hR2, hZ2⟩ := h2
  obtain ⟨a1, l1, p1, rfl⟩ := hR1.lit12
  obtain ⟨a2, l2, p2, rfl⟩ := hR2.lit12
  obtain ⟨a3, l3, p3, rfl⟩ := hZ1.lit
  obtain ⟨a4, l4, p4, rfl⟩ := hZ2.lit
  have SS := Lib.hid (fun wz (hz : Below w.heap.size w wz) => schema_Same (.slice a1 l1 p1) (.slice a2 l2 p2) cs ds wz (hR1.later hz (Nat.le_refl _)) (hR2.later hz (Nat.le_refl _)))
  have EF := Lib.hid (fun wz (hz : Below w.heap.size w wz) => entries_EqualFunc (.slice a3 l3 p3) (.slice a4 l4 p4) es fs wz (hZ1.later hz (Nat.le_refl _)) (hZ2.later hz (Nat.le_refl _)))
  obtain ⟨z0, z1, z2, z3⟩ := new2 w (.cells #[.slice a1 l1 p1, .slice a3 l3 p3] 25) (.cells #[.slice a2 l2 p2, .slice a4 l4 p4] 25)
  have HV := Lib.hid (And.intro (show Tbox ((w.alloc (.cells #[.slice a1 l1 p1, .slice a3 l3 p3] 25)).alloc (.cells #[.slice a2 l2 p2, .slice a4 l4 p4] 25)) w.heap.size (.slice a1 l1 p1) (.slice a3 l3 p3) from z1) (show Tbox ((w.alloc (.cells #[.slice a1 l1 p1, .slice a3 l3 p3] 25)).alloc (.cells #[.slice a2 l2 p2, .slice a4 l4 p4] 25)) (w.heap.size + 1) (.slice a2 l2 p2) (.slice a4 l4 p4) from z2))
  have HB := Lib.hid z3
  clear hR1 hR2 hZ1 hZ2 z0 z1 z2 z3
  go_enter Tryz.func26, Tryz.ntmps26
  by_cases hc : cs = ds
  · rw [decide_eq_true hc] at SS
    have HC := Lib.hid hc
    clear hc
    go_wp2_with fail
    generalize (w.alloc (.cells #[.slice a1 l1 p1, .slice a3 l3 p3] 25)).alloc (.cells #[.slice a2 l2 p2, .slice a4 l4 p4] 25) = w0 at *
    obtain ⟨sb, hsb⟩ : ∃ sb, sb = w.heap.size := ⟨_, rfl⟩
    obtain ⟨lb, hlb9⟩ : ∃ lb, lb = sb + 1 := ⟨_, rfl⟩
    rw [← hsb] at HV
    rw [← hsb]
    rw [← hlb9] at HV
    rw [← hlb9]
    have HSB := Lib.hid hsb
    have HLB := Lib.hid hlb9
    clear hsb hlb9
    refine (SS.out w0 HB.out).mono ?_
    rintro e w1 ⟨rfl, hb⟩
    replace HB := Lib.hid (HB.out.trans (hb.mono HB.out.size))
    replace HV := Lib.hid (And.intro (HV.out.1.later hb) (HV.out.2.later hb))
    clear hb SS
    obtain ⟨c0, c1⟩ := HV.out.1.cells
    obtain ⟨c2, c3⟩ := HV.out.2.cells
    go_wp2_with fail
    refine (EF.out w1 HB.out).mono ?_
    rintro e w2 ⟨rfl, hb⟩
    replace HB := Lib.hid (HB.out.trans (hb.mono HB.out.size))
    have HF := Lib.hid (show decide (es = fs) = true ↔ cs = ds ∧ es = fs from by rw [decide_eq_true_iff]; exact ⟨fun h => ⟨HC.out, h⟩, fun h => h.2⟩)
    generalize decide (es = fs) = z at *
    clear hb EF c0 c1 c2 c3
    go_wp2
    go_ret
    exact ⟨z, rfl, HF.out, HB.out⟩
  · rw [decide_eq_false hc] at SS
    have HC := Lib.hid (show false = true ↔ cs = ds ∧ es = fs from iff_of_false (by simp) (fun h => hc h.1))
    clear hc EF
    go_wp2_with fail
    generalize (w.alloc (.cells #[.slice a1 l1 p1, .slice a3 l3 p3] 25)).alloc (.cells #[.slice a2 l2 p2, .slice a4 l4 p4] 25) = w0 at *
    refine (SS.out w0 HB.out).mono ?_
    rintro e w1 ⟨rfl, hb⟩
    replace HB := Lib.hid (HB.out.trans (hb.mono HB.out.size))
    clear hb SS HV
    go_wp2
    go_ret
    exact ⟨false, rfl, HC.out, HB.out⟩

end Go.Proofs.YtmbpdpcinhhclaaGreatDoor


/- -/
namespace Go.Proofs.YtmbpdpcinhhclaaGreatDoor
open Go.RowKit Go.Shelf

def ex13C : List ColB := [(⟨#[105, 100]⟩, 0)]
def ex13L : List UInt8 := [0, 5, 1, 2, 105, 100, 0]
theorem ex13_fine : errS (colsL ex13C) = 0 := by decide +kernel
theorem ex13_cs : CS ex13C := fun c hc => by
  rw [List.mem_singleton.1 hc]
  exact ⟨by decide, by decide, by decide⟩
theorem ex13_frame : frX 0 (wrS (colsL ex13C)) = ex13L := by decide +kernel
theorem ex13_bytes : trE ex13C [] = ([68, 75, 76, 49] ++ (ex13L ++ Crc.put (Crc.sum ex13L)), 0, [], 0, 0) := by
  rw [trE_of ex13_fine (by rw [trW]), trW]
  unfold hdB frB magicL
  rw [ex13_frame, List.append_nil]
theorem ex13_back : (trD ([68, 75, 76, 49] ++ (ex13L ++ Crc.put (Crc.sum ex13L)))).1 = ex13C ∧ (trD ([68, 75, 76, 49] ++ (ex13L ++ Crc.put (Crc.sum ex13L)))).2.1 = [] ∧ (trD ([68, 75, 76, 49] ++ (ex13L ++ Crc.put (Crc.sum ex13L)))).2.2.2.1 = ([68, 75, 76, 49] ++ (ex13L ++ Crc.put (Crc.sum ex13L))).length ∧ (trD ([68, 75, 76, 49] ++ (ex13L ++ Crc.put (Crc.sum ex13L)))).2.2.2.2 = 0 := by
  have h := trE_back (cs := ex13C) (es := []) (fun x hx => absurd hx (by simp)) (by rw [ex13_bytes])
  rw [ex13_bytes] at h
  exact ⟨h.2.1, h.2.2.1, h.2.2.2.1, h.2.2.2.2⟩
theorem rdC_one13 (w : World) (a : ColB) : RdC (w.alloc (.cells #[.string a.1, .int .i64 a.2] 76)) (.slice (some ⟨w.heap.size, 0, none⟩) 1 1) [a] := by
  have ho := ownG_built colE w w.heap.size (Nat.le_refl _) ([a].map colV) (by intro x hx; obtain ⟨t, _, rfl⟩ := List.mem_map.1 hx; rfl) (by
    intro x hx u hu
    obtain ⟨t, ht, rfl⟩ := List.mem_map.1 hx
    simp [colV] at hu
    rcases hu with rfl | rfl <;> rfl) (by simp)
  exact OwnG.rd ho (by simp)

set_option maxHeartbeats 8000000 in
theorem law13_alive_of (w : World)
    (enc : ∀ wz v cs es, Below w.heap.size w wz → RdT13 wz v cs es → CS cs → (∀ x ∈ es, EnO x) → Calls Tryz.prog 14 #[v] wz (EnO13 wz (trE cs es)))
    (dec : ∀ wz v b, Below w.heap.size w wz → Rd wz v b → Calls Tryz.prog 21 #[v] wz (DcO13 wz b)) :
    Calls Tryz.prog 12 #[] w fun e w' => e = .returned (.bool true) ∧ Below w.heap.size w w' := by
  have hv1 := rdC_one13 w (⟨#[105, 100]⟩, 0)
  have HB1 := Lib.hid ((Below.refl w.heap.size w).alloc (Nat.le_refl _) (.cells #[.string ⟨#[105, 100]⟩, .int .i64 0] 76))
  have ENC := Lib.hid (enc _ (.agg #[.slice (some ⟨w.heap.size, 0, none⟩) 1 1, .slice none 0 0]) ex13C [] HB1.out ⟨_, _, rfl, hv1, RdZ.nil _⟩ ex13_cs (fun x hx => absurd hx (by simp)))
  rw [ex13_bytes] at ENC
  obtain ⟨B, hB⟩ : ∃ B, B = [68, 75, 76, 49] ++ (ex13L ++ Crc.put (Crc.sum ex13L)) := ⟨_, rfl⟩
  have hbl : B.length = 15 := by rw [hB, List.length_append, List.length_append, show (Crc.put (Crc.sum ex13L)).length = 4 from rfl]; rfl
  have hbk := ex13_back
  rw [← hB] at ENC hbk
  have HBk := Lib.hid hbk
  have HBe := Lib.hid hB
  have HBl := Lib.hid hbl
  have DEC := Lib.hid dec
  clear enc dec hv1 hbk hB hbl
  go_enter Tryz.func12, Tryz.ntmps12
  go_wp2_with fail
  refine ENC.out.mono ?_
  rintro e w2 ⟨bv, rfl, ho, hb⟩
  have HB2 := Lib.hid (HB1.out.trans (hb.mono HB1.out.size))
  have HA := Lib.hid (show Rd w2 bv B from ho.rd (by have := HBl.out; dsimp only; omega))
  clear hb ho ENC HB1
  have hcv := Lib.run_convert_bytes_const (P := Tryz.prog) w2 28 5 #[.int .u8 68, .int .u8 75, .int .u8 76, .int .u8 49] 4 4 Tryz.underlying28 Tryz.underlying5
  have h4 := rd_lit w2 [68, 75, 76, 49] (by decide) (4, 5)
  have hb3 : Below w.heap.size w (w2.alloc (.cells #[.int .u8 68, .int .u8 75, .int .u8 76, .int .u8 49] 5 (4, 5))) := HB2.out.alloc HB2.out.size _
  have hcv2 := Go.Joins.run_convert_bytes_const_at (P := Tryz.prog) (w2.alloc (.cells #[.int .u8 68, .int .u8 75, .int .u8 76, .int .u8 49] 5 (4, 5))) 28 5 #[.int .u8 0, .int .u8 5, .int .u8 1, .int .u8 2, .int .u8 105, .int .u8 100, .int .u8 0] 7 7 (w2.heap.size + 1) (by simp) Tryz.underlying28 Tryz.underlying5
  have h7 : Rd ((w2.alloc (.cells #[.int .u8 68, .int .u8 75, .int .u8 76, .int .u8 49] 5 (4, 5))).alloc (.cells #[.int .u8 0, .int .u8 5, .int .u8 1, .int .u8 2, .int .u8 105, .int .u8 100, .int .u8 0] 5 (7, 8))) (.slice (some ⟨w2.heap.size + 1, 0, none⟩) 7 7) ex13L := by
    have := rd_lit (w2.alloc (.cells #[.int .u8 68, .int .u8 75, .int .u8 76, .int .u8 49] 5 (4, 5))) ex13L (by decide) (7, 8)
    rw [World.size_alloc] at this
    exact this
  have hb4 := (Below.refl (w2.alloc (.cells #[.int .u8 68, .int .u8 75, .int .u8 76, .int .u8 49] 5 (4, 5))).heap.size (w2.alloc (.cells #[.int .u8 68, .int .u8 75, .int .u8 76, .int .u8 49] 5 (4, 5)))).alloc (Nat.le_refl _) (.cells #[.int .u8 0, .int .u8 5, .int .u8 1, .int .u8 2, .int .u8 105, .int .u8 100, .int .u8 0] 5 (7, 8))
  have H4 := Lib.hid (show Rd ((w2.alloc (.cells #[.int .u8 68, .int .u8 75, .int .u8 76, .int .u8 49] 5 (4, 5))).alloc (.cells #[.int .u8 0, .int .u8 5, .int .u8 1, .int .u8 2, .int .u8 105, .int .u8 100, .int .u8 0] 5 (7, 8))) (.slice (some ⟨w2.heap.size, 0, none⟩) 4 4) [68, 75, 76, 49] from h4.later hb4 (Nat.le_refl _))
  have H7 := Lib.hid h7
  have HB4 := Lib.hid (hb3.trans (hb4.mono hb3.size))
  have HA4 := Lib.hid ((HA.out.alloc (.cells #[.int .u8 68, .int .u8 75, .int .u8 76, .int .u8 49] 5 (4, 5))).alloc (.cells #[.int .u8 0, .int .u8 5, .int .u8 1, .int .u8 2, .int .u8 105, .int .u8 100, .int .u8 0] 5 (7, 8)))
  clear h4 h7 hb3 hb4 HA
  go_wp2_with fail
  refine (crc_Seal _ ex13L _ H7.out).mono ?_
  rintro e w5 ⟨cv, rfl, ho, hb⟩
  have hl5 : (ex13L ++ Crc.put (Crc.sum ex13L)).length = 11 := by rw [List.length_append, show (Crc.put (Crc.sum ex13L)).length = 4 from rfl]; rfl
  have hrc := ho.rd (by omega)
  have h45 := H4.out.later hb (Nat.le_refl _)
  have HA5 := Lib.hid (HA4.out.later hb (Nat.le_refl _))
  have hb5 := HB4.out.trans (hb.mono HB4.out.size)
  clear hb ho hcv hcv2 H4 H7 HB4 HA4 HB2
  go_wp2_with (refine wpl_appendFull w2.heap.size 4 [68, 75, 76, 49] (ex13L ++ Crc.put (Crc.sum ex13L)) ?hs h45 cv ?hx hrc ?hp ?hf ?hn w5.heap.size w5 (Below.refl _ _) (Nat.le_refl _) ?_)
  case hs => rfl
  case hx => rfl
  case hp => omega
  case hf => rw [hl5]; decide
  case hn => rw [hl5]; decide
  intro v6 w6 ho6 hb6
  rw [← HBe.out] at ho6
  have HB6 := Lib.hid (hb5.trans (hb6.mono hb5.size))
  have HR6 := Lib.hid (ho6.rd (by have := HBl.out; omega))
  have HA6 := Lib.hid (HA5.out.later hb6 (Nat.le_refl _))
  have DC := Lib.hid (DEC.out w6 v6 B HB6.out HR6.out)
  clear ho6 hb6 hb5 HA5 h45 hrc hl5 DEC
  go_wp2_with fail
  refine DC.out.mono ?_
  rintro e w7 ⟨tv, rfl, hT, _, hb⟩
  obtain ⟨k1, k2, k3, k4⟩ := HBk.out
  rw [k1, k2] at hT
  rw [k3, k4]
  have HB7 := Lib.hid (HB6.out.trans (hb.mono HB6.out.size))
  have hra := HA6.out.later hb (Nat.le_refl _)
  have hrb := HR6.out.later hb (Nat.le_refl _)
  obtain ⟨sv, ev, rfl, hR, hZ⟩ := hT
  obtain ⟨ae, ne, ce, rfl⟩ := hZ.lit
  obtain ⟨ac, nc, cc, rfl⟩ := hR.lit12
  have hlc := hR.len
  have hlb := hrb.len
  have N := new_one12 w7 (.cells #[.slice ac nc cc, .slice ae ne ce] 25)
  obtain ⟨c0, c1⟩ := (show Tbox (w7.alloc (.cells #[.slice ac nc cc, .slice ae ne ce] 25)) w7.heap.size (.slice ac nc cc) (.slice ae ne ce) from N.1).cells
  have HB8 := Lib.hid (HB7.out.trans (N.2.mono HB7.out.size))
  have hs1 := (hra.later N.2 (Nat.le_refl _)).str
  have hs2 := (hrb.later N.2 (Nat.le_refl _)).str
  clear hb k1 k2 k3 k4 hR hZ hra hrb N DC HR6 HA6 HB6
  go_wp2
  go_ret
  exact ⟨rfl, HB8.out⟩

end Go.Proofs.YtmbpdpcinhhclaaGreatDoor


/- -/
namespace Go.Proofs.YtmbpdpcinhhclaaGreatDoor
open Go.RowKit Go.Shelf

theorem trcK_of {w : World} (hT : Tabs w) (hF : Frs w) : TrcK w where
  alive := fun wz hz => law13_alive_of wz (fun w2 v cs es h2 h c o => trace_Encode v cs es w2 h c o ((hT.later hz).later h2) ((hF.later hz).later h2)) (fun w2 v b h2 h => trace_Decode v b w2 h ((hT.later hz).later h2) ((hF.later hz).later h2))
  encode := fun wz v cs es hz h c o => trace_Encode v cs es wz h c o (hT.later hz) (hF.later hz)
  view := fun wz v cs es hz h c o => trace_View v cs es wz h c o (hT.later hz) (hF.later hz)
  head := fun wz v cs hz h c => trace_Head v cs wz h c (hT.later hz)
  decode := fun wz v b hz h => trace_Decode v b wz h (hT.later hz) (hF.later hz)
  marks := fun wz v b hz h => trace_Marks v b wz h (hT.later hz) (hF.later hz)
  same := fun wz v1 v2 cs ds es fs hz h k => trace_Same v1 v2 cs ds es fs wz h k

end Go.Proofs.YtmbpdpcinhhclaaGreatDoor

