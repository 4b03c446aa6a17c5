/-
  zset.Neg, zset.Weight.
-/
import Derived.Test.YteiphdcgffapbaaDoorGZProgA
import Derived.Test.YteiphdcgffapbaaDoorGZRefS
import Derived.Test.YteiphdcgffapbaaDoorGBaseB
import Derived.Test.YteiphdcgffapbaaDoorGRow
set_option linter.unusedVariables false
set_option linter.unusedSimpArgs false
set_option maxRecDepth 1000000
namespace Go.Proofs.YteiphdcgffapbaaDoor
open Go.RowKit Go.Shelf

set_option maxHeartbeats 4000000 in
theorem zset_Neg (v1 v2 : Value) (cs : List ColB) (ps : List PairB) (w : World) (h1 : RdC w v1 cs) (h2 : RdP w v2 ps) (hC : CS cs) (hP : PSO ps) (hT : Tabs w) :
    Calls Tryd.prog 11 #[v1, v2] w fun e w' => ∃ v, e = .returned (.tuple #[v, .int .i64 (negE cs ps : Nat)]) ∧ RdP w' v (negO cs ps) ∧ Below w.heap.size w w' := by
  have CK := Lib.hid (zset_Check v1 v2 cs ps w h1 h2 hC hP hT)
  have hl2 := h2.len
  have hs2 := h2.small
  have H2 := Lib.hid h2
  clear h1 h2
  obtain ⟨c, hc⟩ : ∃ c, c = chkZ cs ps := ⟨_, rfl⟩
  rw [← hc] at CK
  by_cases hcz : c = 0
  · subst hcz
    have HE := Lib.hid (show negE cs ps = if minB ps = true then 12 else 0 from by unfold negE; rw [if_neg (by omega)])
    have HS := Lib.hid ((chkZ_zero hP).1 hc.symm)
    have hlen : ps.length ≤ 1024 := HS.out.2.1
    obtain ⟨n, hn⟩ : ∃ n, n = ps.length := ⟨_, rfl⟩
    rw [← hn] at hl2 hs2 hlen
    have HN := Lib.hid hn
    clear hc hn
    go_enter Tryd.func11, Tryd.ntmps11
    go_wp2_with fail
    refine CK.out.mono ?_
    rintro e w1 ⟨rfl, hb⟩
    have HB1 := Lib.hid hb
    have hsz1 := hb.size
    clear hb CK
    go_wp2
    go_loopw [7, 20] (fun tv i wr => ∃ (k : Nat) (tx : Value), tx = tv ∧ k ≤ n ∧ i = .int .i64 k ∧ Hid (minB (ps.take k) = false) ∧ Hid (OwnP wr w1.heap.size tx (Z.negs (ps.take k))) ∧ Hid (Below w1.heap.size w1 wr)) (fun _ i _ => n - (intOf i).toNat)
    case atStart => exact ⟨0, _, rfl, by omega, rfl, Lib.hid rfl, Lib.hid (OwnP.nil _ _), Lib.hid (Below.refl _ _)⟩
    case round =>
      obtain ⟨k, tx, rfl, hk, rfl, HM, HO, HB⟩ := hrel
      by_cases hlt : k < n
      · have k2 : k < ps.length := by rw [← HN.out]; exact hlt
        obtain ⟨b, o, rv, hi, c0, c1, re, hbl⟩ := ((H2.out.later HB1.out (Nat.le_refl _)).later HB.out (Nat.le_refl _)).get k2
        obtain ⟨hce, hww⟩ := hP.get k2
        obtain ⟨ao, nn, cap, rfl⟩ := re.lit
        have HMS := Lib.hid (minB_snoc ps k k2 HM.out)
        have HNS := Lib.hid (negs_snoc ps k k2)
        have hvl : (ps.getD k default).1.length ≤ 8 := by
          have := HS.out.2.2.all (ps.getD k default) (by simp [List.getD, k2])
          obtain ⟨h1, h2, _⟩ := errRow_len this.1
          have := ((errS_iffR (colsL cs)).1 h1).1.2
          unfold colsL at this; rw [List.length_map] at this; omega
        obtain ⟨p, hp⟩ : ∃ p, p = ps.getD k default := ⟨_, rfl⟩
        rw [← hp] at c1 re hce hww HMS HNS hvl
        clear hp k2
        rcases p with ⟨r, x⟩
        dsimp only at c1 re hce hww hvl
        have NN := Lib.hid (new1 wr (.cells #[.slice ao nn cap, .int .i64 x] 49))
        have HBN := Lib.hid (HB.out.trans (NN.out.2.2.mono HB.out.size))
        by_cases hmin : x = -9223372036854775808
        · have HF := Lib.hid (show minB ps = true from minB_take (k := k + 1) (by rw [HMS.out]; simp [hmin]))
          subst hmin
          have HX := Lib.hid (show negO cs ps = [] from by unfold negO; rw [if_neg (by rw [HE.out, HF.out]; simp)])
          go_wp2_with fail
          refine (weight_Neg (-9223372036854775808) (by exact hww) _).mono ?_
          rintro e w3 ⟨rfl, rfl⟩
          rw [show ngV (-9223372036854775808) = 0 from rfl, show ngE (-9223372036854775808) = 12 from rfl]
          go_wp2
          go_ret2
          exact ⟨_, by rw [HE.out, HF.out]; rfl, by rw [HX.out]; exact RdP.nil _, HB1.out.trans (HBN.out.mono hsz1)⟩
        · have HM2 := Lib.hid (show minB (ps.take (k + 1)) = false from by rw [HMS.out, beq_eq_false_iff_ne]; exact hmin)
          have hszr : w1.heap.size ≤ wr.heap.size := HB.out.size
          have HOa := Lib.hid (HO.out.later NN.out.2.2 (Nat.le_refl _))
          have HCL := Lib.hid (cells_Clone _ r _ (re.later NN.out.2.2 (Nat.le_refl _)) (by omega))
          have hsa := NN.out.1
          obtain ⟨wa, hwa⟩ : ∃ wa, wa = wr.alloc (.cells #[.slice ao nn cap, .int .i64 x] 49) := ⟨_, rfl⟩
          rw [← hwa] at HOa HCL hsa HBN
          go_wp2_with fail
          refine (weight_Neg x hww _).mono ?_
          rintro e w3 ⟨rfl, rfl⟩
          rw [show ngV x = -x from if_neg hmin, show ngE x = 0 from if_neg hmin]
          obtain ⟨y, hy⟩ : ∃ y, y = -x := ⟨_, rfl⟩
          rw [← hy]
          have HY := Lib.hid hy
          clear hy hmin re HO
          go_wp2_with fail
          rw [← hwa]
          clear hwa c0 c1 NN
          refine HCL.out.mono ?_
          rintro e w4 ⟨v4, rfl, ho4, hb4⟩
          obtain ⟨ao4, n4, cap4, rfl⟩ := (ho4.rd (by omega)).lit
          have hsz4 : wa.heap.size ≤ w4.heap.size := hb4.size
          have HO4 := Lib.hid (((HOa.out.later hb4 (Nat.le_refl _))).alloc (.cells #[.slice ao4 n4 cap4, .int .i64 y] 49))
          have HR4 := Lib.hid ((ho4.rd (by omega)).later ((Below.refl w4.heap.size w4).alloc (Nat.le_refl _) (.cells #[.slice ao4 n4 cap4, .int .i64 y] 49)) (Nat.le_refl _))
          have HF4 := Lib.hid (fun g (hg : tx.ownBlock = some g) => ho4.offB (HOa.out.lt hg).2)
          have HB4 := Lib.hid ((HBN.out.trans (hb4.mono (by omega))).alloc (by omega) (.cells #[.slice ao4 n4 cap4, .int .i64 y] 49))
          have HG4 := Lib.hid (heap_alloc_new w4 (.cells #[.slice ao4 n4 cap4, .int .i64 y] 49))
          clear ho4 hb4 HOa HCL HBN
          go_wp2_with (with_reducible refine wplP_append w1.heap.size _ ?hs HO4.out w4.heap.size (.slice ao4 n4 cap4) (r, y) ?hx HG4.out HR4.out HF4.out ?hn ?hbase w1.heap.size w1 HB4.out (Nat.le_refl _) ?_)
          case hs => rfl
          case hx => rfl
          case hn => simp [Z.negs]; omega
          case hbase => simp; omega
          intro v5 w5 ho5 hb5 _ _
          have HO5 := Lib.hid (show OwnP w5 w1.heap.size v5 (Z.negs (ps.take (k + 1))) from by rw [HNS.out, ← HY.out]; exact ho5)
          have HB5 := Lib.hid hb5
          clear ho5 hb5 HO4 HR4 HF4 HB4 HG4
          go_wp2
          go_roundw
          case rel => exact ⟨k + 1, _, rfl, by omega, by go_num, HM2, HO5, HB5⟩
          case measure => simp [intOf]; omega
      · obtain rfl : k = n := by omega
        have htk : ps.take k = ps := List.take_of_length_le (by rw [← HN.out]; exact Nat.le_refl _)
        rw [htk] at HM HO
        have HE2 := Lib.hid (show negE cs ps = 0 from by rw [HE.out, HM.out]; rfl)
        have HX := Lib.hid (show negO cs ps = Z.negs ps from by unfold negO; rw [if_pos HE2.out])
        clear htk
        go_wp2
        go_ret2
        exact ⟨_, by rw [HE2.out]; rfl, by rw [HX.out]; exact HO.out.rd (by have := HN.out; simp [Z.negs]; omega), HB1.out.trans (HB.out.mono hsz1)⟩
  · have HE := Lib.hid (show negE cs ps = c from by unfold negE; rw [if_pos (by omega), hc])
    have HX := Lib.hid (show negO cs ps = [] from by unfold negO; rw [if_neg (by rw [HE.out]; exact hcz)])
    have q : ((c : Int) != 0) = true := by rw [bne_iff_ne]; omega
    clear hc
    go_enter Tryd.func11, Tryd.ntmps11
    go_wp2_with fail
    refine CK.out.mono ?_
    rintro e w1 ⟨rfl, hb⟩
    have HB1 := Lib.hid hb
    clear hb CK
    go_wp2
    go_ret2
    exact ⟨_, by rw [HE.out]; rfl, by rw [HX.out]; exact RdP.nil _, HB1.out⟩

end Go.Proofs.YteiphdcgffapbaaDoor
