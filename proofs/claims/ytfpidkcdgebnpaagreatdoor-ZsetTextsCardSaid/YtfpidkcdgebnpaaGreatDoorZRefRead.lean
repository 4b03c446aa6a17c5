/-
  The document's own answers for layer 8: Read.
-/
import Derived.Test.YtfpidkcdgebnpaaGreatDoorGZRefT
import Derived.Test.YtfpidkcdgebnpaaGreatDoorGZProgC
import Derived.Test.YtfpidkcdgebnpaaGreatDoorGZRef
import Derived.Test.YtfpidkcdgebnpaaGreatDoorGHex
set_option linter.unusedVariables false
set_option linter.unusedSimpArgs false
set_option maxRecDepth 1000000
namespace Go.Proofs.YtfpidkcdgebnpaaGreatDoor
open Go.RowKit Go.Shelf

theorem index_no32 : ∀ {p : List UInt8}, (∀ q, q < p.length → p.getD q 0 ≠ 32) → Lib.index p [32] = -1
  | [], _ => rfl
  | x :: r, h => by
    have h0 : x ≠ 32 := by have := h 0 (by simp); simpa using this
    have ih := index_no32 (p := r) (fun q hq => by have := h (q + 1) (by simpa using hq); simpa using this)
    rw [index_one, if_neg h0, if_pos ih]
theorem index_at32 : ∀ {p : List UInt8} {j : Nat}, j < p.length → (∀ q, q < j → p.getD q 0 ≠ 32) → p.getD j 0 = 32 → Lib.index p [32] = j
  | [], j, h, _, _ => by simp at h
  | x :: r, 0, _, _, h1 => by
    have h0 : x = 32 := by simpa using h1
    rw [index_one, if_pos h0]; rfl
  | x :: r, j + 1, h, h0, h1 => by
    have hx : x ≠ 32 := by have := h0 0 (by omega); simpa using this
    have ih := index_at32 (p := r) (j := j) (by simpa using h) (fun q hq => by have := h0 (q + 1) (by omega); simpa using this) (by simpa using h1)
    rw [index_one, if_neg hx, ih, if_neg (by omega)]
    push_cast; rfl
theorem cut_no32 {p : List UInt8} (h : ∀ q, q < p.length → p.getD q 0 ≠ 32) : Lib.cut p [32] = (p, [], false) := by
  unfold Lib.cut
  rw [index_no32 h]; rfl
theorem cut_at32 {p : List UInt8} {j : Nat} (hj : j < p.length) (h0 : ∀ q, q < j → p.getD q 0 ≠ 32) (h1 : p.getD j 0 = 32) : Lib.cut p [32] = (p.take j, p.drop (j + 1), true) := by
  unfold Lib.cut
  rw [index_at32 hj h0 h1, if_pos (by omega)]
  rfl
theorem RdS.takeS {s : ByteArray} {l : List UInt8} (h : RdS s l) (k : Nat) : RdS (s.extract 0 k) (l.take k) := by
  refine ⟨?_, by have := h.small; simp; omega⟩
  rw [h.eq]
  apply ByteArray.ext
  simp [ByteArray.size]
theorem RdS.dropS {s : ByteArray} {l : List UInt8} (h : RdS s l) (k : Nat) : RdS (s.extract k s.size) (l.drop k) := by
  refine ⟨?_, by have := h.small; simp; omega⟩
  rw [h.eq]
  apply ByteArray.ext
  simp [ByteArray.size]
  exact List.take_of_length_le (by simp)
theorem prsE_step {cs : List ColB} {L : List (List UInt8)} {k : Nat} (h : k < L.length) (h0 : prsE cs (L.take k) = 0) : prsE cs (L.take (k + 1)) = prE cs (L.getD k []) := by
  have e : L.take (k + 1) = L.take k ++ [L.getD k []] := by rw [List.take_add_one]; simp [List.getD, h]
  rw [e, prsE_app, h0, if_neg (by simp)]
  show (if prE cs _ ≠ 0 then prE cs _ else 0) = _
  by_cases h9 : prE cs (L.getD k []) = 0
  · rw [if_neg (fun h => h h9), h9]
  · rw [if_pos h9]
theorem prsE_stop {cs : List ColB} {L : List (List UInt8)} {k : Nat} (h : prsE cs (L.take (k + 1)) ≠ 0) : prsE cs L = prsE cs (L.take (k + 1)) := by
  conv => lhs; rw [← List.take_append_drop (k + 1) L, prsE_app, if_pos h]

set_option maxHeartbeats 16000000 in
theorem ref_Read08 (v1 : Value) (s : ByteArray) (cs : List ColB) (l : List UInt8) (w : World) (h1 : RdC w v1 cs) (hs : RdS s l) (hC : CS cs) (hl : l.length ≤ 100000) :
    Calls Tryz.prog 27 #[v1, .string s] w (RdSet w cs l) := by
  have SC := Lib.hid (ref_Check05 v1 cs w h1 hC)
  have R1 := Lib.hid (fun wz (hz : Below w.heap.size w wz) => h1.later hz (Nat.le_refl _))
  have HS := Lib.hid hs
  obtain ⟨x, hx⟩ : ∃ x, x = errS (colsL cs) := ⟨_, rfl⟩
  rw [← hx] at SC
  clear h1 hs
  by_cases h0 : x = 0
  · subst h0
    by_cases hm : l = [45]
    · have HE := Lib.hid (show rdZe cs l = 0 from by unfold rdZe; rw [if_neg (by omega), if_pos hm])
      have HO := Lib.hid (show rdZo cs l = [] from by unfold rdZo; rw [if_neg (fun h => h.1 hm)])
      have hse : s = ⟨#[45]⟩ := by rw [HS.out.eq, hm]
      subst hse
      clear hx hm
      go_enter Tryz.func27, Tryz.ntmps27
      go_wp2_with fail
      refine SC.out.mono ?_
      rintro e w1 ⟨rfl, hb⟩
      have HB1 := Lib.hid hb
      clear hb SC
      go_wp2
      go_ret2
      exact ⟨_, by rw [HE.out]; rfl, by rw [HO.out]; exact RdP.nil _, HB1.out⟩
    · obtain ⟨L, hL⟩ : ∃ L, L = cut2 l := ⟨_, rfl⟩
      have HE := Lib.hid (show rdZe cs l = if prsE cs L ≠ 0 then prsE cs L else chkZ cs (L.map (prP cs)) from by rw [hL]; unfold rdZe; rw [if_neg (by omega), if_neg hm])
      have HO := Lib.hid (show rdZo cs l = if rdZe cs l = 0 then L.map (prP cs) else [] from by
        rw [hL]; unfold rdZo
        by_cases h9 : rdZe cs l = 0
        · rw [if_pos ⟨hm, h9⟩, if_pos h9]
        · rw [if_neg (fun h => h9 h.2), if_neg h9])
      have hq : (s.toList == [45]) = false := by rw [HS.out.toList]; simp [hm]
      have CU := Lib.hid (fun wz : World => ref_cut08 s l wz HS.out hl)
      rw [← hL] at CU
      have hln : L.length ≤ 100001 := by rw [hL]; have := cut2_len l; omega
      have HPL := Lib.hid (show ∀ p ∈ L, p.length ≤ 100000 from fun p hp => by rw [hL] at hp; have := cut2_part l p hp; omega)
      clear hx hm hL
      go_enter Tryz.func27, Tryz.ntmps27
      go_wp2_with fail
      refine SC.out.mono ?_
      rintro e w1 ⟨rfl, hb⟩
      have HB1 := Lib.hid hb
      have hsz1 := hb.size
      clear hb SC
      go_wp2_with fail
      refine (CU.out _).mono ?_
      rintro e w2 ⟨pv, rfl, hO, hb⟩
      have HB2 := Lib.hid (HB1.out.trans (hb.mono hsz1))
      have hsz2 := hb.size
      have hrt := hO.rd (by rw [strL_length]; omega)
      have HRT := Lib.hid hrt
      obtain ⟨n, hn⟩ : ∃ n, n = L.length := ⟨_, rfl⟩
      have hlp := hrt.len
      rw [strL_length, ← hn] at hlp
      rw [← hn] at hln
      have HN := Lib.hid hn
      clear hb hO hrt CU hn
      go_wp2
      go_loopw [8, 9] (fun tv i wr => ∃ (k : Nat) (tx : Value), tx = tv ∧ k ≤ n ∧ i = .int .i64 k ∧ Hid (prsE cs (L.take k) = 0) ∧ Hid (OwnP wr w2.heap.size tx ((L.take k).map (prP cs))) ∧ Hid (Below w2.heap.size w2 wr)) (fun _ i _ => n - (intOf i).toNat)
      case atStart => exact ⟨0, _, rfl, by omega, rfl, Lib.hid rfl, Lib.hid (OwnP.nil _ _), Lib.hid (Below.refl _ _)⟩
      case round =>
        obtain ⟨k, tx, rfl, hk, rfl, HP, HO2, HB⟩ := hrel
        have HBw := Lib.hid (HB2.out.trans (HB.out.mono (by omega)))
        by_cases hlt : k < n
        · have k1 : k < L.length := by rw [← HN.out]; exact hlt
          have k2 : k < (strL L).length := by rw [strL_length]; exact k1
          have hr2 := HRT.out.later HB.out (Nat.le_refl _)
          obtain ⟨bb, ob, hib, hcb, _⟩ := hr2.get k2
          have cb0 := hcb _ hr2
          obtain ⟨p, hp⟩ : ∃ p, p = L.getD k [] := ⟨_, rfl⟩
          have hgp : (strL L).getD k default = ⟨p.toArray⟩ := by rw [hp]; unfold strL; simp [List.getD, k1]
          rw [hgp] at cb0
          have hpl : p.length ≤ 100000 := HPL.out p (by rw [hp]; simp [List.getD, k1])
          obtain ⟨sp, hsp⟩ : ∃ sp : ByteArray, sp = ⟨p.toArray⟩ := ⟨_, rfl⟩
          rw [← hsp] at cb0
          have hrs : RdS sp p := by rw [hsp]; exact rdS_list p (by omega)
          have hlq := hrs.len
          have HRS := Lib.hid hrs
          have HST := Lib.hid (prsE_step (cs := cs) k1 HP.out)
          rw [← hp] at HST
          have HSM := Lib.hid (show (L.take (k + 1)).map (prP cs) = (L.take k).map (prP cs) ++ [prP cs p] from by
            have e : L.take (k + 1) = L.take k ++ [L.getD k []] := by rw [List.take_add_one]; simp [List.getD, k1]
            rw [hp, e, List.map_append]; rfl)
          have hwr := HB.out.size
          clear hr2 hcb hgp hsp hrs k2 k1 hp
          go_wp2
          go_loopw [10] (fun i wq => ∃ j : Nat, j ≤ p.length ∧ i = .int .i64 j ∧ Hid (∀ q, q < j → p.getD q 0 ≠ 32) ∧ wr = wq) (fun i _ => p.length - (intOf i).toNat)
          case atStart => exact ⟨0, by omega, rfl, Lib.hid (fun q hq => by omega), rfl⟩
          case round =>
            obtain ⟨j, hj, rfl, HJ, rfl⟩ := hrel
            by_cases hjl : j < p.length
            · have hxj := HRS.out.idx j hjl
              obtain ⟨d, hd⟩ : ∃ d, d = p.getD j 0 := ⟨_, rfl⟩
              have hd9 : at8 p j = (d.toNat : Int) := by rw [hd]; rfl
              rw [hd9] at hxj
              have HD := Lib.hid hd
              have hdn := d.toNat_lt
              clear hd hd9
              by_cases hd3 : d = 32
              · subst hd3
                have HCUT := Lib.hid (cut_at32 hjl HJ.out HD.out.symm)
                have hsz : sp.size = p.length := HRS.out.size
                have hj1 : (j : Int) ≤ (sp.size : Int) := by rw [hsz]; omega
                have hj2 : (j : Int) + 1 ≤ (sp.size : Int) := by rw [hsz]; omega
                have hj3 : (0 : Int) ≤ (j : Int) := by omega
                have hj4 : (0 : Int) ≤ (j : Int) + 1 := by omega
                have e3 : ((j : Int) + 1).toNat = j + 1 := by omega
                have hjne : ((j : Int) == (p.length : Int)) = false := by rw [beq_eq_false_iff_ne]; omega
                have hjne2 : (j == p.length) = false := by rw [beq_eq_false_iff_ne]; omega
                have hx32 : (((32 : UInt8).toNat : Int) != 32) = false := by decide
                rw [show (((32 : UInt8).toNat : Nat) : Int) = 32 from rfl] at hxj
                have b2 : -9223372036854775808 ≤ (j : Int) + 1 ∧ (j : Int) + 1 ≤ 9223372036854775807 := by omega
                have UN := Lib.hid (ref_Unsigned (sp.extract 0 j) (p.take j) wr (HRS.out.takeS j))
                have RR := Lib.hid (ref_Read06F v1 (sp.extract (j + 1) sp.size) cs (p.drop (j + 1)) wr (R1.out _ HBw.out) (HRS.out.dropS (j + 1)) hC (by rw [List.length_drop]; omega))
                have w22 : wrap64 ((j : Int) + 1) = (j : Int) + 1 := w64_in b2
                have w23 := IntWalk.i64_in ((j : Int) + 1) b2
                clear hsz HD b2
                go_wp2_with fail
                refine UN.out.mono ?_
                rintro e w3 ⟨⟨y, b, rfl, hy0, hy1, hun⟩, rfl⟩
                have HUN := Lib.hid hun
                clear hun UN
                cases b with
                | false =>
                  have HPE := Lib.hid (show prE cs p = 6 from by unfold prE; rw [HCUT.out]; dsimp only; rw [HUN.out]; rfl)
                  have HPQ := Lib.hid (show prsE cs L = 6 from by
                    have e := HST.out
                    rw [HPE.out] at e
                    rw [prsE_stop (k := k) (by rw [e]; decide), e])
                  have HE2 := Lib.hid (show rdZe cs l = 6 from by rw [HE.out, HPQ.out]; rfl)
                  have HO9 := Lib.hid (show rdZo cs l = [] from by rw [HO.out, if_neg (by rw [HE2.out]; decide)])
                  clear RR
                  go_wp2
                  go_ret2
                  exact ⟨_, by rw [HE2.out]; rfl, by rw [HO9.out]; exact RdP.nil _, HBw.out⟩
                | true =>
                  have HPE := Lib.hid (show prE cs p = rowE cs (p.drop (j + 1)) from by unfold prE; rw [HCUT.out]; dsimp only; rw [HUN.out]; rfl)
                  have HPP := Lib.hid (show prP cs p = (rowC cs (p.drop (j + 1)), y) from by unfold prP; rw [HCUT.out]; dsimp only; rw [HUN.out]; rfl)
                  obtain ⟨f, hf⟩ : ∃ f, f = rowE cs (p.drop (j + 1)) := ⟨_, rfl⟩
                  rw [← hf] at HPE
                  have HF := Lib.hid hf
                  clear hf
                  go_wp2_with fail
                  refine RR.out.mono ?_
                  rintro e w4 ⟨rv, rfl, hb4, hr4, hf4⟩
                  rw [← HF.out]
                  have HB4 := Lib.hid (HB.out.trans (hb4.mono hwr))
                  have HBw4 := Lib.hid (HBw.out.trans (hb4.mono (by have := HBw.out.size; omega)))
                  by_cases hf0 : f = 0
                  · subst hf0
                    obtain ⟨ao, nn, cap, rfl⟩ := hr4.lit
                    have HO4 := Lib.hid ((HO2.out.later hb4 (Nat.le_refl _)).alloc (.cells #[.slice ao nn cap, .int .i64 y] 51))
                    have HR4 := Lib.hid (hr4.later ((Below.refl w4.heap.size w4).alloc (Nat.le_refl _) (.cells #[.slice ao nn cap, .int .i64 y] 51)) (Nat.le_refl _))
                    have HF4 := Lib.hid (fun g (hg : tx.ownBlock = some g) => show offB (.slice ao nn cap) (rowC cs (p.drop (j + 1))).length g from hf4 g (HO2.out.lt hg).2)
                    have HB5 := Lib.hid (HB4.out.alloc (by have := HB4.out.size; exact this) (.cells #[.slice ao nn cap, .int .i64 y] 51))
                    have HG4 := Lib.hid (heap_alloc_new w4 (.cells #[.slice ao nn cap, .int .i64 y] 51))
                    have HP2 := Lib.hid (show prsE cs (L.take (k + 1)) = 0 from by rw [HST.out, HPE.out])
                    have hs4 := HB4.out.size
                    have hll : ((L.take k).map (prP cs)).length ≤ k := by rw [List.length_map, List.length_take]; omega
                    clear hb4 hr4 hf4 RR HO2 HB4
                    go_wp2_with (with_reducible refine wplP_append w2.heap.size _ ?hs HO4.out w4.heap.size (.slice ao nn cap) (rowC cs (p.drop (j + 1)), y) ?hx HG4.out HR4.out HF4.out ?hn ?hbase w2.heap.size w2 HB5.out (Nat.le_refl _) ?_)
                    case hs => rfl
                    case hx => rfl
                    case hn => omega
                    case hbase => simp; omega
                    intro v5 w5 ho5 hb5 _ _
                    have HO5 := Lib.hid (show OwnP w5 w2.heap.size v5 ((L.take (k + 1)).map (prP cs)) from by
                      rw [HSM.out, HPP.out]; exact ho5)
                    have HB6 := Lib.hid hb5
                    clear ho5 hb5 HO4 HR4 HF4 HB5 HG4 hll hxj hj1 hj2 hj3 hj4 e3 w22 w23
                    go_wp2
                    go_roundw
                    case rel => exact ⟨k + 1, _, rfl, by omega, by go_num, HP2, HO5, HB6⟩
                    case measure => simp [intOf]; omega
                  · have q : ((f : Int) != 0) = true := by rw [bne_iff_ne]; omega
                    have HPQ := Lib.hid (show prsE cs L = f from by
                      have e := HST.out
                      rw [HPE.out] at e
                      rw [prsE_stop (k := k) (by rw [e]; exact hf0), e])
                    have HE2 := Lib.hid (show rdZe cs l = f from by rw [HE.out, HPQ.out, if_pos hf0])
                    have HO9 := Lib.hid (show rdZo cs l = [] from by rw [HO.out, if_neg (by rw [HE2.out]; exact hf0)])
                    clear hb4 hr4 hf4 RR HO2
                    go_wp2
                    go_ret2
                    exact ⟨_, by rw [HE2.out]; rfl, by rw [HO9.out]; exact RdP.nil _, HBw4.out⟩
              · have q : ((d.toNat : Int) != 32) = true := by
                  rw [bne_iff_ne]
                  intro e9
                  exact hd3 (UInt8.toNat_inj.mp (by show d.toNat = 32; omega))
                have HJ2 := Lib.hid (show ∀ q, q < j + 1 → p.getD q 0 ≠ 32 from fun q hq => by
                  by_cases h9 : q = j
                  · rw [h9, ← HD.out]; exact hd3
                  · exact HJ.out q (by omega))
                clear hd3
                go_wp2
                go_roundw
                case rel => exact ⟨j + 1, by omega, by go_num, HJ2, trivial⟩
                case measure => simp [intOf]; omega
            · obtain rfl : j = p.length := by omega
              have HCUT := Lib.hid (cut_no32 HJ.out)
              have HPE := Lib.hid (show prE cs p = 6 from by unfold prE; rw [HCUT.out]; rfl)
              have HPQ := Lib.hid (show prsE cs L = 6 from by
                have e := HST.out
                rw [HPE.out] at e
                rw [prsE_stop (k := k) (by rw [e]; decide), e])
              have HE2 := Lib.hid (show rdZe cs l = 6 from by rw [HE.out, HPQ.out]; rfl)
              have HO9 := Lib.hid (show rdZo cs l = [] from by rw [HO.out, if_neg (by rw [HE2.out]; decide)])
              go_wp2
              go_ret2
              exact ⟨_, by rw [HE2.out]; rfl, by rw [HO9.out]; exact RdP.nil _, HBw.out⟩
        · obtain rfl : k = n := by omega
          have htk : L.take k = L := List.take_of_length_le (by rw [← HN.out]; exact Nat.le_refl _)
          rw [htk] at HP HO2
          have hrd := HO2.out.rd (by rw [List.length_map, ← HN.out]; omega)
          have CZ := Lib.hid (ref_Check08 v1 tx cs _ wr (R1.out _ HBw.out) hrd hC (prs_pso cs L))
          have HE2 := Lib.hid (show rdZe cs l = chkZ cs (L.map (prP cs)) from by rw [HE.out, HP.out, if_neg (by simp)])
          have HRD := Lib.hid hrd
          obtain ⟨c, hc⟩ : ∃ c, c = chkZ cs (L.map (prP cs)) := ⟨_, rfl⟩
          rw [← hc] at CZ HE2
          clear hrd hc htk
          by_cases hc0 : c = 0
          · subst hc0
            have HF := Lib.hid (show rdZo cs l = L.map (prP cs) from by rw [HO.out, if_pos HE2.out])
            go_wp2_with fail
            refine CZ.out.mono ?_
            rintro e w3 ⟨rfl, hb3⟩
            have HB3 := Lib.hid (HBw.out.trans (hb3.mono HBw.out.size))
            have HR3 := Lib.hid (HRD.out.later hb3 (Nat.le_refl _))
            clear hb3 CZ HRD
            go_wp2
            go_ret2
            exact ⟨_, by rw [HE2.out]; rfl, by rw [HF.out]; exact HR3.out, HB3.out⟩
          · have q : ((c : Int) != 0) = true := by rw [bne_iff_ne]; omega
            have HF := Lib.hid (show rdZo cs l = [] from by rw [HO.out, if_neg (by rw [HE2.out]; exact hc0)])
            go_wp2_with fail
            refine CZ.out.mono ?_
            rintro e w3 ⟨rfl, hb3⟩
            have HB3 := Lib.hid (HBw.out.trans (hb3.mono HBw.out.size))
            clear hb3 CZ HRD
            go_wp2
            go_ret2
            exact ⟨_, by rw [HE2.out]; rfl, by rw [HF.out]; exact RdP.nil _, HB3.out⟩
  · have HE := Lib.hid (show rdZe cs l = x from by unfold rdZe; rw [if_pos (by omega), hx])
    have HO := Lib.hid (show rdZo cs l = [] from by unfold rdZo; rw [if_neg (by rw [HE.out]; exact fun h => h0 h.2)])
    have q : ((x : Int) != 0) = true := by rw [bne_iff_ne]; omega
    clear hx
    go_enter Tryz.func27, Tryz.ntmps27
    go_wp2_with fail
    refine SC.out.mono ?_
    rintro e w1 ⟨rfl, hb⟩
    have HB1 := Lib.hid hb
    clear hb SC
    go_wp2
    go_ret2
    exact ⟨_, by rw [HE.out]; rfl, by rw [HO.out]; exact RdP.nil _, HB1.out⟩

end Go.Proofs.YtfpidkcdgebnpaaGreatDoor
