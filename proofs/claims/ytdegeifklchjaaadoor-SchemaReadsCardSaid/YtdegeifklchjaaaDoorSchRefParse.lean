/-
  The document's own Parse of a schema.
-/
import Derived.Test.YtdegeifklchjaaaDoorSchRefCut
import Derived.Test.YtdegeifklchjaaaDoorSchRefCheck
import Derived.Test.YtdegeifklchjaaaDoorSchParse
import Derived.Deep.QuietTactic
import Derived.BigQuiet
set_option linter.unusedVariables false
set_option linter.unusedSimpArgs false
set_option maxRecDepth 1000000
namespace Go.Proofs.YtdegeifklchjaaaDoor
open Go.RowKit Go.Shelf

theorem strL_getD {ls : List (List UInt8)} {i : Nat} (h : i < ls.length) : (strL ls).getD i default = ⟨(ls.getD i []).toArray⟩ := by
  unfold strL; simp [List.getD, h]
theorem kindB_at {q : Nat} (h : q < 6) {z : ByteArray} (e : z = kindB.getD q default) : Lib.idxOfS kindB z = q := by
  subst e
  obtain rfl | rfl | rfl | rfl | rfl | rfl : q = 0 ∨ q = 1 ∨ q = 2 ∨ q = 3 ∨ q = 4 ∨ q = 5 := by omega
  all_goals decide
/-- How far the names were looked through. -/
def Seek (z : ByteArray) (q : Nat) (kd : Int) : Prop := (kd = -1 ∧ ∀ j, j < q → kindB.getD j default ≠ z) ∨ ∃ j, j < q ∧ kd = (j : Int) ∧ kindB.getD j default = z
theorem Seek.done {z : ByteArray} {kd : Int} (h : Seek z 6 kd) : kd = Lib.idxOfS kindB z := by
  rcases h with ⟨rfl, h⟩ | ⟨j, hj, rfl, h⟩
  · exact (Lib.idxFromS_miss z kindB 0 (fun j hj => by rw [getD_default hj]; exact h j hj)).symm
  · exact (kindB_at hj h.symm).symm
theorem Seek.bound {z : ByteArray} {q : Nat} {kd : Int} (h : Seek z q kd) (hq : q ≤ 6) : -1 ≤ kd ∧ kd ≤ 5 := by
  rcases h with ⟨rfl, _⟩ | ⟨j, hj, rfl, _⟩ <;> omega
theorem Seek.hit {z : ByteArray} {q : Nat} (h : kindB.getD q default = z) : Seek z (q + 1) q := .inr ⟨q, by omega, rfl, h⟩
theorem Seek.miss {z : ByteArray} {q : Nat} {kd : Int} (h : Seek z q kd) (hne : kindB.getD q default ≠ z) : Seek z (q + 1) kd := by
  rcases h with ⟨rfl, h⟩ | ⟨j, hj, rfl, h⟩
  · exact .inl ⟨rfl, fun j hj => by
      by_cases e : j = q
      · rw [e]; exact hne
      · exact h j (by omega)⟩
  · exact .inr ⟨j, by omega, rfl, h⟩
theorem prPart_two {p : List UInt8} (h : (cutL 58 p).length = 2) : prPart p = if kindI ((cutL 58 p).getD 1 []) < 0 then none else some ((cutL 58 p).getD 0 [], kindI ((cutL 58 p).getD 1 [])) := by
  unfold prPart
  match hc : cutL 58 p, h with
  | [a, b], _ =>
    simp only [List.getD_cons_zero, List.getD_cons_succ]
    by_cases h0 : 0 ≤ kindI b
    · rw [if_pos h0, if_neg (by omega)]
    · rw [if_neg h0, if_pos (by omega)]
theorem prPart_not {p : List UInt8} (h : (cutL 58 p).length ≠ 2) : prPart p = none := by
  unfold prPart
  split
  · rename_i hc; rw [hc] at h; exact absurd rfl h
  · rfl

set_option maxHeartbeats 8000000 in
theorem ref_Parse05 (s : ByteArray) (l : List UInt8) (w : World) (h : RdS s l) (hl : l.length ≤ 100000) :
    Calls Tryd.prog 23 #[.string s] w (PrO w l) := by
  have HS := Lib.hid h
  clear h
  go_enter Tryd.func23, Tryd.ntmps23
  have HCUT44 := Lib.hid (show Calls Tryd.prog 45 #[.string s, .int .u8 44] w _ from ref_Cut05 44 s l w HS.out hl)
  go_wp2_with fail
  refine HCUT44.out.mono ?_
  rintro e w1 ⟨pv, rfl, hP, hb⟩
  have HB1 := Lib.hid hb
  have hpz := hP.rd (by rw [strL_length]; have := cutL_le 44 l; omega)
  have HP := Lib.hid hpz
  obtain ⟨n, hn⟩ : ∃ n, n = (cutL 44 l).length := ⟨_, rfl⟩
  have hplen := hpz.len
  rw [strL_length, ← hn] at hplen
  have hn1 : n ≤ 100001 := by have := cutL_le 44 l; omega
  have HN := Lib.hid hn
  obtain ⟨bb, hbb⟩ : ∃ bb, bb = w1.heap.size := ⟨_, rfl⟩
  have hbb1 : w.heap.size ≤ bb := by have := hb.size; omega
  have hbb3 : w1.heap.size ≤ bb := by omega
  have hbb2 : bb ≤ w1.heap.size := by omega
  have HC0 := Lib.hid (OwnC.nil w1 bb)
  clear hb hP hpz hn hbb HCUT44
  go_wp2
  go_loopw [5, 6] (fun a i wr => ∃ (k : Nat) (cs : List ColB), k ≤ n ∧ i = .int .i64 k ∧ Hid (cs.length = k) ∧ Hid (CS cs) ∧ Hid (OwnC wr bb a cs) ∧ Hid (Below w.heap.size w wr) ∧ Hid (Below bb w1 wr) ∧ Hid (prParts ((cutL 44 l).take k) = some (colsL cs))) (fun _ i _ => n - (intOf i).toNat)
  case atStart => exact ⟨0, [], by omega, rfl, Lib.hid rfl, Lib.hid (fun c hc => absurd hc (by simp)), HC0, HB1, Lib.hid (Below.refl _ _), Lib.hid rfl⟩
  case round =>
    clear HC0 HB1
    obtain ⟨k, cs, hk, rfl, HL, HCS, HC, HB, HBB, HR⟩ := hrel
    by_cases hlt : k < n
    · have hPr := HP.out.later HBB.out hbb3
      have hlc : k < (cutL 44 l).length := by rw [← HN.out]; exact hlt
      obtain ⟨b, o, hi, hc, hblk⟩ := hPr.get (i := k) (by rw [strL_length]; exact hlc)
      have c0 := hc _ hPr
      rw [strL_getD hlc] at c0
      obtain ⟨pL, hpL⟩ : ∃ pL, pL = (cutL 44 l).getD k [] := ⟨_, rfl⟩
      rw [← hpL] at c0
      have hpl : pL.length ≤ l.length := by
        rw [hpL]
        refine cutL_part 44 l _ ?_
        rw [show (cutL 44 l).getD k [] = (cutL 44 l)[k] from by simp [List.getD, hlc]]
        exact List.getElem_mem _
      obtain ⟨p, hp⟩ : ∃ p : ByteArray, p = ⟨pL.toArray⟩ := ⟨_, rfl⟩
      rw [← hp] at c0
      have hps : RdS p pL := ⟨hp, by omega⟩
      have HST := Lib.hid (prParts_step hlc HR.out)
      rw [← hpL] at HST
      have HCUT := Lib.hid (show Calls Tryd.prog 45 #[.string p, .int .u8 58] wr _ from ref_Cut05 58 p pL wr hps (by omega))
      have hcle := cutL_le 58 pL
      have HPT := Lib.hid (fun q (hq : q < (cutL 58 pL).length) => show ((cutL 58 pL).getD q []).length ≤ pL.length from by
        refine cutL_part 58 pL _ ?_
        rw [show (cutL 58 pL).getD q [] = (cutL 58 pL)[q] from by simp [List.getD, hq]]
        exact List.getElem_mem _)
      clear hc hPr hlc hp hpL hps
      go_wp2_with fail
      refine HCUT.out.mono ?_
      rintro e w3 ⟨tv, rfl, hT3, hb3⟩
      have HB3 := Lib.hid (HB.out.trans (hb3.mono HB.out.size))
      have HBB3 := Lib.hid (HBB.out.trans (hb3.mono (by have := HBB.out.size; omega)))
      have HC3 := Lib.hid (HC.out.later hb3 (Nat.le_refl _))
      have HT3 := Lib.hid (hT3.rd (by rw [strL_length]; omega))
      clear hb3 hT3 c0 hi hblk HCUT HB HBB HC
      go_wp2_with fail
      refine (ref_Names w3).mono ?_
      rintro e w4 ⟨rfl, hw4⟩
      obtain ⟨N0, N1, N2⟩ := new1 w3 (.cells (kindB.map Value.string).toArray 9)
      rw [← hw4] at N0 N1 N2
      obtain ⟨nb, hnb⟩ : ∃ nb, nb = w3.heap.size := ⟨_, rfl⟩
      have HB4 := Lib.hid (HB3.out.trans (N2.mono HB3.out.size))
      have HBB4 := Lib.hid (HBB3.out.trans (N2.mono (by have := HBB3.out.size; omega)))
      have HC4 := Lib.hid (HC3.out.later N2 (Nat.le_refl _))
      have HT4 := Lib.hid (HT3.out.later N2 (Nat.le_refl _))
      rw [← hnb] at N1
      have HNM := Lib.hid (rdT_block N1 (by decide) (n := 6) rfl)
      rw [← hnb]
      obtain ⟨z2, hz2⟩ : ∃ z2, z2 = (cutL 58 pL).length := ⟨_, rfl⟩
      have HZ2 := Lib.hid hz2
      have hz2b : z2 ≤ 100001 := by omega
      clear hw4 N0 N1 N2 hnb HB3 HBB3 HC3 HT3 hz2 hcle
      obtain ⟨z, hz⟩ : ∃ z : ByteArray, z = ⟨((cutL 58 pL).getD 1 []).toArray⟩ := ⟨_, rfl⟩
      have HZ := Lib.hid hz
      clear hz
      go_wp2
      go_loopw [8, 10] (fun kv i wi => ∃ (q : Nat) (kd : Int), q ≤ 6 ∧ i = .int .i64 q ∧ kv = .int .i64 kd ∧ Hid (Seek z q kd) ∧ Hid (z2 ≠ 2 → kd = -1) ∧ Hid (Below w4.heap.size w4 wi)) (fun _ i _ => 6 - (intOf i).toNat)
      case atStart => exact ⟨0, -1, by omega, rfl, rfl, Lib.hid (.inl ⟨rfl, fun j hj => absurd hj (Nat.not_lt_zero _)⟩), Lib.hid (fun _ => rfl), Lib.hid (Below.refl _ _)⟩
      case round =>
        obtain ⟨q, kd, hq, rfl, rfl, HSK, HK2, HBI⟩ := hrel
        have hTi := HT4.out.later HBI.out (Nat.le_refl _)
        have hNi := HNM.out.later HBI.out (Nat.le_refl _)
        have htl := hTi.len
        rw [strL_length, ← HZ2.out] at htl
        have hnl := hNi.len
        rw [show ((kindB.length : Nat) : Int) = 6 from rfl] at hnl
        have hkb := HSK.out.bound hq
        obtain ⟨hkb0, hkb1⟩ := hkb
        have hwb : bb ≤ w4.heap.size := by have := HBB4.out.size; omega
        have hww : w.heap.size ≤ w4.heap.size := HB4.out.size
        by_cases hgo : q < 6 ∧ z2 = 2
        · obtain ⟨hq6, hz22⟩ := hgo
          have d0 : decide ((q : Int) < 6) = true := decide_eq_true (by omega)
          have e2 : ((z2 : Int) == 2) = true := by rw [hz22]; rfl
          have hz2e := Lib.hid hz22
          obtain ⟨b1, o1, hi1, hc1, hbk1⟩ := hNi.get (i := q) (by rw [show kindB.length = 6 from rfl]; exact hq6)
          have c1 := hc1 _ hNi
          obtain ⟨b2, o2, hi2, hc2, hbk2⟩ := hTi.get (i := 1) (by rw [strL_length, ← HZ2.out]; omega)
          rw [show ((1 : Nat) : Int) = 1 from rfl] at hi2
          have c2 := hc2 _ hTi
          rw [strL_getD (by rw [← HZ2.out]; omega), ← HZ.out] at c2
          obtain ⟨y, hy⟩ : ∃ y, y = kindB.getD q default := ⟨_, rfl⟩
          rw [← hy] at c1
          have HY := Lib.hid hy
          clear hc1 hc2 hy hz22
          by_cases hyz : y = z
          · subst hyz
            have HS2 := Lib.hid (show Seek y (q + 1) (q : Int) from Seek.hit HY.out.symm)
            have HK3 := Lib.hid (show z2 ≠ 2 → (q : Int) = -1 from fun h => absurd hz2e.out h)
            clear hkb0 hkb1
            go_wp2
            go_quiet (fail)
            go_wp2
            go_roundw
            case rel => exact ⟨q + 1, q, by omega, by go_num, rfl, HS2, HK3, Lib.hid (below_drewN HBI.out _)⟩
            case measure => simp [intOf]; omega
          · have hne := (show (y.toList == z.toList) = false from (Lib.bytes_beq_false_iff y z).2 hyz)
            have HS2 := Lib.hid (show Seek z (q + 1) kd from HSK.out.miss (by rw [← HY.out]; exact hyz))
            clear hyz hkb0 hkb1
            go_wp2
            go_quiet (fail)
            go_wp2
            go_roundw
            case rel => exact ⟨q + 1, kd, by omega, by go_num, rfl, HS2, HK2, Lib.hid (below_drewN HBI.out _)⟩
            case measure => simp [intOf]; omega
        · have HEND := Lib.hid (show (q = 6 ∧ z2 = 2 ∧ prPart pL = if kd < 0 then none else some ((cutL 58 pL).getD 0 [], kd)) ∨ (z2 ≠ 2 ∧ kd = -1 ∧ prPart pL = none) from by
            by_cases h2 : z2 = 2
            · have h6 : q = 6 := by
                by_cases h6 : q = 6
                · exact h6
                · exact absurd ⟨by omega, h2⟩ hgo
              subst h6
              have hkd := HSK.out.done
              rw [HZ.out] at hkd
              have hkd2 : kd = kindI ((cutL 58 pL).getD 1 []) := hkd
              exact .inl ⟨rfl, h2, by rw [hkd2]; exact prPart_two (by rw [← HZ2.out]; exact h2)⟩
            · exact .inr ⟨h2, HK2.out h2, prPart_not (by rw [← HZ2.out]; exact h2)⟩)
          have HBw := Lib.hid (HB4.out.trans (HBI.out.mono hww))
          by_cases hneg : kd < 0
          · have d1 : decide (kd < 0) = true := decide_eq_true hneg
            have HF := Lib.hid (show prS l = ([], 6) from by
              unfold prS
              rw [HST.out.2 (by
                rcases HEND.out with ⟨_, _, h⟩ | ⟨_, _, h⟩
                · rw [h, if_pos hneg]
                · exact h)])
            have HFIN := Lib.hid (fun wz (hwz : wz = wr) => show PrO w l (.returned (.tuple #[.slice none 0 0, .int .i64 6])) wz from by
              subst hwz
              exact ⟨HBw.out, _, [], by rw [HF.out]; rfl, OwnC.nil _ _, fun c hc => absurd hc (by simp), by simp, by rw [HF.out]; rfl⟩)
            by_cases hq6 : q < 6
            · have d0 : decide ((q : Int) < 6) = true := decide_eq_true (by omega)
              have hz22 : z2 ≠ 2 := fun h => hgo ⟨hq6, h⟩
              have e2 : ((z2 : Int) == 2) = false := by rw [beq_eq_false_iff_ne]; omega
              clear hgo hkb0 hkb1
              go_wp2
              go_ret2
              exact HFIN.out _ rfl
            · have d0 : decide ((q : Int) < 6) = false := decide_eq_false (by omega)
              clear hgo hkb0 hkb1
              go_wp2
              go_ret2
              exact HFIN.out _ rfl
          · have d1 : decide (kd < 0) = false := decide_eq_false hneg
            have hE : q = 6 ∧ z2 = 2 ∧ prPart pL = if kd < 0 then none else some ((cutL 58 pL).getD 0 [], kd) := by
              rcases HEND.out with h | ⟨_, h, _⟩
              · exact h
              · omega
            obtain ⟨hq6, hz22, hpp⟩ := hE
            have d0 : decide ((q : Int) < 6) = false := decide_eq_false (by omega)
            obtain ⟨b2, o2, hi2, hc2, hbk2⟩ := hTi.get (i := 0) (by rw [strL_length, ← HZ2.out]; omega)
            rw [show ((0 : Nat) : Int) = 0 from rfl] at hi2
            have c2 := hc2 _ hTi
            rw [strL_getD (by rw [← HZ2.out]; omega)] at c2
            obtain ⟨r1, hr1⟩ : ∃ r1, r1 = (cutL 58 pL).getD 0 [] := ⟨_, rfl⟩
            have hr1l : r1.length ≤ pL.length := by rw [hr1]; exact HPT.out 0 (by rw [← HZ2.out]; omega)
            rw [← hr1] at c2 hpp
            obtain ⟨nm, hnm⟩ : ∃ nm : ByteArray, nm = ⟨r1.toArray⟩ := ⟨_, rfl⟩
            rw [← hnm] at c2
            have HNS := Lib.hid (show nm.size = r1.length from by rw [hnm]; simp [ByteArray.size])
            have HR2 := Lib.hid (show prParts ((cutL 44 l).take (k + 1)) = some (colsL (cs ++ [(nm, kd)])) from by
              rw [HST.out.1 (r1, kd) (by rw [hpp, if_neg hneg])]
              unfold colsL; rw [List.map_append, List.map_singleton]; unfold colL; rw [show nm.data.toList = r1 from by rw [hnm]])
            have hBBi := HBB4.out.trans (HBI.out.mono hwb)
            have hCi := HC4.out.later HBI.out (Nat.le_refl _)
            have HC5 := Lib.hid (hCi.alloc (.cells #[.string nm, .int .i64 kd] 51))
            have HB5 := Lib.hid (HBw.out.alloc HBw.out.size (.cells #[.string nm, .int .i64 kd] 51))
            have hs5 : bb ≤ wr.heap.size := by have := hBBi.size; omega
            have HBB5 := Lib.hid (hBBi.alloc hs5 (.cells #[.string nm, .int .i64 kd] 51))
            have hs4 : wr.heap.size ≤ (wr.alloc (.cells #[.string nm, .int .i64 kd] 51)).heap.size := by simp
            have hq4 := fun q hq => OwnC.lt HC5.out (k := q) hq
            clear hgo hpp hr1 hnm hc2 hBBi hCi
            go_wp2_with (with_reducible refine wplC_append bb _ ?hs HC5.out ⟨wr.heap.size, 0, none⟩ (nm, kd) ?hx (one_col wr (nm, kd)) ?hn ?hbase bb w1 HBB5.out (Nat.le_refl _) ?_)
            case hn => rw [HL.out]; omega
            case hbase => omega
            intro v6 w6 hC6 hB6 hg6
            have HC6 := Lib.hid hC6
            have HBB6 := Lib.hid hB6
            have HB6 := Lib.hid (HB5.out.grown hg6 (by have := HBw.out.size; omega) (fun q hq => by have := (hq4 q hq).1; omega))
            have HL6 := Lib.hid (show (cs ++ [(nm, kd)]).length = k + 1 from by rw [List.length_append, HL.out]; rfl)
            have HCS6 := Lib.hid (HCS.out.snoc' (s := nm) (kd := kd) (by rw [HNS.out]; omega) (by omega) (by omega))
            clear hC6 hB6 hg6 hq4 hkb0 hkb1
            go_wp2
            go_roundw
            case rel => exact ⟨k + 1, cs ++ [(nm, kd)], by omega, by go_num, HL6, HCS6, HC6, HB6, HBB6, HR2⟩
            case measure => simp [intOf]; omega
    · obtain rfl : k = n := by omega
      have HPS := Lib.hid (show prParts (cutL 44 l) = some (colsL cs) from by
        have := HR.out
        rwa [List.take_of_length_le (by rw [← HN.out]; exact Nat.le_refl _)] at this)
      have hcl : cs.length ≤ 140737488351232 := by rw [HL.out]; omega
      have hck := ref_Check05 _ cs wr (HC.out.rd hcl) HCS.out
      obtain ⟨x, hx⟩ : ∃ x, x = errS (colsL cs) := ⟨_, rfl⟩
      rw [← hx] at hck
      have HCK := Lib.hid hck
      have HXX := Lib.hid hx
      clear hlt hcl hck hx
      go_wp2_with fail
      refine HCK.out.mono ?_
      rintro e w3 ⟨rfl, hb3⟩
      have HB3 := Lib.hid (HB.out.trans (hb3.mono HB.out.size))
      have HC3 := Lib.hid ((HC.out.later hb3 (Nat.le_refl _)).lower (b' := w.heap.size) (by omega))
      clear hb3
      by_cases h0 : x = 0
      · have q : ((x : Int) != 0) = false := by rw [h0]; rfl
        have HZ := Lib.hid (show errS (colsL cs) = 0 from by rw [← HXX.out]; exact h0)
        have HF := Lib.hid (show prS l = (colsL cs, 0) from by unfold prS; rw [HPS.out]; exact if_pos HZ.out)
        have HL8 := Lib.hid (show cs.length ≤ 8 from by have := (errS_zero HZ.out).2.1; rwa [colsL_length] at this)
        clear h0
        go_wp2
        go_ret2
        exact ⟨HB3.out, _, cs, by rw [HF.out]; rfl, HC3.out, HCS.out, HL8.out, by rw [HF.out]⟩
      · have q : ((x : Int) != 0) = true := by rw [bne_iff_ne]; omega
        have HF := Lib.hid (show prS l = ([], x) from by
          unfold prS; rw [HPS.out]; dsimp only; rw [if_neg (by rw [← HXX.out]; exact h0), ← HXX.out])
        clear h0
        go_wp2
        go_ret2
        exact ⟨HB3.out, _, [], by rw [HF.out]; rfl, OwnC.nil _ _, fun c hc => absurd hc (by simp), by simp, by rw [HF.out]; rfl⟩

end Go.Proofs.YtdegeifklchjaaaDoor
