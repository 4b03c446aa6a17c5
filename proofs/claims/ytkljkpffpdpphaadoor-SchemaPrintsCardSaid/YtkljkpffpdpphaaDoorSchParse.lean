/-
  Package schema: Parse.
-/
import Derived.Test.YtkljkpffpdpphaaDoorSchSplit
import Derived.Test.YtkljkpffpdpphaaDoorSchTake
import Derived.Shelf.Strings.Split
import Derived.Shelf.Strings.Cut
set_option linter.unusedVariables false
set_option linter.unusedSimpArgs false
set_option maxRecDepth 1000000
namespace Go.Proofs.YtkljkpffpdpphaaDoor
open Go.RowKit Go.Shelf

/-- The library's variable that Index asks holds a number. -/
def Mx (w : World) : Prop := ∃ m : Int, w.cell? ⟨Tryd.laysSplit_ren.g 1, 0, none⟩ = some (.int .i64 m)
theorem Mx.later {w w' : World} (h : Mx w) {B : Nat} (hb : Below B w w') (hB : w.heap.size ≤ B) : Mx w' := by
  obtain ⟨m, h⟩ := h
  exact ⟨m, (hb.cell (p := ⟨Tryd.laysSplit_ren.g 1, 0, none⟩) (Nat.lt_of_lt_of_le (World.block_lt_of_cell? w _ h) hB)).trans h⟩

theorem getD_default {ss : List ByteArray} {k : Nat} (h : k < ss.length) : ss.getD k ByteArray.empty = ss.getD k default := by simp [List.getD, h]

set_option maxHeartbeats 2000000 in
theorem slices_IndexS (v : Value) (ss : List ByteArray) (x : ByteArray) (w : World) (h : RdT w v ss) :
    Calls Tryd.prog 44 #[v, .string x] w fun e w' => e = .returned (.int .i64 (Lib.idxOfS ss x)) ∧ w' = w := by
  have hlen := h.len
  have hsm := h.small
  have HH := Lib.hid h
  obtain ⟨n, hn⟩ : ∃ n, n = ss.length := ⟨_, rfl⟩
  rw [← hn] at hlen hsm
  have HN := Lib.hid hn
  clear h hn
  go_enter Tryd.func44, Tryd.ntmps44
  go_wp2
  go_loop [8] (fun i => ∃ k : Nat, k ≤ n ∧ i = .int .i64 k ∧ Hid (∀ j, j < k → ss.getD j ByteArray.empty ≠ x)) (fun i => n - (intOf i).toNat)
  case atStart => exact ⟨0, by omega, rfl, Lib.hid (fun j hj => absurd hj (Nat.not_lt_zero _))⟩
  case round =>
    obtain ⟨k, hk, rfl, HA⟩ := hrel
    by_cases hlt : k < n
    · have hl2 : k < ss.length := by rw [← HN.out]; exact hlt
      obtain ⟨b, o, hi, hc, hb⟩ := HH.out.get hl2
      have c0 := hc _ HH.out
      have hge := getD_default hl2
      obtain ⟨z, hz⟩ : ∃ z, z = ss.getD k default := ⟨_, rfl⟩
      rw [← hz] at c0 hge
      have HGE := Lib.hid hge
      clear hc hge hz
      by_cases hxz : x = z
      · subst hxz
        have HF := Lib.hid (show Lib.idxOfS ss x = (k : Int) from by
          have := Lib.idxFromS_hit x ss k 0 hl2 HGE.out HA.out
          unfold Lib.idxOfS; rw [this]; simp)
        clear hl2
        go_wp2
        go_ret
        exact ⟨by rw [HF.out]; rfl, rfl⟩
      · have hne := (show (x.toList == z.toList) = false from (Lib.bytes_beq_false_iff x z).2 hxz)
        have HA2 := Lib.hid (show ∀ j, j < k + 1 → ss.getD j ByteArray.empty ≠ x from fun j hj => by
          by_cases hjk : j < k
          · exact HA.out j hjk
          · obtain rfl : j = k := by omega
            rw [HGE.out]; exact fun e => hxz e.symm)
        clear hl2 hxz
        go_wp2
        go_round
        case rel => exact ⟨k + 1, by omega, by go_num, HA2⟩
        case measure => simp [intOf]; omega
    · obtain rfl : k = n := by omega
      have HF := Lib.hid (show Lib.idxOfS ss x = -1 from Lib.idxFromS_miss x ss 0 (fun j hj => HA.out j (by rw [HN.out]; exact hj)))
      clear hlt
      go_wp2
      go_ret
      exact ⟨by rw [HF.out]; rfl, rfl⟩

theorem lib_Split (s : ByteArray) (l : List UInt8) (w : World) (h : RdS s l) (hl : l.length ≤ 100000) (hX : Mx w) :
    Calls Tryd.prog 42 #[.string s, .string ⟨#[44]⟩] w fun e w' => ∃ pv parts, e = .returned pv ∧ RdT w' pv parts ∧ parts.map (·.data.toList) = cutL 44 l ∧ Below w.heap.size w w' := by
  obtain ⟨m, hm⟩ := hX
  have hd : s.data.toList = l := by rw [h.eq]
  have hz : s.size = l.length := by rw [h.eq]; simp [ByteArray.size]
  have c : Calls Tryd.prog 42 #[.string s, .string ⟨#[44]⟩] w _ := Any.strings_Split Tryd.laysSplit (by kernel_rfl) s ⟨#[44]⟩ m w (by omega) hm (by decide)
  refine c.mono ?_
  rintro e w' ⟨rfl, hw⟩
  have hsl := split_list 44 s
  rw [hd] at hsl
  have hlen := congrArg List.length hsl
  rw [List.length_map] at hlen
  have hle := cutL_le 44 l
  have hpl := Lib.splitB_all ⟨#[44]⟩ (by decide) 0 _ s rfl
  refine ⟨_, Lib.splitB ⟨#[44]⟩ 0 (Lib.countB s ⟨#[44]⟩) s, rfl, ?_, hsl, ?_⟩
  · refine rdT_block (z := (0, 0)) ?_ (by omega) hpl.symm
    rw [hw]; exact heap_alloc_new w _
  · rw [hw]; exact (Below.refl _ _).alloc (Nat.le_refl _) _

theorem lib_Cut (s : ByteArray) (l : List UInt8) (w : World) (h : RdS s l) (hl : l.length ≤ 100000) (hX : Mx w) :
    Calls Tryd.prog 43 #[.string s, .string ⟨#[58]⟩] w fun e w' => e = .returned (.tuple #[.string ⟨(Lib.cut l [58]).1.toArray⟩, .string ⟨(Lib.cut l [58]).2.1.toArray⟩, .bool (Lib.cut l [58]).2.2]) ∧ Below w.heap.size w w' := by
  obtain ⟨m, hm⟩ := hX
  have hd : s.data.toList = l := by rw [h.eq]
  have hz : s.size = l.length := by rw [h.eq]; simp [ByteArray.size]
  have c : Calls Tryd.prog 43 #[.string s, .string ⟨#[58]⟩] w _ := Any.strings_Cut Tryd.laysCut s ⟨#[58]⟩ m w (by omega) hm
  rw [hd] at c
  refine c.mono ?_
  rintro e w' ⟨rfl, n, rfl⟩
  exact ⟨rfl, below_drewN (Below.refl _ _) n⟩
theorem cut_len (l : List UInt8) : (Lib.cut l [58]).1.length ≤ l.length ∧ (Lib.cut l [58]).2.1.length ≤ l.length := by
  unfold Lib.cut
  split
  · simp; omega
  · simp

theorem CS.snoc' {cs : List ColB} (h : CS cs) {s : ByteArray} {kd : Int} (hs : s.size ≤ 140737488351232) (h0 : -9223372036854775808 ≤ kd) (h1 : kd ≤ 9223372036854775807) : CS (cs ++ [(s, kd)]) := fun c hc => by
  rcases List.mem_append.1 hc with hc | hc
  · exact h c hc
  · rw [List.mem_singleton.1 hc]; exact ⟨hs, h0, h1⟩

/-- What Parse answers. -/
def PrO (w : World) (l : List UInt8) (e : Ending) (w' : World) : Prop :=
  Below w.heap.size w w' ∧ ∃ tv cs, e = .returned (.tuple #[tv, .int .i64 ((prS l).2 : Int)]) ∧ OwnC w' w.heap.size tv cs ∧ CS cs ∧ cs.length ≤ 8 ∧ colsL cs = (prS l).1

set_option maxHeartbeats 8000000 in
theorem schema_Parse (s : ByteArray) (l : List UInt8) (w : World) (h : RdS s l) (hl : l.length ≤ 100000) (hT : Tabs w) (hX : Mx w) :
    Calls Tryd.prog 22 #[.string s] w (PrO w l) := by
  have HX := Lib.hid hX
  have HT := Lib.hid hT
  have HS := Lib.hid h
  clear hX hT h
  go_enter Tryd.func22, Tryd.ntmps22
  go_wp2_with fail
  refine (cell_Names w).mono ?_
  rintro e w1 ⟨rfl, hw1⟩
  obtain ⟨N0, N1, N2⟩ := new1 w (.cells (kindB.map Value.string).toArray 9)
  rw [← hw1] at N0 N1 N2
  obtain ⟨nb, hnb⟩ : ∃ nb, nb = w.heap.size := ⟨_, rfl⟩
  rw [← hnb] at N1 N0
  rw [← hnb]
  have HK1 := Lib.hid N1
  have HB1 := Lib.hid N2
  have HNB := Lib.hid hnb
  clear hw1 N1 N2 hnb
  go_wp2_with fail
  refine (lib_Split s l w1 HS.out hl (HX.out.later HB1.out (Nat.le_refl _))).mono ?_
  rintro e w2 ⟨pv, parts, rfl, hP, hpl, hb⟩
  have HB2 := Lib.hid (HB1.out.trans (hb.mono HB1.out.size))
  have HK2 := Lib.hid (keepB HK1.out hb)
  have HP := Lib.hid hP
  have HPL := Lib.hid hpl
  obtain ⟨n, hn⟩ : ∃ n, n = parts.length := ⟨_, rfl⟩
  have hplen := hP.len
  rw [← hn] at hplen
  have hnl : n = (cutL 44 l).length := by rw [hn, ← hpl, List.length_map]
  have hn1 : n ≤ 100001 := by have := cutL_le 44 l; omega
  have HN := Lib.hid hn
  have HNL := Lib.hid hnl
  obtain ⟨bb, hbb⟩ : ∃ bb, bb = w2.heap.size := ⟨_, rfl⟩
  have hbb1 : nb < bb := by have := hb.size; omega
  have hbb2 : bb ≤ w2.heap.size := by omega
  have hbb3 : w2.heap.size ≤ bb := by omega
  have HC0 := Lib.hid (OwnC.nil w2 bb)
  clear hb hP hpl hn hnl hbb N0 HB1 HK1
  go_wp2
  go_loopw [5, 17] (fun a i wr => ∃ (k : Nat) (cs : List ColB), k ≤ n ∧ i = .int .i64 k ∧ Hid (cs.length = k) ∧ Hid (CS cs) ∧ Hid (OwnC wr bb a cs) ∧ Hid (Below w.heap.size w wr) ∧ Hid (Below bb w2 wr) ∧ Hid (prParts ((cutL 44 l).take k) = some (colsL cs))) (fun _ i _ => n - (intOf i).toNat)
  case atStart => exact ⟨0, [], by omega, rfl, Lib.hid rfl, Lib.hid (fun c hc => absurd hc (by simp)), HC0, HB2, Lib.hid (Below.refl _ _), Lib.hid rfl⟩
  case round =>
    clear HC0 HB2
    obtain ⟨k, cs, hk, rfl, HL, HCS, HC, HB, HBB, HR⟩ := hrel
    have hKr := (HBB.out.block nb hbb1).trans HK2.out
    by_cases hlt : k < n
    · have hPr := HP.out.later HBB.out hbb3
      have hlp : k < parts.length := by rw [← HN.out]; exact hlt
      have hlc : k < (cutL 44 l).length := by rw [← HNL.out]; exact hlt
      obtain ⟨b, o, hi, hc, hblk⟩ := hPr.get hlp
      have c0 := hc _ hPr
      have hpe : (cutL 44 l).getD k [] = (parts.getD k default).data.toList := by
        rw [← HPL.out]; simp [List.getD, hlp]
      obtain ⟨p, hp⟩ : ∃ p, p = parts.getD k default := ⟨_, rfl⟩
      rw [← hp] at c0 hpe
      obtain ⟨pL, hpL⟩ : ∃ pL, pL = p.data.toList := ⟨_, rfl⟩
      rw [← hpL] at hpe
      have hpl : pL.length ≤ l.length := by
        rw [← hpe]
        refine cutL_part 44 l _ ?_
        rw [show (cutL 44 l).getD k [] = (cutL 44 l)[k] from by simp [List.getD, hlc]]
        exact List.getElem_mem _
      have hps : RdS p pL := ⟨by rw [hpL], by omega⟩
      have hst := prParts_step hlc HR.out
      rw [hpe, prPart_cut] at hst
      have hcut := lib_Cut p pL wr hps (by omega) (HX.out.later HB.out (Nat.le_refl _))
      obtain ⟨hcl1, hcl2⟩ := cut_len pL
      obtain ⟨r1, r2, r3, hr⟩ : ∃ r1 r2 r3, Lib.cut pL [58] = (r1, r2, r3) := ⟨_, _, _, rfl⟩
      rw [hr] at hst hcut hcl1 hcl2
      dsimp only at hst hcut hcl1 hcl2
      obtain ⟨nm, hnm⟩ : ∃ nm : ByteArray, nm = ⟨r1.toArray⟩ := ⟨_, rfl⟩
      obtain ⟨kn, hkn⟩ : ∃ kn : ByteArray, kn = ⟨r2.toArray⟩ := ⟨_, rfl⟩
      obtain ⟨kd, hkd⟩ : ∃ kd, kd = kindI r2 := ⟨_, rfl⟩
      have hki : Lib.idxOfS kindB kn = kd := by rw [hkd, hkn]; rfl
      rw [← hnm, ← hkn] at hcut
      rw [← hkd] at hst
      have hkb := kindI_bounds r2
      rw [← hkd] at hkb
      have hns : nm.size = r1.length := by rw [hnm]; simp [ByteArray.size]
      have hnd : nm.data.toList = r1 := by rw [hnm]
      have HST := Lib.hid hst
      have HCUT := Lib.hid hcut
      have HKI := Lib.hid hki
      have HND := Lib.hid hnd
      have HNS := Lib.hid hns
      obtain ⟨hkb0, hkb1⟩ := hkb
      clear hc hPr hlp hlc hp hpL hpe hps hst hcut hr hnm hkn hkd hki hns hnd
      go_wp2_with fail
      refine HCUT.out.mono ?_
      rintro e w3 ⟨rfl, hb3⟩
      have HB3 := Lib.hid (HB.out.trans (hb3.mono HB.out.size))
      have HBB3 := Lib.hid (HBB.out.trans (hb3.mono (by have := HBB.out.size; omega)))
      have HC3 := Lib.hid (HC.out.later hb3 (Nat.le_refl _))
      have hK3 := keepB hKr hb3
      have HIX := Lib.hid (slices_IndexS _ kindB kn w3 (rdT_block hK3 (by decide) (n := 6) rfl))
      have hs3 := HBB3.out.size
      clear hb3 hK3 c0
      go_wp2_with fail
      refine HIX.out.mono ?_
      rintro e w4 ⟨rfl, rfl⟩
      rw [HKI.out]
      by_cases hneg : kd < 0
      · have d1 : decide (kd < 0) = true := decide_eq_true hneg
        have HF := Lib.hid (show prS l = ([], 6) from by
          unfold prS
          rw [HST.out.2 (if_pos hneg)])
        go_wp2
        go_ret2
        exact ⟨HB3.out, _, [], by rw [HF.out]; rfl, OwnC.nil _ _, fun c hc => absurd hc (by simp), by simp, by rw [HF.out]; rfl⟩
      · have d1 : decide (kd < 0) = false := decide_eq_false hneg
        have HR2 := Lib.hid (show prParts ((cutL 44 l).take (k + 1)) = some (colsL (cs ++ [(nm, kd)])) from by
          rw [HST.out.1 (r1, kd) (if_neg hneg)]
          unfold colsL; rw [List.map_append, List.map_singleton]; unfold colL; rw [HND.out])
        have HC4 := Lib.hid (HC3.out.alloc (.cells #[.string nm, .int .i64 kd] 51))
        have HB4 := Lib.hid (HB3.out.alloc HB3.out.size (.cells #[.string nm, .int .i64 kd] 51))
        have HBB4 := Lib.hid (HBB3.out.alloc (by omega) (.cells #[.string nm, .int .i64 kd] 51))
        have hs4 : w4.heap.size ≤ (w4.alloc (.cells #[.string nm, .int .i64 kd] 51)).heap.size := by simp
        have hq4 := fun q hq => OwnC.lt HC4.out (k := q) hq
        have hnbw : w.heap.size ≤ nb := by rw [HNB.out]; exact Nat.le_refl _
        go_wp2_with (with_reducible refine wplC_append bb _ ?hs HC4.out ⟨w4.heap.size, 0, none⟩ (nm, kd) ?hx (one_col w4 (nm, kd)) ?hn ?hbase bb w2 HBB4.out (Nat.le_refl _) ?_)
        case hs => rfl
        case hx => rfl
        case hn => rw [HL.out]; omega
        case hbase => omega
        intro v5 w5 hC5 hB5 hg5
        have HC5 := Lib.hid hC5
        have HBB5 := Lib.hid hB5
        have HB5 := Lib.hid (HB4.out.grown hg5 (by have := HB3.out.size; omega) (fun q hq => by have := (hq4 q hq).1; omega))
        have HL5 := Lib.hid (show (cs ++ [(nm, kd)]).length = k + 1 from by rw [List.length_append, HL.out]; rfl)
        have HCS5 := Lib.hid (HCS.out.snoc' (s := nm) (kd := kd) (by rw [HNS.out]; omega) (by omega) (by omega))
        clear hC5 hB5 hg5 hq4
        go_wp2
        go_roundw
        case rel => exact ⟨k + 1, cs ++ [(nm, kd)], by omega, by go_num, HL5, HCS5, HC5, HB5, HBB5, HR2⟩
        case measure => simp [intOf]; omega
    · obtain rfl : k = n := by omega
      have HPS := Lib.hid (show prParts (cutL 44 l) = some (colsL cs) from by
        have := HR.out
        rwa [List.take_of_length_le (by rw [← HNL.out]; exact Nat.le_refl _)] at this)
      have hcl : cs.length ≤ 140737488351232 := by rw [HL.out]; omega
      have hck := schema_Check _ cs wr (HC.out.rd hcl) HCS.out (HT.out.later HB.out)
      obtain ⟨x, hx⟩ : ∃ x, x = errS (colsL cs) := ⟨_, rfl⟩
      rw [← hx] at hck
      have HCK := Lib.hid hck
      have HXX := Lib.hid hx
      have hnbw : w.heap.size ≤ nb := by rw [HNB.out]; exact Nat.le_refl _
      clear hlt hcl hck hx
      go_wp2_with fail
      refine HCK.out.mono ?_
      rintro e w3 ⟨rfl, hb3⟩
      have HB3 := Lib.hid (HB.out.trans (hb3.mono HB.out.size))
      have HC3 := Lib.hid ((HC.out.later hb3 (Nat.le_refl _)).lower (b' := w.heap.size) (by omega))
      clear hb3
      by_cases h0 : x = 0
      · have q : ((x : Int) != 0) = false := by rw [h0]; rfl
        have HZ := Lib.hid (show errS (colsL cs) = 0 from by rw [← HXX.out]; exact h0)
        have HF := Lib.hid (show prS l = (colsL cs, 0) from by unfold prS; rw [HPS.out]; exact if_pos HZ.out)
        have HL8 := Lib.hid (show cs.length ≤ 8 from by have := (errS_zero HZ.out).2.1; rwa [colsL_length] at this)
        clear h0
        go_wp2
        go_ret2
        exact ⟨HB3.out, _, cs, by rw [HF.out]; rfl, HC3.out, HCS.out, HL8.out, by rw [HF.out]⟩
      · have q : ((x : Int) != 0) = true := by rw [bne_iff_ne]; omega
        have HF := Lib.hid (show prS l = ([], x) from by
          unfold prS; rw [HPS.out]; dsimp only; rw [if_neg (by rw [← HXX.out]; exact h0), ← HXX.out])
        clear h0
        go_wp2
        go_ret2
        exact ⟨HB3.out, _, [], by rw [HF.out]; rfl, OwnC.nil _ _, fun c hc => absurd hc (by simp), by simp, by rw [HF.out]; rfl⟩

end Go.Proofs.YtkljkpffpdpphaaDoor
