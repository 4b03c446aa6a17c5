/-
  ReaderBack: numbers and bytes that were put, one behind the other, are taken; without the last byte it ends at the last one of them, too early: the law's walk. For every input.
-/
import Derived.Test.YtojjfocnkdijpaaReaderBack
set_option linter.unusedVariables false
set_option linter.unusedSimpArgs false
namespace Go.Proofs.Ytojjfocnkdijpaa
open Go.RowKit

theorem enters_back1 (args : Array Value) (u : World) : (callFunc 27 args).run Try.prog u = .ok (.enter 27 args) u := enters_fn Try.func27 (by kernel_rfl) rfl args u

/-- Where the last one of the first j begins. -/
def lastOf (cs : List (List UInt8)) (j : Nat) : Nat := if j = 0 then 0 else stOf cs (j - 1)
theorem lastOf_succ (cs : List (List UInt8)) (j : Nat) : lastOf cs (j + 1) = stOf cs j := by unfold lastOf; rw [if_neg (by omega), Nat.add_sub_cancel]

theorem take_succ_flat {cs : List (List UInt8)} {j : Nat} (h : j < cs.length) : (cs.take (j + 1)).flatten = (cs.take j).flatten ++ cs.getD j [] := by
  rw [List.take_succ_eq_append_getElem h, List.flatten_append]
  simp [List.getD, h]

theorem st_nums {l : List Int} {t : List (List UInt8)} (hl : ∀ x ∈ l, (Lit.int .i64 x).wf = true) : ∀ j, j ≤ l.length → stOf (pieces l t) j ≤ 10 * j
  | 0, _ => by rw [stOf_zero]; omega
  | j + 1, h => by
    have ih := st_nums (t := t) hl j (by omega)
    rw [stOf_succ (by rw [pieces_length]; omega), pieces_num (by omega)]
    have hx := zig_bound (hl (l.getD j 0) (by simp [List.getD, show j < l.length by omega]))
    have := encU_le _ hx
    omega

theorem st_bytes {l : List Int} {t : List (List UInt8)} (hl : ∀ x ∈ l, (Lit.int .i64 x).wf = true) : ∀ j, j ≤ t.length → (∀ i, i < j → (t.getD i []).length ≤ 300) → stOf (pieces l t) (l.length + j) ≤ 10 * l.length + 310 * j
  | 0, _, _ => by have := st_nums (t := t) hl l.length (Nat.le_refl _); omega
  | j + 1, h, h3 => by
    have ih := st_bytes hl j (by omega) (fun i hi => h3 i (by omega))
    rw [← Nat.add_assoc, stOf_succ (by rw [pieces_length]; omega), pieces_bytes (by omega)]
    have h1 := h3 j (by omega)
    have h2 := encU_le (t.getD j []).length (by omega)
    unfold encB
    rw [List.length_append]
    omega

set_option maxHeartbeats 4000000 in
set_option maxRecDepth 20000 in
theorem readerBack_walk (vl : Value) (l : List Int) (vt : Value) (us : Nat → Value) (t : List (List UInt8)) (w : World) (hL : RdI .i64 w vl l) (hT : RdL w vt us t) :
    Calls Try.prog 5 #[vl, vt] w fun e w' => e = .returned (.bool true) ∧ Below w.heap.size w w' := by
  have hmf : ∀ (fn : Fn) (first cap : Array Value) (w : World), (Instr.makeFunc fn first cap).run Try.prog w = .ok (.func fn first cap) w := fun _ _ _ _ => rfl
  have hlen := hL.len Try.underlying47
  have hidx := hL.idx Try.underlying47 (by kernel_rfl)
  have hlen2 := hT.len
  have hidx2 := hT.idx
  have hbL : ∀ i, i < l.length → (adr vl i).block < w.heap.size := fun i hi => hL.block hi
  have hbT : ∀ i, i < t.length → (adr vt i).block < w.heap.size := fun i hi => hT.block hi
  have hbU : ∀ j, j < t.length → ∀ i, i < (t.getD j []).length → (adr (us j) i).block < w.heap.size := fun j hj i hi => (hT.rds j hj).block hi
  obtain ⟨ao, c, hv, _⟩ := id hL.shape
  obtain ⟨ao2, c2, hv2, _⟩ := id hT.shape
  subst hv hv2
  obtain ⟨hs0, hA0, hB0, hb0⟩ := new2 w (.cells #[.slice ao l.length c] 47) (.cells #[.slice ao2 t.length c2] 48)
  have HL := Lib.hid hL
  have HT := Lib.hid hT
  have HBL := Lib.hid hbL
  have HBT := Lib.hid hbT
  have HBU := Lib.hid hbU
  have hsm := hL.small
  have hsm2 := hT.small
  clear hL hT hbL hbT hbU
  go_enter Try.func5, Try.ntmps5
  go_wp2_with fail
  obtain ⟨w0, hw0⟩ : ∃ w0, w0 = (w.alloc (.cells #[.slice ao l.length c] 47)).alloc (.cells #[.slice ao2 t.length c2] 48) := ⟨_, rfl⟩
  rw [← hw0] at hs0 hA0 hB0 hb0 ⊢
  clear hw0
  refine (law03_alive _).mono ?_
  rintro e w1 ⟨rfl, hb1⟩
  have hA1 := (hb1.block _ (by omega)).trans hA0
  have hB1 := (hb1.block _ (by omega)).trans hB0
  have hbw := hb0.trans (hb1.mono (by omega))
  have hs1 := hb1.size
  have A0 := cell_of_one hA1
  have B0 := cell_of_one hB1
  by_cases h100 : 100 < l.length
  · go_wp2_with fail
    refine (law03_alive _).mono ?_
    rintro e w2 ⟨rfl, hb2⟩
    go_wp2
    go_ret
    exact ⟨rfl, hbw.trans (hb2.mono (by omega))⟩
  · by_cases h30 : 30 < t.length
    · go_wp2_with fail
      refine (law03_alive _).mono ?_
      rintro e w2 ⟨rfl, hb2⟩
      go_wp2
      go_ret
      exact ⟨rfl, hbw.trans (hb2.mono (by omega))⟩
    · have HA := Lib.hid hA1
      have HB := Lib.hid hB1
      have HW := Lib.hid hbw
      have HP := Lib.hid (pieces_length l t)
      clear hA1 hB1 hbw hA0 hB0 hb0 hb1
      go_wp2_with fail
      go_loopw [5, 6, 32] (fun s a i wr => ∃ j : Nat, j ≤ l.length ∧ i = .int .i64 j ∧ a = .int .i64 (lastOf (pieces l t) j) ∧ Hid (Own wr w1.heap.size s ((pieces l t).take j).flatten) ∧ Hid (Below w1.heap.size w1 wr)) (fun _ _ i _ => l.length - (intOf i).toNat)
      case atStart => exact ⟨0, by omega, rfl, rfl, Lib.hid (own_nil _ _), Lib.hid (Below.refl _ _)⟩
      case round =>
        obtain ⟨j, hj, rfl, rfl, HO, HE⟩ := hrel
        have hst := st_nums (t := t) HL.out.wf j hj
        by_cases hlt : j < l.length
        · have hc := (HL.out.later (HW.out.trans (HE.out.mono (by omega))) (Nat.le_refl _)).cells j hlt
          have hx := bd_i64 (HL.out.mem hlt)
          have hzb := encU_le _ (zig_bound (HL.out.mem hlt))
          have hjp : j < (pieces l t).length := by have := HP.out; omega
          have hsn := Lib.hid (take_succ_flat hjp)
          have hpc : (pieces l t).getD j [] = encU (zig (atI l j)) := pieces_num hlt
          rw [hpc] at hsn
          have hln := HO.out.rd (show ((pieces l t).take j).flatten.length ≤ 140737488351232 by have := hst; unfold stOf at this; omega)
          have hls := hln.len
          rw [show (((pieces l t).take j).flatten.length : Int) = ((stOf (pieces l t) j : Nat) : Int) from rfl] at hls
          have hfl : ((pieces l t).take j).flatten.length ≤ 1000 := by have := hst; unfold stOf at this; omega
          have hl1 : lastOf (pieces l t) (j + 1) = stOf (pieces l t) j := lastOf_succ _ _
          have HL1 := Lib.hid hl1
          obtain ⟨F, hF⟩ : ∃ F, F = ((pieces l t).take j).flatten := ⟨_, rfl⟩
          rw [← hF] at hsn hln hfl
          have HO2 := HO.out
          rw [← hF] at HO2
          have HO3 := Lib.hid HO2
          generalize atI l j = X at *
          clear hpc hl1 hF HO2 HO hst
          go_wp2_with fail
          refine (wire_Int X hx.1 hx.2 wr).mono ?_
          rintro e w2 ⟨v2, rfl, ho2, hb2⟩
          have hO4 := HO3.out.later hb2 (Nat.le_refl _)
          have hE2 := HE.out.trans (hb2.mono HE.out.size)
          go_wp2_with (with_reducible refine wpl_append w1.heap.size _ F ?hs hO4 _ (encU (zig X)) ?hx2 (ho2.rd (by omega)) ?hn ?hbase w1.heap.size w1 hE2 (Nat.le_refl _) ?_)
          case hs => rfl
          case hx2 => rfl
          case hn => omega
          case hbase => exact hE2.size
          intro v4 w4 ho4 hb4 _
          rw [← hsn.out] at ho4
          have HO4 := Lib.hid ho4
          have HE4 := Lib.hid hb4
          clear ho4 hb4 hO4 hE2 ho2 hb2 hls hln hsn HO3
          go_wp2
          go_roundw
          case rel => exact ⟨j + 1, by omega, by go_num, by rw [HL1.out], HO4, HE4⟩
          case measure => simp [intOf]; omega
        · obtain rfl : j = l.length := by omega
          have hB2 := (HE.out.block _ (by omega)).trans HB.out
          have T0 := cell_of_one hB2
          clear hB2 A0 B0
          go_wp2_with fail
          go_loopw [5, 6, 45] (fun s a i wr => ∃ j : Nat, j ≤ t.length ∧ i = .int .i64 j ∧ a = .int .i64 (lastOf (pieces l t) (l.length + j)) ∧ Hid (Own wr w1.heap.size s ((pieces l t).take (l.length + j)).flatten) ∧ Hid (Below w1.heap.size w1 wr) ∧ Hid (∀ i, i < j → (t.getD i []).length ≤ 300)) (fun _ _ i _ => t.length - (intOf i).toNat)
          case atStart => exact ⟨0, by omega, rfl, rfl, HO, HE, Lib.hid (fun i hi => absurd hi (by omega))⟩
          case round =>
            clear HO HE T0 hst
            obtain ⟨j, hj, rfl, rfl, HO, HE, H3⟩ := hrel
            have hst := st_bytes HL.out.wf j hj H3.out
            by_cases hlt : j < t.length
            · have hT1 := HT.out.later (HW.out.trans (HE.out.mono (by omega))) (Nat.le_refl _)
              have hc := hT1.cells j hlt
              have hu := hT1.rds j hlt
              have hjp : l.length + j < (pieces l t).length := by have := HP.out; omega
              have hsn := Lib.hid (take_succ_flat hjp)
              have hpc : (pieces l t).getD (l.length + j) [] = encB (t.getD j []) := pieces_bytes hlt
              rw [hpc] at hsn
              have hln := HO.out.rd (show ((pieces l t).take (l.length + j)).flatten.length ≤ 140737488351232 by have := hst; unfold stOf at this; omega)
              have hls := hln.len
              rw [show (((pieces l t).take (l.length + j)).flatten.length : Int) = ((stOf (pieces l t) (l.length + j) : Nat) : Int) from rfl] at hls
              have hfl : ((pieces l t).take (l.length + j)).flatten.length ≤ 20000 := by have := hst; unfold stOf at this; omega
              have HL1 := Lib.hid (lastOf_succ (pieces l t) (l.length + j))
              obtain ⟨F, hF⟩ : ∃ F, F = ((pieces l t).take (l.length + j)).flatten := ⟨_, rfl⟩
              obtain ⟨b, hb⟩ : ∃ b, b = t.getD j [] := ⟨_, rfl⟩
              have HO2 := HO.out
              rw [← hF] at hsn hln hfl HO2
              rw [← hb] at hsn hu
              have HO3 := Lib.hid HO2
              have HB3 := Lib.hid hb
              have hul := hu.len
              have HU := Lib.hid hu
              clear hpc hF HO2 HO hst hT1 hb hu
              by_cases h3 : 300 < b.length
              · go_wp2
                go_ret
                exact ⟨rfl, HW.out.trans (HE.out.mono (by omega))⟩
              · go_wp2_with fail
                refine (wire_Bytes _ b wr HU.out).mono ?_
                rintro e w2 ⟨v2, rfl, ho2, hb2⟩
                have hO4 := HO3.out.later hb2 (Nat.le_refl _)
                have hE2 := HE.out.trans (hb2.mono HE.out.size)
                have hel : (encB b).length ≤ 310 := by
                  have := encU_le b.length (by omega)
                  unfold encB
                  rw [List.length_append]
                  omega
                go_wp2_with (with_reducible refine wpl_append w1.heap.size _ F ?hs hO4 _ (encB b) ?hx2 (ho2.rd (by omega)) ?hn ?hbase w1.heap.size w1 hE2 (Nat.le_refl _) ?_)
                case hs => rfl
                case hx2 => rfl
                case hn => omega
                case hbase => exact hE2.size
                intro v4 w4 ho4 hb4 _
                rw [← hsn.out] at ho4
                have HO4 := Lib.hid ho4
                have HE4 := Lib.hid hb4
                clear ho4 hb4 hO4 hE2 ho2 hb2 hls hln hsn HO3 hul
                go_wp2
                go_roundw
                case rel =>
                  refine ⟨j + 1, by omega, by go_num, by rw [← Nat.add_assoc, HL1.out], HO4, HE4, Lib.hid (fun i hi => ?_)⟩
                  by_cases hij : i < j
                  · exact H3.out i hij
                  · obtain rfl : i = j := by omega
                    rw [← HB3.out]; omega
                case measure => simp [intOf]; omega
            · obtain rfl : j = t.length := by omega
              have hall : (pieces l t).take (l.length + t.length) = pieces l t := List.take_of_length_le (by have := HP.out; omega)
              have HO2 := HO.out
              rw [hall] at HO2
              have hfl : (pieces l t).flatten.length ≤ 20000 := by
                have h1 := stOf_all (pieces l t)
                rw [HP.out] at h1
                omega
              have hrd := HO2.rd (by omega)
              have hls := hrd.len
              obtain ⟨N, hN⟩ : ∃ N, N = (pieces l t).flatten.length := ⟨_, rfl⟩
              rw [← hN] at hls hfl
              have HN := Lib.hid hN
              have HOW := Lib.hid HO2
              have HRD := Lib.hid hrd
              obtain ⟨K, hK⟩ : ∃ K, K = lastOf (pieces l t) (l.length + t.length) := ⟨_, rfl⟩
              rw [← hK]
              have HK := Lib.hid hK
              have HWr := Lib.hid (HW.out.trans (HE.out.mono (by omega)))
              have hlr : w1.heap.size ≤ wr.heap.size := HE.out.size
              have HAr := Lib.hid ((HE.out.block _ (by omega)).trans HA.out)
              have HBr := Lib.hid ((HE.out.block _ (by omega)).trans HB.out)
              clear hall HO2 hN hK hrd HO HE hst
              go_wp2_with fail
              have hgn := heap_alloc_new wr (.cells #[.bool true] 4 (0, 0))
              have hbn : Below wr.heap.size wr (wr.alloc (.cells #[.bool true] 4 (0, 0))) := (Below.refl _ wr).alloc (Nat.le_refl _) _
              have hsn : (wr.alloc (.cells #[.bool true] 4 (0, 0))).heap.size = wr.heap.size + 1 := by simp
              generalize wr.alloc (.cells #[.bool true] 4 (0, 0)) = w2 at hgn hbn hsn ⊢
              have hw2 := HWr.out.trans (hbn.mono (by omega))
              have h2 : Rd w2 u5 ((pieces l t).flatten.take N) := by rw [HN.out, List.take_length]; exact HRD.out.later hbn (Nat.le_refl _)
              have hub : ∀ i, i < ((pieces l t).flatten.take N).length → (adr u5 i).block ≠ wr.heap.size := fun i hi => by
                rw [HN.out, List.take_length] at hi
                have := HRD.out.block hi
                omega
              refine (reader_Run 27 enters_back1 _ _ _ _ h2 (fun g k x a => BackEnd l t N k x ∧ Only (fun j => j = wr.heap.size ∨ w2.heap.size ≤ j) w2 a ∧ a.heap[wr.heap.size]? = some (.cells #[.bool true] 4 (0, 0))) ?hP ?hf).mono ?_
              case hP =>
                rintro g k x a b ⟨hbe, ha, hc⟩ hbb
                exact ⟨hbe, ha.trans ⟨hbb.os, hbb.tape, hbb.output, hbb.size, fun j h1 h2 => hbb.block j (by omega)⟩, (hbb.block _ (by omega)).trans hc⟩
              case hf =>
                intro g w3 hg hb3 hR
                have hw3 := hw2.trans (hb3.mono (by omega))
                refine (back1 w.heap.size wr.heap.size (w.heap.size + 1) g N _ _ u5 us l t w3 (((hbn.trans (hb3.mono (by omega))).block _ (by omega)).trans HAr.out) ((hb3.block _ (by omega)).trans hgn) (((hbn.trans (hb3.mono (by omega))).block _ (by omega)).trans HBr.out)
                  (HL.out.later hw3 (Nat.le_refl _)) (HT.out.later hw3 (Nat.le_refl _)) H3.out (by have := HN.out; omega) (by omega) (fun i hi => by have := HBL.out i hi; omega) (fun i hi => by have := HBT.out i hi; omega) (fun j hj i hi => by have := HBU.out j hj i hi; omega) hub hR).mono ?_
                rintro e w4 ⟨hO, hG, k, x, hW, hE⟩
                exact ⟨k, x, hO.kept (fun j hj => by omega), ⟨hE, ((Only.refl _ _).below hb3 (Nat.le_refl _)).trans (hO.mono (fun j hj => by omega)), hG⟩, hW⟩
              rintro e w5 ⟨g, k, x, hk, hg, ⟨hbe, hO, hG5⟩, hsh, rfl⟩
              have hkx : k = N ∧ x = 0 := by
                rcases hbe with ⟨_, h1, h2⟩ | ⟨_, j, hj, rfl, h1, h2⟩
                · exact ⟨h1, h2⟩
                · have := stOf_le (pieces l t) (j + 1)
                  have := HN.out
                  omega
              obtain ⟨rfl, rfl⟩ := hkx
              rw [show told ((pieces l t).flatten.take k) k 0 = 0 from by unfold told; rw [if_pos rfl, if_neg (by rw [List.length_take]; omega)]]
              have G0 := cell_of_one hG5
              have hw5 : Below w.heap.size w w5 := hw2.trans (hO.toBelow (fun j hj => by omega) (by omega))
              have HW5 := Lib.hid hw5
              have hs5 := hO.size
              by_cases hz : k = 0
              · subst hz
                clear hO hG5 hbe hsh hw2 hw5 hgn hbn h2 hub
                go_wp2
                go_ret
                exact ⟨rfl, HW5.out⟩
              · obtain ⟨m, hm⟩ : ∃ m, k = m + 1 := ⟨k - 1, by omega⟩
                subst hm
                obtain ⟨va, hsl, hrv⟩ := HRD.out.upto m (by have := HN.out; omega)
                have hvb : ∀ i, i < ((pieces l t).flatten.take m).length → (adr va i).block < wr.heap.size := fun i hi => (hrv _ HRD.out).block hi
                have h5 := hrv _ (HRD.out.only ((Only.refl _ _).below hbn (Nat.le_refl _) |>.trans (hO.mono (T := fun j => wr.heap.size ≤ j) (fun j hj => by omega))) (fun i hi => by have := HRD.out.block hi; omega))
                have HA5 := Lib.hid (hO.keep ((hbn.block _ (by omega)).trans HAr.out) (by omega))
                have HB5 := Lib.hid (hO.keep ((hbn.block _ (by omega)).trans HBr.out) (by omega))
                have HG5 := Lib.hid hG5
                have HSL := Lib.hid hsl
                rw [show ((m + 1 : Nat) : Int) = (m : Int) + 1 from by omega] at *
                clear hO hG5 hbe hsh hw2 hw5 hgn hbn h2 hub hrv
                go_wp2_with fail
                refine (reader_Run 27 enters_back1 _ _ _ _ h5 (fun g k x a => BackEnd l t m k x ∧ Only (fun j => j = wr.heap.size ∨ w5.heap.size ≤ j) w5 a) ?hP2 ?hf2).mono ?_
                case hP2 =>
                  rintro g k x a b ⟨hbe, ha⟩ hbb
                  exact ⟨hbe, ha.trans ⟨hbb.os, hbb.tape, hbb.output, hbb.size, fun j h1 h2 => hbb.block j (by omega)⟩⟩
                case hf2 =>
                  intro g w6 hg6 hb6 hR6
                  have hw6 := HW5.out.trans (hb6.mono (by omega))
                  refine (back1 w.heap.size wr.heap.size (w.heap.size + 1) g m _ _ va us l t w6 ((hb6.block _ (by omega)).trans HA5.out) ((hb6.block _ (by omega)).trans HG5.out) ((hb6.block _ (by omega)).trans HB5.out)
                    (HL.out.later hw6 (Nat.le_refl _)) (HT.out.later hw6 (Nat.le_refl _)) H3.out (by have := HN.out; omega) (by omega) (fun i hi => by have := HBL.out i hi; omega) (fun i hi => by have := HBT.out i hi; omega) (fun j hj i hi => by have := HBU.out j hj i hi; omega) (fun i hi => by have := hvb i hi; omega) hR6).mono ?_
                  rintro e w4 ⟨hO, hG, k, x, hW, hE⟩
                  exact ⟨k, x, hO.kept (fun j hj => by omega), ⟨hE, ((Only.refl _ _).below hb6 (Nat.le_refl _)).trans (hO.mono (fun j hj => by omega))⟩, hW⟩
                rintro e w7 ⟨g7, k7, x7, hk7, hg7, ⟨hbe, hO⟩, hsh, rfl⟩
                have hkx : k7 = K ∧ x7 = 5 := by
                  rcases hbe with ⟨h1, _⟩ | ⟨h1, j, hj, h2, h3, h4⟩
                  · have := HN.out; omega
                  · have hlast := pieces_last hj (by have := HN.out; omega)
                    refine ⟨?_, h1⟩
                    rw [HK.out, ← HP.out, ← hlast, lastOf_succ, h2]
                obtain ⟨rfl, rfl⟩ := hkx
                rw [show told ((pieces l t).flatten.take m) k7 5 = 5 from rfl]
                have HW7 := Lib.hid (HW5.out.trans (hO.toBelow (B := w.heap.size) (fun j hj => by omega) (by omega)))
                clear hO hbe hsh h5
                go_wp2
                go_ret
                exact ⟨rfl, HW7.out⟩

end Go.Proofs.Ytojjfocnkdijpaa
