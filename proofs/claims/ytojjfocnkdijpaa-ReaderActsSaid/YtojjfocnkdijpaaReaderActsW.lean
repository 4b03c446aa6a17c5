/-
  ReaderActs: of any bytes, and any calls, each answer is the document's, the place behind each, where it ended, and why: the law's walk. For every input.
-/
import Derived.Test.YtojjfocnkdijpaaReaderActs
set_option linter.unusedVariables false
set_option linter.unusedSimpArgs false
namespace Go.Proofs.Ytojjfocnkdijpaa
open Go.RowKit

theorem enters_acts1 (args : Array Value) (u : World) : (callFunc 10 args).run Try.prog u = .ok (.enter 10 args) u := enters_fn Try.func10 (by kernel_rfl) rfl args u

section
variable {l : List UInt8} {k : Nat} {many : Int} {mo en : Nat} {ok : Bool}
theorem actKX_0 : actKX l k ⟨0, many, mo, ok, en⟩ = (if k < l.length then (k + 1, 0) else (k, 5)) := by unfold actKX; dsimp only; rw [if_pos rfl]
theorem actKX_1 : actKX l k ⟨1, many, mo, ok, en⟩ = (rdU l k mo).2 := by unfold actKX; dsimp only; rw [if_neg (by decide), if_pos rfl, show ((mo : Int)).toNat = mo from by omega]
theorem actKX_2 : actKX l k ⟨2, many, mo, ok, en⟩ = (rdU l k 18446744073709551615).2 := by unfold actKX; dsimp only; rw [if_neg (by decide), if_neg (by decide), if_pos rfl]
theorem actKX_3 : actKX l k ⟨3, many, mo, ok, en⟩ = (rdB l k many).2 := by unfold actKX; dsimp only; rw [if_neg (by decide), if_neg (by decide), if_neg (by decide), if_pos rfl]
theorem actKX_4 : actKX l k ⟨4, many, mo, ok, en⟩ = (k, if ok then 0 else en % 18) := by unfold actKX; dsimp only; rw [if_neg (by decide), if_neg (by decide), if_neg (by decide), if_neg (by decide), if_pos rfl, show ((en : Int)).toNat = en from by omega]
theorem actKX_5 {kind : Int} (h0 : ¬ kind = 0) (h1 : ¬ kind = 1) (h2 : ¬ kind = 2) (h3 : ¬ kind = 3) (h4 : ¬ kind = 4) : actKX l k ⟨kind, many, mo, ok, en⟩ = (k, 0) := by unfold actKX; dsimp only; rw [if_neg h0, if_neg h1, if_neg h2, if_neg h3, if_neg h4]
end

set_option maxHeartbeats 4000000 in
set_option maxRecDepth 20000 in
theorem readerActs_walk (v : Value) (l : List UInt8) (vl : Value) (cl : List Call5) (w : World) (h : Rd w v l) (hA : RdA w vl cl) :
    Calls Try.prog 3 #[v, vl] w fun e w' => e = .returned (.bool true) ∧ Below w.heap.size w w' := by
  have hmf : ∀ (fn : Fn) (first cap : Array Value) (w : World), (Instr.makeFunc fn first cap).run Try.prog w = .ok (.func fn first cap) w := fun _ _ _ _ => rfl
  have hlen := h.len
  have hlen2 := hA.len
  have hidx := hA.idx
  have hbv : ∀ i, i < l.length → (adr v i).block < w.heap.size := fun i hi => h.block hi
  have hbA : ∀ i, i < cl.length → (adr vl (i * 5)).block < w.heap.size := fun i hi => hA.block hi
  obtain ⟨ao, c, hv, _⟩ := id h.shape
  obtain ⟨ao2, c2, hv2, _⟩ := id hA.shape
  subst hv hv2
  obtain ⟨hs0, hA0, hB0, hb0⟩ := new2 w (.cells #[.slice ao l.length c] 22) (.cells #[.slice ao2 cl.length c2] 23)
  have HR := Lib.hid h
  have HA := Lib.hid hA
  have HBV := Lib.hid hbv
  have HBA := Lib.hid hbA
  have hsm := h.small
  have hsm2 := hA.small
  clear h hA hbv hbA
  go_enter Try.func3, Try.ntmps3
  go_wp2_with fail
  obtain ⟨w0, hw0⟩ : ∃ w0, w0 = (w.alloc (.cells #[.slice ao l.length c] 22)).alloc (.cells #[.slice ao2 cl.length c2] 23) := ⟨_, rfl⟩
  rw [← hw0] at hs0 hA0 hB0 hb0 ⊢
  clear hw0
  refine (law03_alive _).mono ?_
  rintro e w1 ⟨rfl, hb1⟩
  have hA1 := (hb1.block _ (by omega)).trans hA0
  have hB1 := (hb1.block _ (by omega)).trans hB0
  have hbw := hb0.trans (hb1.mono (by omega))
  have hs1 := hb1.size
  have A0 := cell_of_one hA1
  have B0 := cell_of_one hB1
  by_cases h2000 : 2000 < l.length
  · go_wp2_with fail
    refine (law03_alive _).mono ?_
    rintro e w2 ⟨rfl, hb2⟩
    go_wp2
    go_ret
    exact ⟨rfl, hbw.trans (hb2.mono (by omega))⟩
  · by_cases h200 : 200 < cl.length
    · go_wp2_with fail
      refine (law03_alive _).mono ?_
      rintro e w2 ⟨rfl, hb2⟩
      go_wp2
      go_ret
      exact ⟨rfl, hbw.trans (hb2.mono (by omega))⟩
    · have HAb := Lib.hid hA1
      have HBb := Lib.hid hB1
      have HW := Lib.hid hbw
      have hl1 : w.heap.size < w1.heap.size := by omega
      have hl2 : w.heap.size < w1.heap.size + 1 := by omega
      have hl3 : w.heap.size < w1.heap.size + 1 + 1 := by omega
      have hl4 : w.heap.size < w1.heap.size + 1 + 1 + 1 := by omega
      have hl5 : w.heap.size < w1.heap.size + 1 + 1 + 1 + 1 := by omega
      clear hA1 hB1 hbw hA0 hB0 hb0 hb1
      go_wp2_with fail
      obtain ⟨N1, I1, B1⟩ := news [.cells #[.slice ao l.length c, .int .i64 0, .int .i64 0] 27, .cells #[.pointer (some ⟨w1.heap.size, 0, none⟩)] 25, .cells #[.bool true] 4, .cells #[.int .i64 0] 3, .cells #[.bool false] 4] w1
      have hMb := I1 0 _ rfl
      have hPb := I1 1 _ rfl
      have hGb := I1 2 _ rfl
      have hDb := I1 3 _ rfl
      have hOb := I1 4 _ rfl
      simp only [List.foldl_cons, List.foldl_nil, List.length_cons, List.length_nil, Nat.reduceAdd, Nat.add_zero] at N1 hMb hPb hGb hDb hOb B1
      clear I1 A0 B0
      generalize ((((w1.alloc (.cells #[.slice ao l.length c, .int .i64 0, .int .i64 0] 27)).alloc (.cells #[.pointer (some ⟨w1.heap.size, 0, none⟩)] 25)).alloc (.cells #[.bool true] 4)).alloc (.cells #[.int .i64 0] 3)).alloc (.cells #[.bool false] 4) = w2 at N1 hMb hPb hGb hDb hOb B1 ⊢
      have hw2 := HW.out.trans (B1.mono (by omega))
      have hAb := (B1.block _ (by omega)).trans HAb.out
      have hBb := (B1.block _ (by omega)).trans HBb.out
      have hRd := HR.out.later hw2 (Nat.le_refl _)
      have hM2 : Mdl w2 w1.heap.size (.slice ao l.length c) l 0 0 := ⟨hMb, Nat.zero_le _, hRd, fun i hi => by have := HBV.out i hi; omega⟩
      refine (reader_Run 10 enters_acts1 _ _ _ _ hRd (fun g k x a => Only (fun j => (j = w1.heap.size ∨ j = w1.heap.size + 2 ∨ j = w1.heap.size + 3 ∨ j = w1.heap.size + 4) ∨ w2.heap.size ≤ j) w2 a ∧ a.heap[w1.heap.size + 2]? = some (.cells #[.bool true] 4 (0, 0)) ∧ Mdl a w1.heap.size (.slice ao l.length c) l k 0 ∧
        ((x = 0 ∧ a.heap[w1.heap.size + 4]? = some (.cells #[.bool true] 4 (0, 0)) ∧ a.heap[w1.heap.size + 3]? = some (.cells #[.int .i64 (cl.length : Int)] 3 (0, 0))) ∨
         (x ≠ 0 ∧ a.heap[w1.heap.size + 4]? = some (.cells #[.bool false] 4 (0, 0)) ∧ ∃ j, j < cl.length ∧ a.heap[w1.heap.size + 3]? = some (.cells #[.int .i64 ((j + 1 : Nat) : Int)] 3 (0, 0)) ∧ actKX l k (cl.getD j default) = (k, x)))) ?hP ?hf).mono ?_
      case hP =>
        rintro g k x a b ⟨ha, hg, hm, hc⟩ hbb
        have hsm9 := ha.size
        refine ⟨ha.trans ⟨hbb.os, hbb.tape, hbb.output, hbb.size, fun j h1 h2 => hbb.block j (by omega)⟩, (hbb.block _ (by omega)).trans hg, hm.same (hbb.block _ (by omega)) (fun i hi => hbb.block _ (by have := HBV.out i hi; omega)), ?_⟩
        rcases hc with ⟨h1, h2, h3⟩ | ⟨h1, h2, j, h3, h4, h5⟩
        · exact .inl ⟨h1, (hbb.block _ (by omega)).trans h2, (hbb.block _ (by omega)).trans h3⟩
        · exact .inr ⟨h1, (hbb.block _ (by omega)).trans h2, j, h3, (hbb.block _ (by omega)).trans h4, h5⟩
      case hf =>
        intro g w3 hg hb3 hR3
        have hw3 := hw2.trans (hb3.mono (by omega))
        refine (acts1 (w1.heap.size + 2) (w.heap.size + 1) (w1.heap.size + 3) (w1.heap.size + 1) w.heap.size (w1.heap.size + 4) w1.heap.size g _ _ cl l w3 ((hb3.block _ (by omega)).trans hGb) ((hb3.block _ (by omega)).trans hBb) ((hb3.block _ (by omega)).trans hDb) ((hb3.block _ (by omega)).trans hPb) ((hb3.block _ (by omega)).trans hAb) ((hb3.block _ (by omega)).trans hOb)
          (HA.out.later hw3 (Nat.le_refl _)) (hM2.later hb3 (Nat.le_refl _)) hR3 (by omega) (fun i hi => by have := HBV.out i hi; omega) (fun i hi => by have := HBA.out i hi; omega)).mono ?_
        rintro e w4 ⟨hO, hG, k, x, hW, hM, hC⟩
        exact ⟨k, x, hO.kept (fun j hj => by omega), ⟨((Only.refl _ _).below hb3 (Nat.le_refl _)).trans (hO.mono (fun j hj => by omega)), hG, hM, hC⟩, hW⟩
      rintro e w5 ⟨g, k, x, hk, hg, ⟨hO, hG, hM, hC⟩, hsh, rfl⟩
      have hs5 := hO.size
      have hw5 : Below w.heap.size w w5 := hw2.trans (hO.toBelow (fun j hj => by omega) (by omega))
      have hP5 := hO.keep hPb (by omega)
      have hL5 := hO.keep hBb (by omega)
      have P0 := cell_of_one hP5
      have L0 := cell_of_one hL5
      have G0 := cell_of_one hG
      have HW5 := Lib.hid hw5
      have HM5 := Lib.hid hM
      have HG5 := Lib.hid hG
      have HP5 := Lib.hid hP5
      have hA5 := HA.out.later hw5 (Nat.le_refl _)
      clear hM2 hRd hAb hBb hMb hPb hGb hDb hOb hw2 hw5 hP5 hL5 hsh hO hG hM B1 N1 hl2 hl3 hl4 hl5
      rcases hC with ⟨rfl, hov, hdn⟩ | ⟨hx, hov, j, hj, hdn, hact⟩
      · have V0 := cell_of_one hov
        have D0 := cell_of_one hdn
        clear hov hdn hA5
        rw [show told l k 0 = toldM l k 0 from rfl]
        generalize hT : toldM l k 0 = T
        have HT := Lib.hid hT
        clear hT
        by_cases hcl : cl.length = 0
        · rw [hcl] at D0
          go_wp2_with fail
          refine (model_Done _ _ _ _ _ _ HM5.out).mono ?_
          rintro e w8 ⟨rfl, hb8⟩
          rw [HT.out]
          have G8 := cell_of_one ((hb8.block _ (Array.getElem?_eq_some_iff.1 HG5.out).1).trans HG5.out)
          have HB8 := Lib.hid (HW5.out.trans (hb8.mono HW5.out.size))
          clear hb8 G0 P0
          go_wp2
          go_ret
          exact ⟨rfl, HB8.out⟩
        · have hcl2 : 0 < (cl.length : Int) := by omega
          go_wp2_with fail
          refine (model_Done _ _ _ _ _ _ HM5.out).mono ?_
          rintro e w8 ⟨rfl, hb8⟩
          rw [HT.out]
          have G8 := cell_of_one ((hb8.block _ (Array.getElem?_eq_some_iff.1 HG5.out).1).trans HG5.out)
          have HB8 := Lib.hid (HW5.out.trans (hb8.mono HW5.out.size))
          clear hb8 G0 P0
          go_wp2
          go_ret
          exact ⟨rfl, HB8.out⟩
      · have V0 := cell_of_one hov
        have D0 := cell_of_one hdn
        rw [show ((j + 1 : Nat) : Int) = (j : Int) + 1 from by omega] at D0
        rw [show told l k x = x from if_neg hx]
        have HT := Lib.hid (show toldM l k x = x from if_neg hx)
        obtain ⟨ab, aof, hadr, hcs⟩ := hA5.at hj
        have hwf := hA5.wf j hj
        have hjx := hidx j hj
        rw [hadr] at hjx
        rcases hcj : cl.getD j default with ⟨kind, many, most, ok, er⟩
        rw [hcj] at hcs hwf hact
        obtain ⟨⟨wk0, wk1⟩, ⟨wm0, wm1⟩, ⟨wt0, wt1⟩, we0, we1⟩ := hwf
        dsimp only at wk0 wk1 wm0 wm1 wt0 wt1 we0 we1
        have C0 : w5.cell? ⟨ab, aof, none⟩ = some (.int .i64 kind) := hcs 0 _ rfl
        have C1 : w5.cell? ⟨ab, aof + 1, none⟩ = some (.int .i64 many) := hcs 1 _ rfl
        have C2 : w5.cell? ⟨ab, aof + 2, none⟩ = some (.int .u64 most) := hcs 2 _ rfl
        have C3 : w5.cell? ⟨ab, aof + 3, none⟩ = some (.bool ok) := hcs 3 _ rfl
        have C4 : w5.cell? ⟨ab, aof + 4, none⟩ = some (.int .u8 er) := hcs 4 _ rfl
        obtain ⟨mo, rfl⟩ := Int.eq_ofNat_of_zero_le wt0
        obtain ⟨en, rfl⟩ := Int.eq_ofNat_of_zero_le we0
        obtain ⟨mm, hmm⟩ : ∃ mm, mm = en % 18 := ⟨_, rfl⟩
        have hmod : (en : Int) % 18 = (mm : Int) := by omega
        have hmm1 : mm < 18 := by omega
        have HMM := Lib.hid hmm
        have HE := Lib.hid hact
        have hba : Below w5.heap.size w5 (w5.alloc (.cells #[.int .i64 kind, .int .i64 many, .int .u64 (mo : Int), .bool ok, .int .u8 (en : Int)] 34)) := (Below.refl _ _).alloc (Nat.le_refl _) _
        have HM9 := Lib.hid (HM5.out.later hba (Nat.le_refl _))
        have HB9 := Lib.hid (HW5.out.trans (hba.mono HW5.out.size))
        have HGD := Lib.hid ((hba.block _ (Array.getElem?_eq_some_iff.1 HG5.out).1).trans HG5.out)
        have HPP := Lib.hid ((hba.block _ (Array.getElem?_eq_some_iff.1 HP5.out).1).trans HP5.out)
        have hpl : w1.heap.size + 1 < w5.heap.size := (Array.getElem?_eq_some_iff.1 HP5.out).1
        have hl1' : w1.heap.size < w5.heap.size := by omega
        clear hov hdn hA5 hmm hact hcs hcj hba hidx
        by_cases h0 : kind = 0
        · subst h0
          have HE9 := HE.out
          rw [actKX_0] at HE9
          obtain ⟨e1, e2⟩ : (if k < l.length then k + 1 else k) = k ∧ (if k < l.length then 0 else 5) = x := by
            by_cases hkl : k < l.length
            · rw [if_pos hkl] at HE9; injection HE9 with q1 q2; omega
            · rw [if_neg hkl] at HE9; injection HE9 with q1 q2; rw [if_neg hkl, if_neg hkl]; exact ⟨rfl, q2⟩
          have F1 := Lib.hid e1
          have F2 := Lib.hid e2
          clear e1 e2 HE9
          go_wp2_with fail
          generalize w5.alloc (.cells #[.int .i64 0, .int .i64 many, .int .u64 (mo : Int), .bool ok, .int .u8 (en : Int)] 34) = w6 at HM9 HB9 HGD HPP ⊢
          refine (model_Byte _ _ _ _ _ HM9.out).mono ?_
          rintro e w7 ⟨rfl, hg7, hM7⟩
          generalize (if k < l.length then at8 l k else 0) = xv
          rw [F1.out, F2.out] at hM7
          have HB7 := Lib.hid (HB9.out.trans ((Only.refl (fun j => j = w1.heap.size) w6).grown hg7 rfl |>.toBelow (B := w.heap.size) (fun j hj => by omega) (by have := HB9.out.size; omega)))
          have GD := hg7.keep HGD.out (by omega)
          have P7 := cell_of_one (hg7.keep HPP.out (by omega))
          have G7 := cell_of_one GD
          have HGDw7 := Lib.hid GD
          clear hg7 GD P0 V0 D0 C0 C1 C2 C3 C4 G0
          go_wp2_with fail
          refine (model_Done _ _ _ _ _ _ hM7).mono ?_
          rintro e w8 ⟨rfl, hb8⟩
          rw [HT.out]
          have G8 := cell_of_one ((hb8.block _ (Array.getElem?_eq_some_iff.1 (HGDw7.out)).1).trans HGDw7.out)
          have HB8 := Lib.hid (HB7.out.trans (hb8.mono HB7.out.size))
          clear hb8 hM7 G7 P7
          go_wp2
          go_ret
          exact ⟨rfl, HB8.out⟩
        · by_cases h1 : kind = 1
          · subst h1
            have HE9 := HE.out
            rw [actKX_1] at HE9
            obtain ⟨e1, e2⟩ : (rdU l k mo).2.1 = k ∧ (rdU l k mo).2.2 = x := by rw [HE9]; exact ⟨rfl, rfl⟩
            have F1 := Lib.hid e1
            have F2 := Lib.hid e2
            clear e1 e2 HE9
            go_wp2_with fail
            generalize w5.alloc (.cells #[.int .i64 1, .int .i64 many, .int .u64 (mo : Int), .bool ok, .int .u8 (en : Int)] 34) = w6 at HM9 HB9 HGD HPP ⊢
            refine (model_Uint _ _ _ _ _ HM9.out mo (by omega)).mono ?_
            rintro e w7 ⟨rfl, hg7, hM7⟩
            rw [F1.out, F2.out] at hM7
            have HB7 := Lib.hid (HB9.out.trans ((Only.refl (fun j => j = w1.heap.size) w6).grown hg7 rfl |>.toBelow (B := w.heap.size) (fun j hj => by omega) (by have := HB9.out.size; omega)))
            have GD := hg7.keep HGD.out (by omega)
            have P7 := cell_of_one (hg7.keep HPP.out (by omega))
            have G7 := cell_of_one GD
            have HGDw7 := Lib.hid GD
            clear hg7 GD P0 V0 D0 C0 C1 C2 C3 C4 G0
            go_wp2_with fail
            refine (model_Done _ _ _ _ _ _ hM7).mono ?_
            rintro e w8 ⟨rfl, hb8⟩
            rw [HT.out]
            have G8 := cell_of_one ((hb8.block _ (Array.getElem?_eq_some_iff.1 (HGDw7.out)).1).trans HGDw7.out)
            have HB8 := Lib.hid (HB7.out.trans (hb8.mono HB7.out.size))
            clear hb8 hM7 G7 P7
            go_wp2
            go_ret
            exact ⟨rfl, HB8.out⟩
          · by_cases h2 : kind = 2
            · subst h2
              have HE9 := HE.out
              rw [actKX_2] at HE9
              obtain ⟨e1, e2⟩ : (rdU l k 18446744073709551615).2.1 = k ∧ (rdU l k 18446744073709551615).2.2 = x := by rw [HE9]; exact ⟨rfl, rfl⟩
              have F1 := Lib.hid e1
              have F2 := Lib.hid e2
              clear e1 e2 HE9
              go_wp2_with fail
              generalize w5.alloc (.cells #[.int .i64 2, .int .i64 many, .int .u64 (mo : Int), .bool ok, .int .u8 (en : Int)] 34) = w6 at HM9 HB9 HGD HPP ⊢
              refine (model_Int _ _ _ _ _ HM9.out).mono ?_
              rintro e w7 ⟨rfl, hg7, hM7⟩
              rw [F1.out, F2.out] at hM7
              have HB7 := Lib.hid (HB9.out.trans ((Only.refl (fun j => j = w1.heap.size) w6).grown hg7 rfl |>.toBelow (B := w.heap.size) (fun j hj => by omega) (by have := HB9.out.size; omega)))
              have GD := hg7.keep HGD.out (by omega)
              have P7 := cell_of_one (hg7.keep HPP.out (by omega))
              have G7 := cell_of_one GD
              have HGDw7 := Lib.hid GD
              clear hg7 GD P0 V0 D0 C0 C1 C2 C3 C4 G0
              go_wp2_with fail
              refine (model_Done _ _ _ _ _ _ hM7).mono ?_
              rintro e w8 ⟨rfl, hb8⟩
              rw [HT.out]
              have G8 := cell_of_one ((hb8.block _ (Array.getElem?_eq_some_iff.1 (HGDw7.out)).1).trans HGDw7.out)
              have HB8 := Lib.hid (HB7.out.trans (hb8.mono HB7.out.size))
              clear hb8 hM7 G7 P7
              go_wp2
              go_ret
              exact ⟨rfl, HB8.out⟩
            · by_cases h3 : kind = 3
              · subst h3
                have HE9 := HE.out
                rw [actKX_3] at HE9
                obtain ⟨e1, e2⟩ : (rdB l k many).2.1 = k ∧ (rdB l k many).2.2 = x := by rw [HE9]; exact ⟨rfl, rfl⟩
                have F1 := Lib.hid e1
                have F2 := Lib.hid e2
                clear e1 e2 HE9
                go_wp2_with fail
                generalize w5.alloc (.cells #[.int .i64 3, .int .i64 many, .int .u64 (mo : Int), .bool ok, .int .u8 (en : Int)] 34) = w6 at HM9 HB9 HGD HPP ⊢
                refine (model_Bytes _ _ _ _ _ HM9.out many ⟨wm0, wm1⟩).mono ?_
                rintro e w7 ⟨vc, ⟨rfl, hg7, hM7⟩, _⟩
                rw [F1.out, F2.out] at hM7
                have HB7 := Lib.hid (HB9.out.trans ((Only.refl (fun j => j = w1.heap.size) w6).grown hg7 rfl |>.toBelow (B := w.heap.size) (fun j hj => by omega) (by have := HB9.out.size; omega)))
                have GD := hg7.keep HGD.out (by omega)
                have P7 := cell_of_one (hg7.keep HPP.out (by omega))
                have G7 := cell_of_one GD
                have HGDw7 := Lib.hid GD
                clear hg7 GD P0 V0 D0 C0 C1 C2 C3 C4 G0
                go_wp2_with fail
                refine (model_Done _ _ _ _ _ _ hM7).mono ?_
                rintro e w8 ⟨rfl, hb8⟩
                rw [HT.out]
                have G8 := cell_of_one ((hb8.block _ (Array.getElem?_eq_some_iff.1 (HGDw7.out)).1).trans HGDw7.out)
                have HB8 := Lib.hid (HB7.out.trans (hb8.mono HB7.out.size))
                clear hb8 hM7 G7 P7
                go_wp2
                go_ret
                exact ⟨rfl, HB8.out⟩
              · by_cases h4 : kind = 4
                · subst h4
                  have HE9 := HE.out
                  rw [actKX_4] at HE9
                  obtain ⟨e1, e2⟩ : k = k ∧ (if ok then 0 else mm) = x := ⟨rfl, by rw [HMM.out]; injection HE9⟩
                  have F1 := Lib.hid e1
                  have F2 := Lib.hid e2
                  clear e1 e2 HE9
                  go_wp2_with fail
                  generalize w5.alloc (.cells #[.int .i64 4, .int .i64 many, .int .u64 (mo : Int), .bool ok, .int .u8 (en : Int)] 34) = w6 at HM9 HB9 HGD HPP ⊢
                  refine (model_Must _ _ _ _ _ HM9.out ok mm).mono ?_
                  rintro e w7 ⟨rfl, hg7, hM7⟩
                  rw [F2.out] at hM7
                  have HB7 := Lib.hid (HB9.out.trans ((Only.refl (fun j => j = w1.heap.size) w6).grown hg7 rfl |>.toBelow (B := w.heap.size) (fun j hj => by omega) (by have := HB9.out.size; omega)))
                  have GD := hg7.keep HGD.out (by omega)
                  have P7 := cell_of_one (hg7.keep HPP.out (by omega))
                  have G7 := cell_of_one GD
                  have HGDw7 := Lib.hid GD
                  clear hg7 GD P0 V0 D0 C0 C1 C2 C3 C4 G0
                  go_wp2_with fail
                  refine (model_Done _ _ _ _ _ _ hM7).mono ?_
                  rintro e w8 ⟨rfl, hb8⟩
                  rw [HT.out]
                  have G8 := cell_of_one ((hb8.block _ (Array.getElem?_eq_some_iff.1 (HGDw7.out)).1).trans HGDw7.out)
                  have HB8 := Lib.hid (HB7.out.trans (hb8.mono HB7.out.size))
                  clear hb8 hM7 G7 P7
                  go_wp2
                  go_ret
                  exact ⟨rfl, HB8.out⟩
                · exfalso
                  have := HE.out
                  rw [actKX_5 h0 h1 h2 h3 h4] at this
                  injection this with _ this
                  omega

end Go.Proofs.Ytojjfocnkdijpaa
