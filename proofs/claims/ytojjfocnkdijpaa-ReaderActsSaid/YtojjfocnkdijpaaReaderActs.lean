/-
  ReaderActs: the function that reads, in step with the document's own reader. For every input.
-/
import Derived.Test.YtojjfocnkdijpaaReaderRef
import Derived.Test.YtojjfocnkdijpaaReaderAlive
import Derived.Test.YtojjfocnkdijpaaReaderBack
import Derived.Test.YtojjfocnkdijpaaActs
set_option linter.unusedVariables false
set_option linter.unusedSimpArgs false
namespace Go.Proofs.Ytojjfocnkdijpaa
open Go.RowKit

/-- Where the reader stands behind a call, and with what it ends. -/
def actKX (l : List UInt8) (k : Nat) (a : Call5) : Nat × Nat :=
  if a.kind = 0 then (if k < l.length then (k + 1, 0) else (k, 5))
  else if a.kind = 1 then (rdU l k a.most.toNat).2
  else if a.kind = 2 then (rdU l k 18446744073709551615).2
  else if a.kind = 3 then (rdB l k a.many).2
  else if a.kind = 4 then (k, if a.ok then 0 else a.er.toNat % 18)
  else (k, 0)

theorem Mdl.setVar {w : World} {m : Nat} {v : Value} {l : List UInt8} {k x : Nat} (h : Mdl w m v l k x) {p : Addr} (hp : p.block ≠ m) (hv : ∀ i, i < l.length → (adr v i).block ≠ p.block) (u : Value) : Mdl (w.setCell p u) m v l k x :=
  h.same (Below.heap_setCell _ _ _ _ (fun e => hp e.symm)) fun i hi => Below.heap_setCell _ _ _ _ (hv i hi)

theorem Rdr.only {S : Nat → Prop} {w w' : World} {g : Nat} {v : Value} {l : List UInt8} {k : Nat} (h : Rdr w g v l k) (hO : Only S w w') (hg : ¬ S g) (hS : ∀ i, i < l.length → ¬ S (adr v i).block) : Rdr w' g v l k :=
  h.same (hO.block _ h.lt hg) fun i hi => hO.block _ (h.rd.block hi) (hS i hi)
theorem rdB_no {l : List UInt8} {k : Nat} {most : Int} (h : (rdB l k most).2.2 ≠ 0) : (rdB l k most).2.1 = k := by
  unfold rdB at h ⊢
  split
  · rfl
  · rename_i h1; rw [if_neg h1] at h; exact absurd rfl h
theorem rdB_len (l : List UInt8) (k : Nat) (most : Int) : (rdB l k most).1.length ≤ l.length := by
  unfold rdB
  split
  · simp
  · unfold getB
    dsimp only
    split
    · simp
    · split
      · simp
      · split
        · simp
        · simp; omega

theorem cellR {gb b : Nat} {w : World} {u : Value} {t : TypeId} (h : w.heap[b]? = some (.cells #[u] t (0, 0))) (hne : b ≠ gb) : ∀ x : OrdR.GW (Only (fun j => j = gb)) w, x.val.cell? ⟨b, 0, none⟩ = some u := fun x => cell_of_one (x.grew.keep h hne)
theorem mdlR1 {gb m : Nat} {w : World} {v : Value} {l : List UInt8} {k x : Nat} (h : Mdl w m v l k x) (hne : m ≠ gb) : ∀ y : OrdR.GW (Only (fun j => j = gb)) w, y.val.cell? ⟨m, 1, none⟩ = some (.int .i64 k) := fun y => by
  rw [cell_of_row _ _ _ _ _ _ (y.grew.keep h.blk hne)]; rfl
theorem mdlR2 {gb m : Nat} {w : World} {v : Value} {l : List UInt8} {k x : Nat} (h : Mdl w m v l k x) (hne : m ≠ gb) : ∀ y : OrdR.GW (Only (fun j => j = gb)) w, y.val.cell? ⟨m, 2, none⟩ = some (.int .i64 x) := fun y => by
  rw [cell_of_row _ _ _ _ _ _ (y.grew.keep h.blk hne)]; rfl

theorem new_cell {w : World} {t : TypeId} {c : Array Value} {i : Nat} {u : Value} {b : Nat} (h : w.heap[b]? = some (.cells c t (0, 0))) (hu : c[i]? = some u) : w.cell? ⟨b, i, none⟩ = some u := by rw [cell_of_row _ _ _ _ _ _ h, hu]

set_option maxHeartbeats 8000000 in
set_option maxRecDepth 20000 in
theorem acts1 (gb lb db pb bb ob mb g : Nat) (vl v : Value) (cl : List Call5) (l : List UInt8) (w : World)
    (hG : w.heap[gb]? = some (.cells #[.bool true] 4 (0, 0))) (hL : w.heap[lb]? = some (.cells #[vl] 23 (0, 0))) (hD : w.heap[db]? = some (.cells #[.int .i64 0] 3 (0, 0))) (hP : w.heap[pb]? = some (.cells #[.pointer (some ⟨mb, 0, none⟩)] 25 (0, 0)))
    (hB : w.heap[bb]? = some (.cells #[v] 22 (0, 0))) (hO : w.heap[ob]? = some (.cells #[.bool false] 4 (0, 0))) (hA : RdA w vl cl) (hM : Mdl w mb v l 0 0) (hR : Rdr w g v l 0)
    (hd : (gb < g ∧ lb < g ∧ db < g ∧ pb < g ∧ bb < g ∧ ob < g ∧ mb < g) ∧ db ≠ gb ∧ ob ≠ gb ∧ ob ≠ db ∧ mb ≠ gb ∧ mb ≠ db ∧ mb ≠ ob ∧ (lb ≠ mb ∧ lb ≠ gb ∧ lb ≠ db) ∧ (pb ≠ mb ∧ pb ≠ gb ∧ pb ≠ db) ∧ (bb ≠ mb ∧ bb ≠ gb ∧ bb ≠ db))
    (hbv : ∀ i, i < l.length → (adr v i).block ≠ gb ∧ (adr v i).block ≠ db ∧ (adr v i).block ≠ ob) (hbA : ∀ i, i < cl.length → (adr vl (i * 5)).block ≠ g ∧ (adr vl (i * 5)).block ≠ mb ∧ (adr vl (i * 5)).block ≠ gb ∧ (adr vl (i * 5)).block ≠ db) :
    Calls Try.prog 10 (#[.pointer (some ⟨g, 0, none⟩)] ++ #[.pointer (some ⟨gb, 0, none⟩), .pointer (some ⟨lb, 0, none⟩), .pointer (some ⟨db, 0, none⟩), .pointer (some ⟨pb, 0, none⟩), .pointer (some ⟨bb, 0, none⟩), .pointer (some ⟨ob, 0, none⟩)]) w fun e w' =>
      Only (fun j => j = g ∨ j = mb ∨ j = gb ∨ j = db ∨ j = ob) w w' ∧ w'.heap[gb]? = some (.cells #[.bool true] 4 (0, 0)) ∧ ∃ k x, Went g v l k x e w' ∧ Mdl w' mb v l k 0 ∧
        ((x = 0 ∧ w'.heap[ob]? = some (.cells #[.bool true] 4 (0, 0)) ∧ w'.heap[db]? = some (.cells #[.int .i64 (cl.length : Int)] 3 (0, 0))) ∨
         (x ≠ 0 ∧ w'.heap[ob]? = some (.cells #[.bool false] 4 (0, 0)) ∧ ∃ j, j < cl.length ∧ w'.heap[db]? = some (.cells #[.int .i64 ((j + 1 : Nat) : Int)] 3 (0, 0)) ∧ actKX l k (cl.getD j default) = (k, x))) := by
  obtain ⟨⟨g1, g2, g3, g4, g5, g6, g7⟩, d1, d2, d3, d4, d5, d6, ⟨l1, l2, l3⟩, ⟨p1, p2, p3⟩, b1, b2, b3⟩ := hd
  have hway := way_only (fun j => j = gb)
  have hlen := hA.len
  have hidx := hA.idx
  have hsm := hA.small
  have hvl := hM.rd.len
  have hsmv := hM.rd.small
  have L0 := cell_of_one hL
  have HLB := Lib.hid hL
  have HPB := Lib.hid hP
  have HBB := Lib.hid hB
  have HOB := Lib.hid hO
  have HA := Lib.hid hA
  have HBV := Lib.hid hbv
  have HBA := Lib.hid hbA
  clear hL hP hB hO hA hbv hbA
  go_enter Try.func10, Try.ntmps10
  go_wp2
  go_loopw [18] (fun i wr => ∃ j q : Nat, j ≤ cl.length ∧ i = .int .i64 j ∧ Hid (Rdr wr g v l q) ∧ Hid (Mdl wr mb v l q 0) ∧ Hid (wr.heap[gb]? = some (.cells #[.bool true] 4 (0, 0))) ∧ Hid (wr.heap[db]? = some (.cells #[.int .i64 (j : Int)] 3 (0, 0))) ∧ Hid (Only (fun j => j = g ∨ j = mb ∨ j = gb ∨ j = db) w wr)) (fun i _ => cl.length - (intOf i).toNat)
  case atStart => exact ⟨0, 0, by omega, rfl, Lib.hid hR, Lib.hid hM, Lib.hid hG, Lib.hid hD, Lib.hid (Only.refl _ _)⟩
  case round =>
    clear hG hD hM hR L0
    obtain ⟨j, k, hj, rfl, HR, HM, HG, HD, HO⟩ := hrel
    by_cases hlt : j < cl.length
    · have hAr := HA.out.same (w' := wr) (fun i hi => HO.out.block _ (HA.out.block hi) (by have := HBA.out i hi; omega))
      obtain ⟨ab, ao, hadr, hcs⟩ := hAr.at hlt
      have hwf := hAr.wf j hlt
      have D0 := cell_of_one HD.out
      have D1 := free_of_one HD.out
      rcases hcj : cl.getD j default with ⟨kind, many, most, ok, er⟩
      rw [hcj] at hcs hwf
      have HC := Lib.hid hcj
      obtain ⟨⟨wk0, wk1⟩, ⟨wm0, wm1⟩, ⟨wt0, wt1⟩, we0, we1⟩ := hwf
      dsimp only at wk0 wk1 wm0 wm1 wt0 wt1 we0 we1
      have hc0 : wr.cell? ⟨ab, ao, none⟩ = some (.int .i64 kind) := hcs 0 _ rfl
      have hc1 : wr.cell? ⟨ab, ao + 1, none⟩ = some (.int .i64 many) := hcs 1 _ rfl
      have hc2 : wr.cell? ⟨ab, ao + 2, none⟩ = some (.int .u64 most) := hcs 2 _ rfl
      have hc3 : wr.cell? ⟨ab, ao + 3, none⟩ = some (.bool ok) := hcs 3 _ rfl
      have hc4 : wr.cell? ⟨ab, ao + 4, none⟩ = some (.int .u8 er) := hcs 4 _ rfl
      have hlb : db < wr.heap.size := (Array.getElem?_eq_some_iff.1 HD.out).1
      clear hcj hAr hcs
      obtain ⟨mo, rfl⟩ := Int.eq_ofNat_of_zero_le wt0
      obtain ⟨en, rfl⟩ := Int.eq_ofNat_of_zero_le we0
      have hgl := HR.out.lt
      have hdv : ∀ i, i < l.length → (adr v i).block ≠ db := fun i hi => (HBV.out i hi).2.1
      have hszq : (wr.setCell ⟨db, 0, none⟩ (.int .i64 ((j : Int) + 1))).heap.size = wr.heap.size := by simp [World.setCell]
      have hbq : Below wr.heap.size (wr.setCell ⟨db, 0, none⟩ (.int .i64 ((j : Int) + 1))) ((wr.setCell ⟨db, 0, none⟩ (.int .i64 ((j : Int) + 1))).alloc (.cells #[.int .i64 kind, .int .i64 many, .int .u64 (mo : Int), .bool ok, .int .u8 (en : Int)] 34)) := (Below.refl _ _).alloc (by omega) _
      have HR1 := Lib.hid ((HR.out.setVar (p := ⟨db, 0, none⟩) (by show db ≠ g; omega) hdv (.int .i64 ((j : Int) + 1))).later hbq (by omega))
      have HM1 := Lib.hid ((HM.out.setVar (p := ⟨db, 0, none⟩) (by show db ≠ mb; omega) hdv (.int .i64 ((j : Int) + 1))).later hbq (by omega))
      have HO1 := Lib.hid ((HO.out.setCell (p := ⟨db, 0, none⟩) (.inr (.inr (.inr rfl))) (.int .i64 ((j : Int) + 1))).below hbq (by omega))
      have HG1 := Lib.hid ((hbq.block gb (by have := (Array.getElem?_eq_some_iff.1 HG.out).1; omega)).trans ((Below.heap_setCell wr ⟨db, 0, none⟩ (.int .i64 ((j : Int) + 1)) gb (by show gb ≠ db; omega)).trans HG.out))
      have HD1 : Hid (((wr.setCell ⟨db, 0, none⟩ (.int .i64 ((j : Int) + 1))).alloc (.cells #[.int .i64 kind, .int .i64 many, .int .u64 (mo : Int), .bool ok, .int .u8 (en : Int)] 34)).heap[db]? = some (.cells #[.int .i64 ((j + 1 : Nat) : Int)] 3 (0, 0))) := Lib.hid ((hbq.block db (by omega)).trans (by rw [show ((j + 1 : Nat) : Int) = (j : Int) + 1 from by omega]; exact one_setCell HD.out))
      have HC1 : Hid (((wr.setCell ⟨db, 0, none⟩ (.int .i64 ((j : Int) + 1))).alloc (.cells #[.int .i64 kind, .int .i64 many, .int .u64 (mo : Int), .bool ok, .int .u8 (en : Int)] 34)).heap[wr.heap.size]? = some (.cells #[.int .i64 kind, .int .i64 many, .int .u64 (mo : Int), .bool ok, .int .u8 (en : Int)] 34 (0, 0))) := Lib.hid (by rw [← hszq]; exact heap_alloc_new _ _)
      obtain ⟨mm, hmm⟩ : ∃ mm, mm = en % 18 := ⟨_, rfl⟩
      have hmod : (en : Int) % 18 = (mm : Int) := by omega
      have hmm1 : mm < 18 := by omega
      have HMM := Lib.hid hmm
      clear hbq hszq HR HM HG HD HO hmm
      by_cases h0 : kind = 0
      · subst h0
        obtain ⟨xv, hxv⟩ : ∃ xv, (if k < l.length then at8 l k else 0) = xv := ⟨_, rfl⟩
        obtain ⟨K, hK⟩ : ∃ K, (if k < l.length then k + 1 else k) = K := ⟨_, rfl⟩
        obtain ⟨X, hX⟩ : ∃ X, (if k < l.length then 0 else 5) = X := ⟨_, rfl⟩
        have HV := Lib.hid hxv
        have HK := Lib.hid hK
        have HX := Lib.hid hX
        have HNO := Lib.hid (show X ≠ 0 → K = k from fun h => by rw [← hX] at h; rw [← hK]; by_cases hk : k < l.length <;> simp_all)
        have HE := Lib.hid (show actKX l k ⟨0, many, mo, ok, en⟩ = (K, X) by rw [← hK, ← hX]; unfold actKX; dsimp only; rw [if_pos rfl]; split <;> rfl)
        clear hxv hK hX
        go_wp2_with fail
        generalize (wr.setCell ⟨db, 0, none⟩ (.int .i64 ((j : Int) + 1))).alloc (.cells #[.int .i64 0, .int .i64 many, .int .u64 (mo : Int), .bool ok, .int .u8 (en : Int)] 34) = wq at HR1 HM1 HO1 HG1 HD1 HC1 ⊢
        clear hc0 hc1 hc2 hc3 hc4 D0 D1
        refine (reader_Byte _ _ _ _ _ HR1.out).mono ?_
        rintro e w1 h
        rw [HV.out, HK.out, HX.out] at h
        have hA1 : Only (fun j => j = g) wq w1 := (Only.refl _ _).grown h.1 rfl
        have hM2 := HM1.out.only hA1 (by omega) (fun i hi => HR1.out.off i hi)
        have hP2 := hA1.keep (HO1.out.keep HPB.out (by omega)) (by omega)
        have hB2 := hA1.keep (HO1.out.keep HBB.out (by omega)) (by omega)
        have hOb2 := hA1.keep (HO1.out.keep HOB.out (by omega)) (by omega)
        have hG2 := hA1.keep HG1.out (by omega)
        have hD2 := hA1.keep HD1.out (by omega)
        have hC2 := hA1.keep HC1.out (by omega)
        have hO2 := HO1.out.trans (hA1.mono (fun j hj => .inl hj))
        by_cases hx : X = 0
        · obtain ⟨rfl, hg1, hR2⟩ := h.ok hx
          have P0 := cell_of_one hP2
          have QM2 := Lib.hid hM2
          have QP2 := Lib.hid hP2
          have QB2 := Lib.hid hB2
          have QG2 := Lib.hid hG2
          have QD2 := Lib.hid hD2
          have QO2 := Lib.hid hO2
          have QR2 := Lib.hid hR2
          clear h hg1 hA1 hM2 hP2 hB2 hOb2 hG2 hD2 hC2 hO2 hR2 HR1 HM1 HO1 HG1 HD1 HC1
          go_wp2_with fail
          refine (model_Byte _ _ _ _ _ QM2.out).mono ?_
          rintro e w2 h
          rw [HV.out, HK.out, HX.out] at h
          obtain ⟨rfl, hg2, hM3⟩ := h
          rw [hx] at hM3
          have hA2 : Only (fun j => j = mb) w1 w2 := (Only.refl _ _).grown hg2 rfl
          have hR3 := QR2.out.only hA2 (by omega) (fun i hi => QM2.out.off i hi)
          have hP3 := hA2.keep QP2.out (by omega)
          have hB3 := hA2.keep QB2.out (by omega)
          have hG3 := hA2.keep QG2.out (by omega)
          have hD3 := hA2.keep QD2.out (by omega)
          have hO3 := QO2.out.trans (hA2.mono (fun j hj => .inr (.inl hj)))
          have G0 := cell_of_one hG3
          have G1 := free_of_one hG3
          have hR9 := hR3.setVar (p := ⟨gb, 0, none⟩) (by show gb ≠ g; omega) (fun i hi => (HBV.out i hi).1) (.bool true)
          have hM9 := hM3.setVar (p := ⟨gb, 0, none⟩) (by show gb ≠ mb; omega) (fun i hi => (HBV.out i hi).1) (.bool true)
          have hG9 := one_setCell (u := .bool true) hG3
          have hO9 := hO3.setCell (p := ⟨gb, 0, none⟩) (.inr (.inr (.inl rfl))) (.bool true)
          have hP9 := (Below.heap_setCell w2 ⟨gb, 0, none⟩ (.bool true) pb (by show pb ≠ gb; omega)).trans hP3
          have hB9 := (Below.heap_setCell w2 ⟨gb, 0, none⟩ (.bool true) bb (by show bb ≠ gb; omega)).trans hB3
          have hD9 := (Below.heap_setCell w2 ⟨gb, 0, none⟩ (.bool true) db (by show db ≠ gb; omega)).trans hD3
          have qR9 := Lib.hid hR9
          have qM9 := Lib.hid hM9
          have qG9 := Lib.hid hG9
          have qO9 := Lib.hid hO9
          have qP9 := Lib.hid hP9
          have qB9 := Lib.hid hB9
          have qD9 := Lib.hid hD9
          clear hA2 hR3 hM3 hP3 hB3 hG3 hD3 hO3 hg2 QM2 QP2 QB2 QG2 QD2 QO2 QR2 P0 hR9 hM9 hG9 hO9 hP9 hB9 hD9
          go_wp2_with fail
          generalize w2.setCell ⟨gb, 0, none⟩ (.bool true) = wx at qR9 qM9 qG9 qO9 qP9 qB9 qD9 ⊢
          clear G0 G1
          have hR9 := qR9.out
          have hM9 := qM9.out
          have hG9 := qG9.out
          have hO9 := qO9.out
          have hP9 := qP9.out
          have hB9 := qB9.out
          have hD9 := qD9.out
          clear qR9 qM9 qG9 qO9 qP9 qB9 qD9
          obtain ⟨XP, XB, XM, XR, XG, XO, XD⟩ : wx.drew.heap[pb]? = some (.cells #[.pointer (some ⟨mb, 0, none⟩)] 25 (0, 0)) ∧ wx.drew.heap[bb]? = some (.cells #[v] 22 (0, 0)) ∧ Mdl wx.drew mb v l K 0 ∧ Rdr wx.drew g v l K ∧ wx.drew.heap[gb]? = some (.cells #[.bool true] 4 (0, 0)) ∧ Only (fun j => j = g ∨ j = mb ∨ j = gb ∨ j = db) w wx.drew ∧ wx.drew.heap[db]? = some (.cells #[.int .i64 ((j + 1 : Nat) : Int)] 3 (0, 0)) :=
            ⟨hP9, hB9, hM9.drew, hR9.drew, hG9, hO9.drew, hD9⟩
          have Xp := cellR (gb := gb) (show wx.drew.heap[pb]? = _ from XP) (by omega)
          have X1 := mdlR1 (gb := gb) XM (by omega)
          have X2 := mdlR2 (gb := gb) XM (by omega)
          have Xb := cellR (gb := gb) (show wx.drew.heap[bb]? = _ from XB) (by omega)
          have XG0 := cell_of_one XG
          have hsub : (l.length : Int) - (K : Int) = ((l.length - K : Nat) : Int) := by have := hM9.le; omega
          clear hP9 hB9 hM9 hR9 hG9 hO9 hD9
          refine OrdR.wp_region_ord hway [(0, true), (1, false), (2, false), (4, false), (5, false), (6, false), (7, false), (3, true), (8, false), (9, false), (10, false), (11, false), (13, false), (14, false), (15, false), (16, false), (17, false), (18, false), (19, false), (12, true), (20, false), (21, false), (22, false), (23, false), (24, false), (25, false), (26, false), (27, false), (28, false), (29, true)] (by kernel_rfl) rfl (by kernel_rfl) (by kernel_rfl) (fun _ _ _ d _ h => by cases d <;> exact h) ?_
          refine OrdR.ord_loud rfl (by kernel_rfl) (fun K hK => ?_)
          go_big_op
          refine hK _ _ (hway.refl _) ?_
          clear hK K
          refine OrdR.ord_still rfl rfl (by kernel_rfl) (fun K hK => ?_)
          go_big_quiet_op
          refine hK _ ?_; clear hK K
          refine OrdR.ord_still rfl rfl (by kernel_rfl) (fun K hK => ?_)
          go_big_quiet_op
          refine hK _ ?_; clear hK K
          refine OrdR.ord_still rfl rfl (by kernel_rfl) (fun K hK => ?_)
          go_big_quiet_op
          refine hK _ ?_; clear hK K
          refine OrdR.ord_still rfl rfl (by kernel_rfl) (fun K hK => ?_)
          go_big_quiet_op
          refine hK _ ?_; clear hK K
          refine OrdR.ord_still rfl rfl (by kernel_rfl) (fun K hK => ?_)
          go_big_quiet_op
          refine hK _ ?_; clear hK K
          refine OrdR.ord_still rfl rfl (by kernel_rfl) (fun K hK => ?_)
          go_big_quiet_op
          refine hK _ ?_; clear hK K
          refine OrdR.ord_loud rfl (by kernel_rfl) (fun K hK => ?_)
          go_big_op
          refine (reader_At _ _ _ _ _ XR).mono ?_
          rintro e w3 ⟨rfl, hb3⟩
          have YP := (hb3.block _ (Array.getElem?_eq_some_iff.1 XP).1).trans XP
          have YB := (hb3.block _ (Array.getElem?_eq_some_iff.1 XB).1).trans XB
          have YM := XM.later hb3 (Nat.le_refl _)
          have YR := XR.later hb3 (Nat.le_refl _)
          have YG := (hb3.block _ (Array.getElem?_eq_some_iff.1 XG).1).trans XG
          have YD := (hb3.block _ (Array.getElem?_eq_some_iff.1 XD).1).trans XD
          have YO := XO.below hb3 (Nat.le_refl _)
          have Yp := cellR (gb := gb) (show w3.heap[pb]? = _ from YP) (by omega)
          have Y1 := mdlR1 (gb := gb) YM (by omega)
          have Y2 := mdlR2 (gb := gb) YM (by omega)
          have Yb := cellR (gb := gb) (show w3.heap[bb]? = _ from YB) (by omega)
          clear Xp X1 X2 Xb XP XB XM XR XG XO XD XG0
          refine hK _ _ ((Only.refl _ _).below hb3 (Nat.le_refl _)) ?_
          clear hb3
          clear hK K
          refine OrdR.ord_still rfl rfl (by kernel_rfl) (fun K hK => ?_)
          go_big_quiet_op
          refine hK _ ?_; clear hK K
          refine OrdR.ord_still rfl rfl (by kernel_rfl) (fun K hK => ?_)
          go_big_quiet_op
          refine hK _ ?_; clear hK K
          refine OrdR.ord_still rfl rfl (by kernel_rfl) (fun K hK => ?_)
          go_big_quiet_op
          refine hK _ ?_; clear hK K
          refine OrdR.ord_still rfl rfl (by kernel_rfl) (fun K hK => ?_)
          go_big_quiet_op
          refine hK _ ?_; clear hK K
          refine OrdR.ord_still rfl rfl (by kernel_rfl) (fun K hK => ?_)
          go_big_quiet_op
          refine hK _ ?_; clear hK K
          refine OrdR.ord_still rfl rfl (by kernel_rfl) (fun K hK => ?_)
          go_big_quiet_op
          refine hK _ ?_; clear hK K
          refine OrdR.ord_still rfl rfl (by kernel_rfl) (fun K hK => ?_)
          go_big_quiet_op
          refine hK _ ?_; clear hK K
          refine OrdR.ord_still rfl rfl (by kernel_rfl) (fun K hK => ?_)
          go_big_quiet_op
          refine hK _ ?_; clear hK K
          refine OrdR.ord_still rfl rfl (by kernel_rfl) (fun K hK => ?_)
          go_big_quiet_op
          refine hK _ ?_; clear hK K
          refine OrdR.ord_still rfl rfl (by kernel_rfl) (fun K hK => ?_)
          go_big_quiet_op
          refine hK _ ?_; clear hK K
          refine OrdR.ord_still rfl rfl (by kernel_rfl) (fun K hK => ?_)
          go_big_quiet_op
          refine hK _ ?_; clear hK K
          refine OrdR.ord_loud rfl (by kernel_rfl) (fun K hK => ?_)
          go_big_op
          refine (reader_Left _ _ _ _ _ YR).mono ?_
          rintro e w4 ⟨rfl, hb4⟩
          have ZP := (hb4.block _ (Array.getElem?_eq_some_iff.1 YP).1).trans YP
          have ZB := (hb4.block _ (Array.getElem?_eq_some_iff.1 YB).1).trans YB
          have ZM := YM.later hb4 (Nat.le_refl _)
          have ZR := YR.later hb4 (Nat.le_refl _)
          have ZG := (hb4.block _ (Array.getElem?_eq_some_iff.1 YG).1).trans YG
          have ZD := (hb4.block _ (Array.getElem?_eq_some_iff.1 YD).1).trans YD
          have ZO := YO.below hb4 (Nat.le_refl _)
          have Zp := cellR (gb := gb) (show w4.heap[pb]? = _ from ZP) (by omega)
          have Z1 := mdlR1 (gb := gb) ZM (by omega)
          have Z2 := mdlR2 (gb := gb) ZM (by omega)
          have Zb := cellR (gb := gb) (show w4.heap[bb]? = _ from ZB) (by omega)
          have G0 := cell_of_one ZG
          have G1 := free_of_one ZG
          clear Yp Y1 Y2 Yb YP YB YM YR YG YO YD
          refine hK _ _ ((Only.refl _ _).below hb4 (Nat.le_refl _)) ?_
          clear hb4
          clear hK K
          refine OrdR.ord_still rfl rfl (by kernel_rfl) (fun K hK => ?_)
          go_big_quiet_op
          refine hK _ ?_; clear hK K
          refine OrdR.ord_still rfl rfl (by kernel_rfl) (fun K hK => ?_)
          go_big_quiet_op
          refine hK _ ?_; clear hK K
          refine OrdR.ord_still rfl rfl (by kernel_rfl) (fun K hK => ?_)
          go_big_quiet_op
          refine hK _ ?_; clear hK K
          refine OrdR.ord_still rfl rfl (by kernel_rfl) (fun K hK => ?_)
          go_big_quiet_op
          refine hK _ ?_; clear hK K
          refine OrdR.ord_still rfl rfl (by kernel_rfl) (fun K hK => ?_)
          go_big_quiet_op
          refine hK _ ?_; clear hK K
          refine OrdR.ord_still rfl rfl (by kernel_rfl) (fun K hK => ?_)
          go_big_quiet_op
          refine hK _ ?_; clear hK K
          refine OrdR.ord_still rfl rfl (by kernel_rfl) (fun K hK => ?_)
          go_big_quiet_op
          refine hK _ ?_; clear hK K
          refine OrdR.ord_still rfl rfl (by kernel_rfl) (fun K hK => ?_)
          go_big_quiet_op
          refine hK _ ?_; clear hK K
          refine OrdR.ord_still rfl rfl (by kernel_rfl) (fun K hK => ?_)
          go_big_quiet_op
          refine hK _ ?_; clear hK K
          refine OrdR.ord_loud rfl (by kernel_rfl) (fun K hK => ?_)
          go_big_op
          refine hK _ _ (Only.setCell (S := fun j => j = gb) (Only.refl _ _) (p := ⟨gb, 0, none⟩) rfl _) ?_
          clear hK K
          refine OrdR.ord_nil ?_
          have HD2 := Lib.hid ((Below.heap_setCell w4 ⟨gb, 0, none⟩ (.bool true) db (by show db ≠ gb; omega)).trans ZD)
          have HR2 := Lib.hid (ZR.setVar (p := ⟨gb, 0, none⟩) (by show gb ≠ g; omega) (fun i hi => (HBV.out i hi).1) (.bool true))
          have HM2 := Lib.hid (ZM.setVar (p := ⟨gb, 0, none⟩) (by show gb ≠ mb; omega) (fun i hi => (HBV.out i hi).1) (.bool true))
          have HG2 := Lib.hid (one_setCell (u := .bool true) ZG)
          have HO2 := Lib.hid (ZO.setCell (p := ⟨gb, 0, none⟩) (.inr (.inr (.inl rfl))) (.bool true))
          clear Zp Z1 Z2 Zb ZP ZB ZM ZR ZG ZO ZD G0 G1
          go_wp2
          go_roundw
          case rel => exact ⟨j + 1, K, by omega, by go_num, HR2, HM2, HG2, HD2, HO2⟩
          case measure => simp [intOf]; omega
        · obtain ⟨rfl, hg1, hE2⟩ := h.no hx
          rw [HNO.out hx] at hE2
          have hE := HE.out
          rw [HNO.out hx] at hE
          have H1 := Lib.hid hM2
          have H2 := Lib.hid hOb2
          have H3 := Lib.hid hD2
          have H4 := Lib.hid hG2
          have H5 := Lib.hid hO2
          have H6 := Lib.hid hE2
          have H7 := Lib.hid hE
          clear h hA1 hM2 hP2 hB2 hOb2 hG2 hD2 hC2 hO2 hE2 hE
          go_wp2
          exact ⟨rfl, H5.out.mono (fun j hj => by omega), H4.out, k, X, .inr ⟨hx, rfl, H6.out⟩, H1.out, .inr ⟨hx, H2.out, j, hlt, H3.out, by rw [HC.out]; exact H7.out⟩⟩
      · by_cases h1 : kind = 1
        · subst h1
          rcases hr : rdU l k mo with ⟨xv, K, X⟩
          have HU := Lib.hid hr
          have HNO := Lib.hid (show X ≠ 0 → K = k from fun h => by have := (rdU_no (l := l) (k := k) (most := mo) (by rw [hr]; exact h)).2.1; rw [hr] at this; exact this)
          have HE := Lib.hid (show actKX l k ⟨1, many, mo, ok, en⟩ = (K, X) by unfold actKX; dsimp only; rw [if_neg (by decide), if_pos rfl, show ((mo : Int)).toNat = mo from by omega, hr])
          clear hr
          go_wp2_with fail
          generalize (wr.setCell ⟨db, 0, none⟩ (.int .i64 ((j : Int) + 1))).alloc (.cells #[.int .i64 1, .int .i64 many, .int .u64 (mo : Int), .bool ok, .int .u8 (en : Int)] 34) = wq at HR1 HM1 HO1 HG1 HD1 HC1 ⊢
          clear hc0 hc1 hc2 hc3 hc4 D0 D1
          refine (reader_Uint _ _ _ _ _ HR1.out mo (by omega)).mono ?_
          rintro e w1 h
          rw [HU.out] at h
          dsimp only at h
          have hA1 : Only (fun j => j = g) wq w1 := (Only.refl _ _).grown h.1 rfl
          have hM2 := HM1.out.only hA1 (by omega) (fun i hi => HR1.out.off i hi)
          have hP2 := hA1.keep (HO1.out.keep HPB.out (by omega)) (by omega)
          have hB2 := hA1.keep (HO1.out.keep HBB.out (by omega)) (by omega)
          have hOb2 := hA1.keep (HO1.out.keep HOB.out (by omega)) (by omega)
          have hG2 := hA1.keep HG1.out (by omega)
          have hD2 := hA1.keep HD1.out (by omega)
          have hC2 := hA1.keep HC1.out (by omega)
          have hO2 := HO1.out.trans (hA1.mono (fun j hj => .inl hj))
          by_cases hx : X = 0
          · obtain ⟨rfl, hg1, hR2⟩ := h.ok hx
            have P0 := cell_of_one hP2
            have C1 := new_cell (i := 1) hC2 rfl
            have C2 := new_cell (i := 2) hC2 rfl
            have C3 := new_cell (i := 3) hC2 rfl
            have C4 := new_cell (i := 4) hC2 rfl
            have QM2 := Lib.hid hM2
            have QP2 := Lib.hid hP2
            have QB2 := Lib.hid hB2
            have QG2 := Lib.hid hG2
            have QD2 := Lib.hid hD2
            have QO2 := Lib.hid hO2
            have QR2 := Lib.hid hR2
            clear h hg1 hA1 hM2 hP2 hB2 hOb2 hG2 hD2 hC2 hO2 hR2 HR1 HM1 HO1 HG1 HD1 HC1
            go_wp2_with fail
            refine (model_Uint _ _ _ _ _ QM2.out mo (by omega)).mono ?_
            rintro e w2 h
            rw [HU.out] at h
            dsimp only at h
            obtain ⟨rfl, hg2, hM3⟩ := h
            rw [hx] at hM3
            have hA2 : Only (fun j => j = mb) w1 w2 := (Only.refl _ _).grown hg2 rfl
            have hR3 := QR2.out.only hA2 (by omega) (fun i hi => QM2.out.off i hi)
            have hP3 := hA2.keep QP2.out (by omega)
            have hB3 := hA2.keep QB2.out (by omega)
            have hG3 := hA2.keep QG2.out (by omega)
            have hD3 := hA2.keep QD2.out (by omega)
            have hO3 := QO2.out.trans (hA2.mono (fun j hj => .inr (.inl hj)))
            have G0 := cell_of_one hG3
            have G1 := free_of_one hG3
            have hR9 := hR3.setVar (p := ⟨gb, 0, none⟩) (by show gb ≠ g; omega) (fun i hi => (HBV.out i hi).1) (.bool true)
            have hM9 := hM3.setVar (p := ⟨gb, 0, none⟩) (by show gb ≠ mb; omega) (fun i hi => (HBV.out i hi).1) (.bool true)
            have hG9 := one_setCell (u := .bool true) hG3
            have hO9 := hO3.setCell (p := ⟨gb, 0, none⟩) (.inr (.inr (.inl rfl))) (.bool true)
            have hP9 := (Below.heap_setCell w2 ⟨gb, 0, none⟩ (.bool true) pb (by show pb ≠ gb; omega)).trans hP3
            have hB9 := (Below.heap_setCell w2 ⟨gb, 0, none⟩ (.bool true) bb (by show bb ≠ gb; omega)).trans hB3
            have hD9 := (Below.heap_setCell w2 ⟨gb, 0, none⟩ (.bool true) db (by show db ≠ gb; omega)).trans hD3
            have qR9 := Lib.hid hR9
            have qM9 := Lib.hid hM9
            have qG9 := Lib.hid hG9
            have qO9 := Lib.hid hO9
            have qP9 := Lib.hid hP9
            have qB9 := Lib.hid hB9
            have qD9 := Lib.hid hD9
            clear hA2 hR3 hM3 hP3 hB3 hG3 hD3 hO3 hg2 QM2 QP2 QB2 QG2 QD2 QO2 QR2 P0 hR9 hM9 hG9 hO9 hP9 hB9 hD9
            go_wp2_with fail
            generalize w2.setCell ⟨gb, 0, none⟩ (.bool true) = wx at qR9 qM9 qG9 qO9 qP9 qB9 qD9 ⊢
            clear G0 G1
            have hR9 := qR9.out
            have hM9 := qM9.out
            have hG9 := qG9.out
            have hO9 := qO9.out
            have hP9 := qP9.out
            have hB9 := qB9.out
            have hD9 := qD9.out
            clear qR9 qM9 qG9 qO9 qP9 qB9 qD9 C1 C2 C3 C4
            obtain ⟨XP, XB, XM, XR, XG, XO, XD⟩ : wx.drew.heap[pb]? = some (.cells #[.pointer (some ⟨mb, 0, none⟩)] 25 (0, 0)) ∧ wx.drew.heap[bb]? = some (.cells #[v] 22 (0, 0)) ∧ Mdl wx.drew mb v l K 0 ∧ Rdr wx.drew g v l K ∧ wx.drew.heap[gb]? = some (.cells #[.bool true] 4 (0, 0)) ∧ Only (fun j => j = g ∨ j = mb ∨ j = gb ∨ j = db) w wx.drew ∧ wx.drew.heap[db]? = some (.cells #[.int .i64 ((j + 1 : Nat) : Int)] 3 (0, 0)) :=
              ⟨hP9, hB9, hM9.drew, hR9.drew, hG9, hO9.drew, hD9⟩
            have Xp := cellR (gb := gb) (show wx.drew.heap[pb]? = _ from XP) (by omega)
            have X1 := mdlR1 (gb := gb) XM (by omega)
            have X2 := mdlR2 (gb := gb) XM (by omega)
            have Xb := cellR (gb := gb) (show wx.drew.heap[bb]? = _ from XB) (by omega)
            have XG0 := cell_of_one XG
            have hsub : (l.length : Int) - (K : Int) = ((l.length - K : Nat) : Int) := by have := hM9.le; omega
            clear hP9 hB9 hM9 hR9 hG9 hO9 hD9
            refine OrdR.wp_region_ord hway [(0, true), (1, false), (2, false), (4, false), (5, false), (6, false), (7, false), (3, true), (8, false), (9, false), (10, false), (11, false), (13, false), (14, false), (15, false), (16, false), (17, false), (18, false), (19, false), (12, true), (20, false), (21, false), (22, false), (23, false), (24, false), (25, false), (26, false), (27, false), (28, false), (29, true)] (by kernel_rfl) rfl (by kernel_rfl) (by kernel_rfl) (fun _ _ _ d _ h => by cases d <;> exact h) ?_
            refine OrdR.ord_loud rfl (by kernel_rfl) (fun K hK => ?_)
            go_big_op
            refine hK _ _ (hway.refl _) ?_
            clear hK K
            refine OrdR.ord_still rfl rfl (by kernel_rfl) (fun K hK => ?_)
            go_big_quiet_op
            refine hK _ ?_; clear hK K
            refine OrdR.ord_still rfl rfl (by kernel_rfl) (fun K hK => ?_)
            go_big_quiet_op
            refine hK _ ?_; clear hK K
            refine OrdR.ord_still rfl rfl (by kernel_rfl) (fun K hK => ?_)
            go_big_quiet_op
            refine hK _ ?_; clear hK K
            refine OrdR.ord_still rfl rfl (by kernel_rfl) (fun K hK => ?_)
            go_big_quiet_op
            refine hK _ ?_; clear hK K
            refine OrdR.ord_still rfl rfl (by kernel_rfl) (fun K hK => ?_)
            go_big_quiet_op
            refine hK _ ?_; clear hK K
            refine OrdR.ord_still rfl rfl (by kernel_rfl) (fun K hK => ?_)
            go_big_quiet_op
            refine hK _ ?_; clear hK K
            refine OrdR.ord_loud rfl (by kernel_rfl) (fun K hK => ?_)
            go_big_op
            refine (reader_At _ _ _ _ _ XR).mono ?_
            rintro e w3 ⟨rfl, hb3⟩
            have YP := (hb3.block _ (Array.getElem?_eq_some_iff.1 XP).1).trans XP
            have YB := (hb3.block _ (Array.getElem?_eq_some_iff.1 XB).1).trans XB
            have YM := XM.later hb3 (Nat.le_refl _)
            have YR := XR.later hb3 (Nat.le_refl _)
            have YG := (hb3.block _ (Array.getElem?_eq_some_iff.1 XG).1).trans XG
            have YD := (hb3.block _ (Array.getElem?_eq_some_iff.1 XD).1).trans XD
            have YO := XO.below hb3 (Nat.le_refl _)
            have Yp := cellR (gb := gb) (show w3.heap[pb]? = _ from YP) (by omega)
            have Y1 := mdlR1 (gb := gb) YM (by omega)
            have Y2 := mdlR2 (gb := gb) YM (by omega)
            have Yb := cellR (gb := gb) (show w3.heap[bb]? = _ from YB) (by omega)
            clear Xp X1 X2 Xb XP XB XM XR XG XO XD XG0
            refine hK _ _ ((Only.refl _ _).below hb3 (Nat.le_refl _)) ?_
            clear hb3
            clear hK K
            refine OrdR.ord_still rfl rfl (by kernel_rfl) (fun K hK => ?_)
            go_big_quiet_op
            refine hK _ ?_; clear hK K
            refine OrdR.ord_still rfl rfl (by kernel_rfl) (fun K hK => ?_)
            go_big_quiet_op
            refine hK _ ?_; clear hK K
            refine OrdR.ord_still rfl rfl (by kernel_rfl) (fun K hK => ?_)
            go_big_quiet_op
            refine hK _ ?_; clear hK K
            refine OrdR.ord_still rfl rfl (by kernel_rfl) (fun K hK => ?_)
            go_big_quiet_op
            refine hK _ ?_; clear hK K
            refine OrdR.ord_still rfl rfl (by kernel_rfl) (fun K hK => ?_)
            go_big_quiet_op
            refine hK _ ?_; clear hK K
            refine OrdR.ord_still rfl rfl (by kernel_rfl) (fun K hK => ?_)
            go_big_quiet_op
            refine hK _ ?_; clear hK K
            refine OrdR.ord_still rfl rfl (by kernel_rfl) (fun K hK => ?_)
            go_big_quiet_op
            refine hK _ ?_; clear hK K
            refine OrdR.ord_still rfl rfl (by kernel_rfl) (fun K hK => ?_)
            go_big_quiet_op
            refine hK _ ?_; clear hK K
            refine OrdR.ord_still rfl rfl (by kernel_rfl) (fun K hK => ?_)
            go_big_quiet_op
            refine hK _ ?_; clear hK K
            refine OrdR.ord_still rfl rfl (by kernel_rfl) (fun K hK => ?_)
            go_big_quiet_op
            refine hK _ ?_; clear hK K
            refine OrdR.ord_still rfl rfl (by kernel_rfl) (fun K hK => ?_)
            go_big_quiet_op
            refine hK _ ?_; clear hK K
            refine OrdR.ord_loud rfl (by kernel_rfl) (fun K hK => ?_)
            go_big_op
            refine (reader_Left _ _ _ _ _ YR).mono ?_
            rintro e w4 ⟨rfl, hb4⟩
            have ZP := (hb4.block _ (Array.getElem?_eq_some_iff.1 YP).1).trans YP
            have ZB := (hb4.block _ (Array.getElem?_eq_some_iff.1 YB).1).trans YB
            have ZM := YM.later hb4 (Nat.le_refl _)
            have ZR := YR.later hb4 (Nat.le_refl _)
            have ZG := (hb4.block _ (Array.getElem?_eq_some_iff.1 YG).1).trans YG
            have ZD := (hb4.block _ (Array.getElem?_eq_some_iff.1 YD).1).trans YD
            have ZO := YO.below hb4 (Nat.le_refl _)
            have Zp := cellR (gb := gb) (show w4.heap[pb]? = _ from ZP) (by omega)
            have Z1 := mdlR1 (gb := gb) ZM (by omega)
            have Z2 := mdlR2 (gb := gb) ZM (by omega)
            have Zb := cellR (gb := gb) (show w4.heap[bb]? = _ from ZB) (by omega)
            have G0 := cell_of_one ZG
            have G1 := free_of_one ZG
            clear Yp Y1 Y2 Yb YP YB YM YR YG YO YD
            refine hK _ _ ((Only.refl _ _).below hb4 (Nat.le_refl _)) ?_
            clear hb4
            clear hK K
            refine OrdR.ord_still rfl rfl (by kernel_rfl) (fun K hK => ?_)
            go_big_quiet_op
            refine hK _ ?_; clear hK K
            refine OrdR.ord_still rfl rfl (by kernel_rfl) (fun K hK => ?_)
            go_big_quiet_op
            refine hK _ ?_; clear hK K
            refine OrdR.ord_still rfl rfl (by kernel_rfl) (fun K hK => ?_)
            go_big_quiet_op
            refine hK _ ?_; clear hK K
            refine OrdR.ord_still rfl rfl (by kernel_rfl) (fun K hK => ?_)
            go_big_quiet_op
            refine hK _ ?_; clear hK K
            refine OrdR.ord_still rfl rfl (by kernel_rfl) (fun K hK => ?_)
            go_big_quiet_op
            refine hK _ ?_; clear hK K
            refine OrdR.ord_still rfl rfl (by kernel_rfl) (fun K hK => ?_)
            go_big_quiet_op
            refine hK _ ?_; clear hK K
            refine OrdR.ord_still rfl rfl (by kernel_rfl) (fun K hK => ?_)
            go_big_quiet_op
            refine hK _ ?_; clear hK K
            refine OrdR.ord_still rfl rfl (by kernel_rfl) (fun K hK => ?_)
            go_big_quiet_op
            refine hK _ ?_; clear hK K
            refine OrdR.ord_still rfl rfl (by kernel_rfl) (fun K hK => ?_)
            go_big_quiet_op
            refine hK _ ?_; clear hK K
            refine OrdR.ord_loud rfl (by kernel_rfl) (fun K hK => ?_)
            go_big_op
            refine hK _ _ (Only.setCell (S := fun j => j = gb) (Only.refl _ _) (p := ⟨gb, 0, none⟩) rfl _) ?_
            clear hK K
            refine OrdR.ord_nil ?_
            have HD2 := Lib.hid ((Below.heap_setCell w4 ⟨gb, 0, none⟩ (.bool true) db (by show db ≠ gb; omega)).trans ZD)
            have HR2 := Lib.hid (ZR.setVar (p := ⟨gb, 0, none⟩) (by show gb ≠ g; omega) (fun i hi => (HBV.out i hi).1) (.bool true))
            have HM2 := Lib.hid (ZM.setVar (p := ⟨gb, 0, none⟩) (by show gb ≠ mb; omega) (fun i hi => (HBV.out i hi).1) (.bool true))
            have HG2 := Lib.hid (one_setCell (u := .bool true) ZG)
            have HO2 := Lib.hid (ZO.setCell (p := ⟨gb, 0, none⟩) (.inr (.inr (.inl rfl))) (.bool true))
            clear Zp Z1 Z2 Zb ZP ZB ZM ZR ZG ZO ZD G0 G1
            go_wp2
            go_roundw
            case rel => exact ⟨j + 1, K, by omega, by go_num, HR2, HM2, HG2, HD2, HO2⟩
            case measure => simp [intOf]; omega
          · obtain ⟨rfl, hg1, hE2⟩ := h.no hx
            rw [HNO.out hx] at hE2
            have hE := HE.out
            rw [HNO.out hx] at hE
            have H1 := Lib.hid hM2
            have H2 := Lib.hid hOb2
            have H3 := Lib.hid hD2
            have H4 := Lib.hid hG2
            have H5 := Lib.hid hO2
            have H6 := Lib.hid hE2
            have H7 := Lib.hid hE
            clear h hA1 hM2 hP2 hB2 hOb2 hG2 hD2 hC2 hO2 hE2 hE
            go_wp2
            exact ⟨rfl, H5.out.mono (fun j hj => by omega), H4.out, k, X, .inr ⟨hx, rfl, H6.out⟩, H1.out, .inr ⟨hx, H2.out, j, hlt, H3.out, by rw [HC.out]; exact H7.out⟩⟩
        · by_cases h2 : kind = 2
          · subst h2
            rcases hr : rdU l k 18446744073709551615 with ⟨xv, K, X⟩
            have HU := Lib.hid hr
            have HNO := Lib.hid (show X ≠ 0 → K = k from fun h => by have := (rdU_no (l := l) (k := k) (most := 18446744073709551615) (by rw [hr]; exact h)).2.1; rw [hr] at this; exact this)
            have HE := Lib.hid (show actKX l k ⟨2, many, mo, ok, en⟩ = (K, X) by unfold actKX; dsimp only; rw [if_neg (by decide), if_neg (by decide), if_pos rfl, hr])
            obtain ⟨xz, hxz⟩ : ∃ xz, zag xv = xz := ⟨_, rfl⟩
            have HZ := Lib.hid hxz
            clear hr hxz
            go_wp2_with fail
            generalize (wr.setCell ⟨db, 0, none⟩ (.int .i64 ((j : Int) + 1))).alloc (.cells #[.int .i64 2, .int .i64 many, .int .u64 (mo : Int), .bool ok, .int .u8 (en : Int)] 34) = wq at HR1 HM1 HO1 HG1 HD1 HC1 ⊢
            clear hc0 hc1 hc2 hc3 hc4 D0 D1
            refine (reader_Int _ _ _ _ _ HR1.out).mono ?_
            rintro e w1 h
            rw [HU.out] at h
            dsimp only at h
            rw [HZ.out] at h
            have hA1 : Only (fun j => j = g) wq w1 := (Only.refl _ _).grown h.1 rfl
            have hM2 := HM1.out.only hA1 (by omega) (fun i hi => HR1.out.off i hi)
            have hP2 := hA1.keep (HO1.out.keep HPB.out (by omega)) (by omega)
            have hB2 := hA1.keep (HO1.out.keep HBB.out (by omega)) (by omega)
            have hOb2 := hA1.keep (HO1.out.keep HOB.out (by omega)) (by omega)
            have hG2 := hA1.keep HG1.out (by omega)
            have hD2 := hA1.keep HD1.out (by omega)
            have hC2 := hA1.keep HC1.out (by omega)
            have hO2 := HO1.out.trans (hA1.mono (fun j hj => .inl hj))
            by_cases hx : X = 0
            · obtain ⟨rfl, hg1, hR2⟩ := h.ok hx
              have P0 := cell_of_one hP2
              have QM2 := Lib.hid hM2
              have QP2 := Lib.hid hP2
              have QB2 := Lib.hid hB2
              have QG2 := Lib.hid hG2
              have QD2 := Lib.hid hD2
              have QO2 := Lib.hid hO2
              have QR2 := Lib.hid hR2
              clear h hg1 hA1 hM2 hP2 hB2 hOb2 hG2 hD2 hC2 hO2 hR2 HR1 HM1 HO1 HG1 HD1 HC1
              go_wp2_with fail
              refine (model_Int _ _ _ _ _ QM2.out).mono ?_
              rintro e w2 h
              rw [HU.out] at h
              dsimp only at h
              rw [HZ.out] at h
              obtain ⟨rfl, hg2, hM3⟩ := h
              rw [hx] at hM3
              have hA2 : Only (fun j => j = mb) w1 w2 := (Only.refl _ _).grown hg2 rfl
              have hR3 := QR2.out.only hA2 (by omega) (fun i hi => QM2.out.off i hi)
              have hP3 := hA2.keep QP2.out (by omega)
              have hB3 := hA2.keep QB2.out (by omega)
              have hG3 := hA2.keep QG2.out (by omega)
              have hD3 := hA2.keep QD2.out (by omega)
              have hO3 := QO2.out.trans (hA2.mono (fun j hj => .inr (.inl hj)))
              have G0 := cell_of_one hG3
              have G1 := free_of_one hG3
              have hR9 := hR3.setVar (p := ⟨gb, 0, none⟩) (by show gb ≠ g; omega) (fun i hi => (HBV.out i hi).1) (.bool true)
              have hM9 := hM3.setVar (p := ⟨gb, 0, none⟩) (by show gb ≠ mb; omega) (fun i hi => (HBV.out i hi).1) (.bool true)
              have hG9 := one_setCell (u := .bool true) hG3
              have hO9 := hO3.setCell (p := ⟨gb, 0, none⟩) (.inr (.inr (.inl rfl))) (.bool true)
              have hP9 := (Below.heap_setCell w2 ⟨gb, 0, none⟩ (.bool true) pb (by show pb ≠ gb; omega)).trans hP3
              have hB9 := (Below.heap_setCell w2 ⟨gb, 0, none⟩ (.bool true) bb (by show bb ≠ gb; omega)).trans hB3
              have hD9 := (Below.heap_setCell w2 ⟨gb, 0, none⟩ (.bool true) db (by show db ≠ gb; omega)).trans hD3
              have qR9 := Lib.hid hR9
              have qM9 := Lib.hid hM9
              have qG9 := Lib.hid hG9
              have qO9 := Lib.hid hO9
              have qP9 := Lib.hid hP9
              have qB9 := Lib.hid hB9
              have qD9 := Lib.hid hD9
              clear hA2 hR3 hM3 hP3 hB3 hG3 hD3 hO3 hg2 QM2 QP2 QB2 QG2 QD2 QO2 QR2 P0 hR9 hM9 hG9 hO9 hP9 hB9 hD9
              go_wp2_with fail
              generalize w2.setCell ⟨gb, 0, none⟩ (.bool true) = wx at qR9 qM9 qG9 qO9 qP9 qB9 qD9 ⊢
              clear G0 G1
              have hR9 := qR9.out
              have hM9 := qM9.out
              have hG9 := qG9.out
              have hO9 := qO9.out
              have hP9 := qP9.out
              have hB9 := qB9.out
              have hD9 := qD9.out
              clear qR9 qM9 qG9 qO9 qP9 qB9 qD9
              obtain ⟨XP, XB, XM, XR, XG, XO, XD⟩ : wx.drew.heap[pb]? = some (.cells #[.pointer (some ⟨mb, 0, none⟩)] 25 (0, 0)) ∧ wx.drew.heap[bb]? = some (.cells #[v] 22 (0, 0)) ∧ Mdl wx.drew mb v l K 0 ∧ Rdr wx.drew g v l K ∧ wx.drew.heap[gb]? = some (.cells #[.bool true] 4 (0, 0)) ∧ Only (fun j => j = g ∨ j = mb ∨ j = gb ∨ j = db) w wx.drew ∧ wx.drew.heap[db]? = some (.cells #[.int .i64 ((j + 1 : Nat) : Int)] 3 (0, 0)) :=
                ⟨hP9, hB9, hM9.drew, hR9.drew, hG9, hO9.drew, hD9⟩
              have Xp := cellR (gb := gb) (show wx.drew.heap[pb]? = _ from XP) (by omega)
              have X1 := mdlR1 (gb := gb) XM (by omega)
              have X2 := mdlR2 (gb := gb) XM (by omega)
              have Xb := cellR (gb := gb) (show wx.drew.heap[bb]? = _ from XB) (by omega)
              have XG0 := cell_of_one XG
              have hsub : (l.length : Int) - (K : Int) = ((l.length - K : Nat) : Int) := by have := hM9.le; omega
              clear hP9 hB9 hM9 hR9 hG9 hO9 hD9
              refine OrdR.wp_region_ord hway [(0, true), (1, false), (2, false), (4, false), (5, false), (6, false), (7, false), (3, true), (8, false), (9, false), (10, false), (11, false), (13, false), (14, false), (15, false), (16, false), (17, false), (18, false), (19, false), (12, true), (20, false), (21, false), (22, false), (23, false), (24, false), (25, false), (26, false), (27, false), (28, false), (29, true)] (by kernel_rfl) rfl (by kernel_rfl) (by kernel_rfl) (fun _ _ _ d _ h => by cases d <;> exact h) ?_
              refine OrdR.ord_loud rfl (by kernel_rfl) (fun K hK => ?_)
              go_big_op
              refine hK _ _ (hway.refl _) ?_
              clear hK K
              refine OrdR.ord_still rfl rfl (by kernel_rfl) (fun K hK => ?_)
              go_big_quiet_op
              refine hK _ ?_; clear hK K
              refine OrdR.ord_still rfl rfl (by kernel_rfl) (fun K hK => ?_)
              go_big_quiet_op
              refine hK _ ?_; clear hK K
              refine OrdR.ord_still rfl rfl (by kernel_rfl) (fun K hK => ?_)
              go_big_quiet_op
              refine hK _ ?_; clear hK K
              refine OrdR.ord_still rfl rfl (by kernel_rfl) (fun K hK => ?_)
              go_big_quiet_op
              refine hK _ ?_; clear hK K
              refine OrdR.ord_still rfl rfl (by kernel_rfl) (fun K hK => ?_)
              go_big_quiet_op
              refine hK _ ?_; clear hK K
              refine OrdR.ord_still rfl rfl (by kernel_rfl) (fun K hK => ?_)
              go_big_quiet_op
              refine hK _ ?_; clear hK K
              refine OrdR.ord_loud rfl (by kernel_rfl) (fun K hK => ?_)
              go_big_op
              refine (reader_At _ _ _ _ _ XR).mono ?_
              rintro e w3 ⟨rfl, hb3⟩
              have YP := (hb3.block _ (Array.getElem?_eq_some_iff.1 XP).1).trans XP
              have YB := (hb3.block _ (Array.getElem?_eq_some_iff.1 XB).1).trans XB
              have YM := XM.later hb3 (Nat.le_refl _)
              have YR := XR.later hb3 (Nat.le_refl _)
              have YG := (hb3.block _ (Array.getElem?_eq_some_iff.1 XG).1).trans XG
              have YD := (hb3.block _ (Array.getElem?_eq_some_iff.1 XD).1).trans XD
              have YO := XO.below hb3 (Nat.le_refl _)
              have Yp := cellR (gb := gb) (show w3.heap[pb]? = _ from YP) (by omega)
              have Y1 := mdlR1 (gb := gb) YM (by omega)
              have Y2 := mdlR2 (gb := gb) YM (by omega)
              have Yb := cellR (gb := gb) (show w3.heap[bb]? = _ from YB) (by omega)
              clear Xp X1 X2 Xb XP XB XM XR XG XO XD XG0
              refine hK _ _ ((Only.refl _ _).below hb3 (Nat.le_refl _)) ?_
              clear hb3
              clear hK K
              refine OrdR.ord_still rfl rfl (by kernel_rfl) (fun K hK => ?_)
              go_big_quiet_op
              refine hK _ ?_; clear hK K
              refine OrdR.ord_still rfl rfl (by kernel_rfl) (fun K hK => ?_)
              go_big_quiet_op
              refine hK _ ?_; clear hK K
              refine OrdR.ord_still rfl rfl (by kernel_rfl) (fun K hK => ?_)
              go_big_quiet_op
              refine hK _ ?_; clear hK K
              refine OrdR.ord_still rfl rfl (by kernel_rfl) (fun K hK => ?_)
              go_big_quiet_op
              refine hK _ ?_; clear hK K
              refine OrdR.ord_still rfl rfl (by kernel_rfl) (fun K hK => ?_)
              go_big_quiet_op
              refine hK _ ?_; clear hK K
              refine OrdR.ord_still rfl rfl (by kernel_rfl) (fun K hK => ?_)
              go_big_quiet_op
              refine hK _ ?_; clear hK K
              refine OrdR.ord_still rfl rfl (by kernel_rfl) (fun K hK => ?_)
              go_big_quiet_op
              refine hK _ ?_; clear hK K
              refine OrdR.ord_still rfl rfl (by kernel_rfl) (fun K hK => ?_)
              go_big_quiet_op
              refine hK _ ?_; clear hK K
              refine OrdR.ord_still rfl rfl (by kernel_rfl) (fun K hK => ?_)
              go_big_quiet_op
              refine hK _ ?_; clear hK K
              refine OrdR.ord_still rfl rfl (by kernel_rfl) (fun K hK => ?_)
              go_big_quiet_op
              refine hK _ ?_; clear hK K
              refine OrdR.ord_still rfl rfl (by kernel_rfl) (fun K hK => ?_)
              go_big_quiet_op
              refine hK _ ?_; clear hK K
              refine OrdR.ord_loud rfl (by kernel_rfl) (fun K hK => ?_)
              go_big_op
              refine (reader_Left _ _ _ _ _ YR).mono ?_
              rintro e w4 ⟨rfl, hb4⟩
              have ZP := (hb4.block _ (Array.getElem?_eq_some_iff.1 YP).1).trans YP
              have ZB := (hb4.block _ (Array.getElem?_eq_some_iff.1 YB).1).trans YB
              have ZM := YM.later hb4 (Nat.le_refl _)
              have ZR := YR.later hb4 (Nat.le_refl _)
              have ZG := (hb4.block _ (Array.getElem?_eq_some_iff.1 YG).1).trans YG
              have ZD := (hb4.block _ (Array.getElem?_eq_some_iff.1 YD).1).trans YD
              have ZO := YO.below hb4 (Nat.le_refl _)
              have Zp := cellR (gb := gb) (show w4.heap[pb]? = _ from ZP) (by omega)
              have Z1 := mdlR1 (gb := gb) ZM (by omega)
              have Z2 := mdlR2 (gb := gb) ZM (by omega)
              have Zb := cellR (gb := gb) (show w4.heap[bb]? = _ from ZB) (by omega)
              have G0 := cell_of_one ZG
              have G1 := free_of_one ZG
              clear Yp Y1 Y2 Yb YP YB YM YR YG YO YD
              refine hK _ _ ((Only.refl _ _).below hb4 (Nat.le_refl _)) ?_
              clear hb4
              clear hK K
              refine OrdR.ord_still rfl rfl (by kernel_rfl) (fun K hK => ?_)
              go_big_quiet_op
              refine hK _ ?_; clear hK K
              refine OrdR.ord_still rfl rfl (by kernel_rfl) (fun K hK => ?_)
              go_big_quiet_op
              refine hK _ ?_; clear hK K
              refine OrdR.ord_still rfl rfl (by kernel_rfl) (fun K hK => ?_)
              go_big_quiet_op
              refine hK _ ?_; clear hK K
              refine OrdR.ord_still rfl rfl (by kernel_rfl) (fun K hK => ?_)
              go_big_quiet_op
              refine hK _ ?_; clear hK K
              refine OrdR.ord_still rfl rfl (by kernel_rfl) (fun K hK => ?_)
              go_big_quiet_op
              refine hK _ ?_; clear hK K
              refine OrdR.ord_still rfl rfl (by kernel_rfl) (fun K hK => ?_)
              go_big_quiet_op
              refine hK _ ?_; clear hK K
              refine OrdR.ord_still rfl rfl (by kernel_rfl) (fun K hK => ?_)
              go_big_quiet_op
              refine hK _ ?_; clear hK K
              refine OrdR.ord_still rfl rfl (by kernel_rfl) (fun K hK => ?_)
              go_big_quiet_op
              refine hK _ ?_; clear hK K
              refine OrdR.ord_still rfl rfl (by kernel_rfl) (fun K hK => ?_)
              go_big_quiet_op
              refine hK _ ?_; clear hK K
              refine OrdR.ord_loud rfl (by kernel_rfl) (fun K hK => ?_)
              go_big_op
              refine hK _ _ (Only.setCell (S := fun j => j = gb) (Only.refl _ _) (p := ⟨gb, 0, none⟩) rfl _) ?_
              clear hK K
              refine OrdR.ord_nil ?_
              have HD2 := Lib.hid ((Below.heap_setCell w4 ⟨gb, 0, none⟩ (.bool true) db (by show db ≠ gb; omega)).trans ZD)
              have HR2 := Lib.hid (ZR.setVar (p := ⟨gb, 0, none⟩) (by show gb ≠ g; omega) (fun i hi => (HBV.out i hi).1) (.bool true))
              have HM2 := Lib.hid (ZM.setVar (p := ⟨gb, 0, none⟩) (by show gb ≠ mb; omega) (fun i hi => (HBV.out i hi).1) (.bool true))
              have HG2 := Lib.hid (one_setCell (u := .bool true) ZG)
              have HO2 := Lib.hid (ZO.setCell (p := ⟨gb, 0, none⟩) (.inr (.inr (.inl rfl))) (.bool true))
              clear Zp Z1 Z2 Zb ZP ZB ZM ZR ZG ZO ZD G0 G1
              go_wp2
              go_roundw
              case rel => exact ⟨j + 1, K, by omega, by go_num, HR2, HM2, HG2, HD2, HO2⟩
              case measure => simp [intOf]; omega
            · obtain ⟨rfl, hg1, hE2⟩ := h.no hx
              rw [HNO.out hx] at hE2
              have hE := HE.out
              rw [HNO.out hx] at hE
              have H1 := Lib.hid hM2
              have H2 := Lib.hid hOb2
              have H3 := Lib.hid hD2
              have H4 := Lib.hid hG2
              have H5 := Lib.hid hO2
              have H6 := Lib.hid hE2
              have H7 := Lib.hid hE
              clear h hA1 hM2 hP2 hB2 hOb2 hG2 hD2 hC2 hO2 hE2 hE
              go_wp2
              exact ⟨rfl, H5.out.mono (fun j hj => by omega), H4.out, k, X, .inr ⟨hx, rfl, H6.out⟩, H1.out, .inr ⟨hx, H2.out, j, hlt, H3.out, by rw [HC.out]; exact H7.out⟩⟩
          · by_cases h3 : kind = 3
            · subst h3
              have hxl := rdB_len l k many
              rcases hr : rdB l k many with ⟨xv, K, X⟩
              rw [hr] at hxl
              dsimp only at hxl
              have HU := Lib.hid hr
              have HNO := Lib.hid (show X ≠ 0 → K = k from fun h => by have := rdB_no (l := l) (k := k) (most := many) (by rw [hr]; exact h); rw [hr] at this; exact this)
              have HE := Lib.hid (show actKX l k ⟨3, many, mo, ok, en⟩ = (K, X) by unfold actKX; dsimp only; rw [if_neg (by decide), if_neg (by decide), if_neg (by decide), if_pos rfl, hr])
              clear hr
              go_wp2_with fail
              generalize (wr.setCell ⟨db, 0, none⟩ (.int .i64 ((j : Int) + 1))).alloc (.cells #[.int .i64 3, .int .i64 many, .int .u64 (mo : Int), .bool ok, .int .u8 (en : Int)] 34) = wq at HR1 HM1 HO1 HG1 HD1 HC1 ⊢
              clear hc0 hc1 hc2 hc3 hc4 D0 D1
              refine (reader_Bytes _ _ _ _ _ HR1.out many ⟨wm0, wm1⟩).mono ?_
              rintro e w1 ⟨vb, h, ho⟩
              rw [HU.out] at h ho
              dsimp only at h ho
              have hA1 : Only (fun j => j = g) wq w1 := (Only.refl _ _).grown h.1 rfl
              have hM2 := HM1.out.only hA1 (by omega) (fun i hi => HR1.out.off i hi)
              have hP2 := hA1.keep (HO1.out.keep HPB.out (by omega)) (by omega)
              have hB2 := hA1.keep (HO1.out.keep HBB.out (by omega)) (by omega)
              have hOb2 := hA1.keep (HO1.out.keep HOB.out (by omega)) (by omega)
              have hG2 := hA1.keep HG1.out (by omega)
              have hD2 := hA1.keep HD1.out (by omega)
              have hC2 := hA1.keep HC1.out (by omega)
              have hO2 := HO1.out.trans (hA1.mono (fun j hj => .inl hj))
              by_cases hx : X = 0
              · obtain ⟨rfl, hg1, hR2⟩ := h.ok hx
                have P0 := cell_of_one hP2
                have C1 := new_cell (i := 1) hC2 rfl
                have C2 := new_cell (i := 2) hC2 rfl
                have C3 := new_cell (i := 3) hC2 rfl
                have C4 := new_cell (i := 4) hC2 rfl
                have hob : Own w1 wq.heap.size vb xv := ho hx
                have hsb := (hob.rd (by omega)).str
                clear ho hob
                have QM2 := Lib.hid hM2
                have QP2 := Lib.hid hP2
                have QB2 := Lib.hid hB2
                have QG2 := Lib.hid hG2
                have QD2 := Lib.hid hD2
                have QO2 := Lib.hid hO2
                have QR2 := Lib.hid hR2
                clear h hg1 hA1 hM2 hP2 hB2 hOb2 hG2 hD2 hC2 hO2 hR2 HR1 HM1 HO1 HG1 HD1 HC1
                go_wp2_with fail
                refine (model_Bytes _ _ _ _ _ QM2.out many ⟨wm0, wm1⟩).mono ?_
                rintro e w2 ⟨vc, h, ho2⟩
                rw [HU.out] at h ho2
                dsimp only at h ho2
                obtain ⟨rfl, hg2, hM3⟩ := h
                rw [hx] at hM3
                have hA2 : Only (fun j => j = mb) w1 w2 := (Only.refl _ _).grown hg2 rfl
                have hR3 := QR2.out.only hA2 (by omega) (fun i hi => QM2.out.off i hi)
                have hP3 := hA2.keep QP2.out (by omega)
                have hB3 := hA2.keep QB2.out (by omega)
                have hG3 := hA2.keep QG2.out (by omega)
                have hD3 := hA2.keep QD2.out (by omega)
                have hO3 := QO2.out.trans (hA2.mono (fun j hj => .inr (.inl hj)))
                have hsc := (Own.rd (l := xv) ho2 (by omega)).str
                clear ho2
                have G0 := cell_of_one hG3
                have G1 := free_of_one hG3
                have hR9 := hR3.setVar (p := ⟨gb, 0, none⟩) (by show gb ≠ g; omega) (fun i hi => (HBV.out i hi).1) (.bool true)
                have hM9 := hM3.setVar (p := ⟨gb, 0, none⟩) (by show gb ≠ mb; omega) (fun i hi => (HBV.out i hi).1) (.bool true)
                have hG9 := one_setCell (u := .bool true) hG3
                have hO9 := hO3.setCell (p := ⟨gb, 0, none⟩) (.inr (.inr (.inl rfl))) (.bool true)
                have hP9 := (Below.heap_setCell w2 ⟨gb, 0, none⟩ (.bool true) pb (by show pb ≠ gb; omega)).trans hP3
                have hB9 := (Below.heap_setCell w2 ⟨gb, 0, none⟩ (.bool true) bb (by show bb ≠ gb; omega)).trans hB3
                have hD9 := (Below.heap_setCell w2 ⟨gb, 0, none⟩ (.bool true) db (by show db ≠ gb; omega)).trans hD3
                have qR9 := Lib.hid hR9
                have qM9 := Lib.hid hM9
                have qG9 := Lib.hid hG9
                have qO9 := Lib.hid hO9
                have qP9 := Lib.hid hP9
                have qB9 := Lib.hid hB9
                have qD9 := Lib.hid hD9
                clear hA2 hR3 hM3 hP3 hB3 hG3 hD3 hO3 hg2 QM2 QP2 QB2 QG2 QD2 QO2 QR2 P0 hR9 hM9 hG9 hO9 hP9 hB9 hD9
                go_wp2_with fail
                generalize w2.setCell ⟨gb, 0, none⟩ (.bool true) = wx at qR9 qM9 qG9 qO9 qP9 qB9 qD9 ⊢
                clear G0 G1
                have hR9 := qR9.out
                have hM9 := qM9.out
                have hG9 := qG9.out
                have hO9 := qO9.out
                have hP9 := qP9.out
                have hB9 := qB9.out
                have hD9 := qD9.out
                clear qR9 qM9 qG9 qO9 qP9 qB9 qD9 hsb hsc C1 C2 C3 C4
                obtain ⟨XP, XB, XM, XR, XG, XO, XD⟩ : wx.drew.heap[pb]? = some (.cells #[.pointer (some ⟨mb, 0, none⟩)] 25 (0, 0)) ∧ wx.drew.heap[bb]? = some (.cells #[v] 22 (0, 0)) ∧ Mdl wx.drew mb v l K 0 ∧ Rdr wx.drew g v l K ∧ wx.drew.heap[gb]? = some (.cells #[.bool true] 4 (0, 0)) ∧ Only (fun j => j = g ∨ j = mb ∨ j = gb ∨ j = db) w wx.drew ∧ wx.drew.heap[db]? = some (.cells #[.int .i64 ((j + 1 : Nat) : Int)] 3 (0, 0)) :=
                  ⟨hP9, hB9, hM9.drew, hR9.drew, hG9, hO9.drew, hD9⟩
                have Xp := cellR (gb := gb) (show wx.drew.heap[pb]? = _ from XP) (by omega)
                have X1 := mdlR1 (gb := gb) XM (by omega)
                have X2 := mdlR2 (gb := gb) XM (by omega)
                have Xb := cellR (gb := gb) (show wx.drew.heap[bb]? = _ from XB) (by omega)
                have XG0 := cell_of_one XG
                have hsub : (l.length : Int) - (K : Int) = ((l.length - K : Nat) : Int) := by have := hM9.le; omega
                clear hP9 hB9 hM9 hR9 hG9 hO9 hD9
                refine OrdR.wp_region_ord hway [(0, true), (1, false), (2, false), (4, false), (5, false), (6, false), (7, false), (3, true), (8, false), (9, false), (10, false), (11, false), (13, false), (14, false), (15, false), (16, false), (17, false), (18, false), (19, false), (12, true), (20, false), (21, false), (22, false), (23, false), (24, false), (25, false), (26, false), (27, false), (28, false), (29, true)] (by kernel_rfl) rfl (by kernel_rfl) (by kernel_rfl) (fun _ _ _ d _ h => by cases d <;> exact h) ?_
                refine OrdR.ord_loud rfl (by kernel_rfl) (fun K hK => ?_)
                go_big_op
                refine hK _ _ (hway.refl _) ?_
                clear hK K
                refine OrdR.ord_still rfl rfl (by kernel_rfl) (fun K hK => ?_)
                go_big_quiet_op
                refine hK _ ?_; clear hK K
                refine OrdR.ord_still rfl rfl (by kernel_rfl) (fun K hK => ?_)
                go_big_quiet_op
                refine hK _ ?_; clear hK K
                refine OrdR.ord_still rfl rfl (by kernel_rfl) (fun K hK => ?_)
                go_big_quiet_op
                refine hK _ ?_; clear hK K
                refine OrdR.ord_still rfl rfl (by kernel_rfl) (fun K hK => ?_)
                go_big_quiet_op
                refine hK _ ?_; clear hK K
                refine OrdR.ord_still rfl rfl (by kernel_rfl) (fun K hK => ?_)
                go_big_quiet_op
                refine hK _ ?_; clear hK K
                refine OrdR.ord_still rfl rfl (by kernel_rfl) (fun K hK => ?_)
                go_big_quiet_op
                refine hK _ ?_; clear hK K
                refine OrdR.ord_loud rfl (by kernel_rfl) (fun K hK => ?_)
                go_big_op
                refine (reader_At _ _ _ _ _ XR).mono ?_
                rintro e w3 ⟨rfl, hb3⟩
                have YP := (hb3.block _ (Array.getElem?_eq_some_iff.1 XP).1).trans XP
                have YB := (hb3.block _ (Array.getElem?_eq_some_iff.1 XB).1).trans XB
                have YM := XM.later hb3 (Nat.le_refl _)
                have YR := XR.later hb3 (Nat.le_refl _)
                have YG := (hb3.block _ (Array.getElem?_eq_some_iff.1 XG).1).trans XG
                have YD := (hb3.block _ (Array.getElem?_eq_some_iff.1 XD).1).trans XD
                have YO := XO.below hb3 (Nat.le_refl _)
                have Yp := cellR (gb := gb) (show w3.heap[pb]? = _ from YP) (by omega)
                have Y1 := mdlR1 (gb := gb) YM (by omega)
                have Y2 := mdlR2 (gb := gb) YM (by omega)
                have Yb := cellR (gb := gb) (show w3.heap[bb]? = _ from YB) (by omega)
                clear Xp X1 X2 Xb XP XB XM XR XG XO XD XG0
                refine hK _ _ ((Only.refl _ _).below hb3 (Nat.le_refl _)) ?_
                clear hb3
                clear hK K
                refine OrdR.ord_still rfl rfl (by kernel_rfl) (fun K hK => ?_)
                go_big_quiet_op
                refine hK _ ?_; clear hK K
                refine OrdR.ord_still rfl rfl (by kernel_rfl) (fun K hK => ?_)
                go_big_quiet_op
                refine hK _ ?_; clear hK K
                refine OrdR.ord_still rfl rfl (by kernel_rfl) (fun K hK => ?_)
                go_big_quiet_op
                refine hK _ ?_; clear hK K
                refine OrdR.ord_still rfl rfl (by kernel_rfl) (fun K hK => ?_)
                go_big_quiet_op
                refine hK _ ?_; clear hK K
                refine OrdR.ord_still rfl rfl (by kernel_rfl) (fun K hK => ?_)
                go_big_quiet_op
                refine hK _ ?_; clear hK K
                refine OrdR.ord_still rfl rfl (by kernel_rfl) (fun K hK => ?_)
                go_big_quiet_op
                refine hK _ ?_; clear hK K
                refine OrdR.ord_still rfl rfl (by kernel_rfl) (fun K hK => ?_)
                go_big_quiet_op
                refine hK _ ?_; clear hK K
                refine OrdR.ord_still rfl rfl (by kernel_rfl) (fun K hK => ?_)
                go_big_quiet_op
                refine hK _ ?_; clear hK K
                refine OrdR.ord_still rfl rfl (by kernel_rfl) (fun K hK => ?_)
                go_big_quiet_op
                refine hK _ ?_; clear hK K
                refine OrdR.ord_still rfl rfl (by kernel_rfl) (fun K hK => ?_)
                go_big_quiet_op
                refine hK _ ?_; clear hK K
                refine OrdR.ord_still rfl rfl (by kernel_rfl) (fun K hK => ?_)
                go_big_quiet_op
                refine hK _ ?_; clear hK K
                refine OrdR.ord_loud rfl (by kernel_rfl) (fun K hK => ?_)
                go_big_op
                refine (reader_Left _ _ _ _ _ YR).mono ?_
                rintro e w4 ⟨rfl, hb4⟩
                have ZP := (hb4.block _ (Array.getElem?_eq_some_iff.1 YP).1).trans YP
                have ZB := (hb4.block _ (Array.getElem?_eq_some_iff.1 YB).1).trans YB
                have ZM := YM.later hb4 (Nat.le_refl _)
                have ZR := YR.later hb4 (Nat.le_refl _)
                have ZG := (hb4.block _ (Array.getElem?_eq_some_iff.1 YG).1).trans YG
                have ZD := (hb4.block _ (Array.getElem?_eq_some_iff.1 YD).1).trans YD
                have ZO := YO.below hb4 (Nat.le_refl _)
                have Zp := cellR (gb := gb) (show w4.heap[pb]? = _ from ZP) (by omega)
                have Z1 := mdlR1 (gb := gb) ZM (by omega)
                have Z2 := mdlR2 (gb := gb) ZM (by omega)
                have Zb := cellR (gb := gb) (show w4.heap[bb]? = _ from ZB) (by omega)
                have G0 := cell_of_one ZG
                have G1 := free_of_one ZG
                clear Yp Y1 Y2 Yb YP YB YM YR YG YO YD
                refine hK _ _ ((Only.refl _ _).below hb4 (Nat.le_refl _)) ?_
                clear hb4
                clear hK K
                refine OrdR.ord_still rfl rfl (by kernel_rfl) (fun K hK => ?_)
                go_big_quiet_op
                refine hK _ ?_; clear hK K
                refine OrdR.ord_still rfl rfl (by kernel_rfl) (fun K hK => ?_)
                go_big_quiet_op
                refine hK _ ?_; clear hK K
                refine OrdR.ord_still rfl rfl (by kernel_rfl) (fun K hK => ?_)
                go_big_quiet_op
                refine hK _ ?_; clear hK K
                refine OrdR.ord_still rfl rfl (by kernel_rfl) (fun K hK => ?_)
                go_big_quiet_op
                refine hK _ ?_; clear hK K
                refine OrdR.ord_still rfl rfl (by kernel_rfl) (fun K hK => ?_)
                go_big_quiet_op
                refine hK _ ?_; clear hK K
                refine OrdR.ord_still rfl rfl (by kernel_rfl) (fun K hK => ?_)
                go_big_quiet_op
                refine hK _ ?_; clear hK K
                refine OrdR.ord_still rfl rfl (by kernel_rfl) (fun K hK => ?_)
                go_big_quiet_op
                refine hK _ ?_; clear hK K
                refine OrdR.ord_still rfl rfl (by kernel_rfl) (fun K hK => ?_)
                go_big_quiet_op
                refine hK _ ?_; clear hK K
                refine OrdR.ord_still rfl rfl (by kernel_rfl) (fun K hK => ?_)
                go_big_quiet_op
                refine hK _ ?_; clear hK K
                refine OrdR.ord_loud rfl (by kernel_rfl) (fun K hK => ?_)
                go_big_op
                refine hK _ _ (Only.setCell (S := fun j => j = gb) (Only.refl _ _) (p := ⟨gb, 0, none⟩) rfl _) ?_
                clear hK K
                refine OrdR.ord_nil ?_
                have HD2 := Lib.hid ((Below.heap_setCell w4 ⟨gb, 0, none⟩ (.bool true) db (by show db ≠ gb; omega)).trans ZD)
                have HR2 := Lib.hid (ZR.setVar (p := ⟨gb, 0, none⟩) (by show gb ≠ g; omega) (fun i hi => (HBV.out i hi).1) (.bool true))
                have HM2 := Lib.hid (ZM.setVar (p := ⟨gb, 0, none⟩) (by show gb ≠ mb; omega) (fun i hi => (HBV.out i hi).1) (.bool true))
                have HG2 := Lib.hid (one_setCell (u := .bool true) ZG)
                have HO2 := Lib.hid (ZO.setCell (p := ⟨gb, 0, none⟩) (.inr (.inr (.inl rfl))) (.bool true))
                clear Zp Z1 Z2 Zb ZP ZB ZM ZR ZG ZO ZD G0 G1
                go_wp2
                go_roundw
                case rel => exact ⟨j + 1, K, by omega, by go_num, HR2, HM2, HG2, HD2, HO2⟩
                case measure => simp [intOf]; omega
              · obtain ⟨rfl, hg1, hE2⟩ := h.no hx
                rw [HNO.out hx] at hE2
                have hE := HE.out
                rw [HNO.out hx] at hE
                have H1 := Lib.hid hM2
                have H2 := Lib.hid hOb2
                have H3 := Lib.hid hD2
                have H4 := Lib.hid hG2
                have H5 := Lib.hid hO2
                have H6 := Lib.hid hE2
                have H7 := Lib.hid hE
                clear h hA1 hM2 hP2 hB2 hOb2 hG2 hD2 hC2 hO2 hE2 hE
                go_wp2
                exact ⟨rfl, H5.out.mono (fun j hj => by omega), H4.out, k, X, .inr ⟨hx, rfl, H6.out⟩, H1.out, .inr ⟨hx, H2.out, j, hlt, H3.out, by rw [HC.out]; exact H7.out⟩⟩
            · by_cases h4 : kind = 4
              · subst h4
                obtain ⟨X, hX⟩ : ∃ X, (if ok then 0 else mm) = X := ⟨_, rfl⟩
                have HX := Lib.hid hX
                obtain ⟨K, hK⟩ : ∃ K, k = K := ⟨_, rfl⟩
                have HNO := Lib.hid (show X ≠ 0 → K = k from fun _ => hK.symm)
                have HE := Lib.hid (show actKX l k ⟨4, many, mo, ok, en⟩ = (K, X) by rw [← hK, ← hX]; unfold actKX; dsimp only; rw [if_neg (by decide), if_neg (by decide), if_neg (by decide), if_neg (by decide), if_pos rfl, show ((en : Int)).toNat = en from by omega, HMM.out])
                have HK := Lib.hid hK
                clear hX hK
                go_wp2_with fail
                generalize (wr.setCell ⟨db, 0, none⟩ (.int .i64 ((j : Int) + 1))).alloc (.cells #[.int .i64 4, .int .i64 many, .int .u64 (mo : Int), .bool ok, .int .u8 (en : Int)] 34) = wq at HR1 HM1 HO1 HG1 HD1 HC1 ⊢
                clear hc0 hc1 hc2 hc3 hc4 D0 D1
                refine (reader_Must _ _ _ _ _ HR1.out ok mm).mono ?_
                rintro e w1 h
                rw [HX.out, HK.out] at h
                have hA1 : Only (fun j => j = g) wq w1 := (Only.refl _ _).grown h.1 rfl
                have hM2 := HM1.out.only hA1 (by omega) (fun i hi => HR1.out.off i hi)
                have hP2 := hA1.keep (HO1.out.keep HPB.out (by omega)) (by omega)
                have hB2 := hA1.keep (HO1.out.keep HBB.out (by omega)) (by omega)
                have hOb2 := hA1.keep (HO1.out.keep HOB.out (by omega)) (by omega)
                have hG2 := hA1.keep HG1.out (by omega)
                have hD2 := hA1.keep HD1.out (by omega)
                have hC2 := hA1.keep HC1.out (by omega)
                have hO2 := HO1.out.trans (hA1.mono (fun j hj => .inl hj))
                by_cases hx : X = 0
                · obtain ⟨rfl, hg1, hR2⟩ := h.ok hx
                  have P0 := cell_of_one hP2
                  have C1 := new_cell (i := 1) hC2 rfl
                  have C2 := new_cell (i := 2) hC2 rfl
                  have C3 := new_cell (i := 3) hC2 rfl
                  have C4 := new_cell (i := 4) hC2 rfl
                  have QM2 := Lib.hid hM2
                  have QP2 := Lib.hid hP2
                  have QB2 := Lib.hid hB2
                  have QG2 := Lib.hid hG2
                  have QD2 := Lib.hid hD2
                  have QO2 := Lib.hid hO2
                  have QR2 := Lib.hid hR2
                  clear h hg1 hA1 hM2 hP2 hB2 hOb2 hG2 hD2 hC2 hO2 hR2 HR1 HM1 HO1 HG1 HD1 HC1
                  go_wp2_with fail
                  refine (model_Must _ _ _ _ _ QM2.out ok mm).mono ?_
                  rintro e w2 h
                  rw [HX.out, HK.out] at h
                  obtain ⟨rfl, hg2, hM3⟩ := h
                  rw [hx] at hM3
                  have hA2 : Only (fun j => j = mb) w1 w2 := (Only.refl _ _).grown hg2 rfl
                  have hR3 := QR2.out.only hA2 (by omega) (fun i hi => QM2.out.off i hi)
                  have hP3 := hA2.keep QP2.out (by omega)
                  have hB3 := hA2.keep QB2.out (by omega)
                  have hG3 := hA2.keep QG2.out (by omega)
                  have hD3 := hA2.keep QD2.out (by omega)
                  have hO3 := QO2.out.trans (hA2.mono (fun j hj => .inr (.inl hj)))
                  have hR9 := hR3
                  have hM9 := hM3
                  have hG9 := hG3
                  have hO9 := hO3
                  have hP9 := hP3
                  have hB9 := hB3
                  have hD9 := hD3
                  have qR9 := Lib.hid hR9
                  have qM9 := Lib.hid hM9
                  have qG9 := Lib.hid hG9
                  have qO9 := Lib.hid hO9
                  have qP9 := Lib.hid hP9
                  have qB9 := Lib.hid hB9
                  have qD9 := Lib.hid hD9
                  clear hA2 hR3 hM3 hP3 hB3 hG3 hD3 hO3 hg2 QM2 QP2 QB2 QG2 QD2 QO2 QR2 P0 hR9 hM9 hG9 hO9 hP9 hB9 hD9
                  go_wp2_with fail
                  have hR9 := qR9.out
                  have hM9 := qM9.out
                  have hG9 := qG9.out
                  have hO9 := qO9.out
                  have hP9 := qP9.out
                  have hB9 := qB9.out
                  have hD9 := qD9.out
                  clear qR9 qM9 qG9 qO9 qP9 qB9 qD9 C1 C2 C3 C4
                  obtain ⟨XP, XB, XM, XR, XG, XO, XD⟩ : w2.drew.heap[pb]? = some (.cells #[.pointer (some ⟨mb, 0, none⟩)] 25 (0, 0)) ∧ w2.drew.heap[bb]? = some (.cells #[v] 22 (0, 0)) ∧ Mdl w2.drew mb v l K 0 ∧ Rdr w2.drew g v l K ∧ w2.drew.heap[gb]? = some (.cells #[.bool true] 4 (0, 0)) ∧ Only (fun j => j = g ∨ j = mb ∨ j = gb ∨ j = db) w w2.drew ∧ w2.drew.heap[db]? = some (.cells #[.int .i64 ((j + 1 : Nat) : Int)] 3 (0, 0)) :=
                    ⟨hP9, hB9, hM9.drew, hR9.drew, hG9, hO9.drew, hD9⟩
                  have Xp := cellR (gb := gb) (show w2.drew.heap[pb]? = _ from XP) (by omega)
                  have X1 := mdlR1 (gb := gb) XM (by omega)
                  have X2 := mdlR2 (gb := gb) XM (by omega)
                  have Xb := cellR (gb := gb) (show w2.drew.heap[bb]? = _ from XB) (by omega)
                  have XG0 := cell_of_one XG
                  have hsub : (l.length : Int) - (K : Int) = ((l.length - K : Nat) : Int) := by have := hM9.le; omega
                  clear hP9 hB9 hM9 hR9 hG9 hO9 hD9
                  refine OrdR.wp_region_ord hway [(0, true), (1, false), (2, false), (4, false), (5, false), (6, false), (7, false), (3, true), (8, false), (9, false), (10, false), (11, false), (13, false), (14, false), (15, false), (16, false), (17, false), (18, false), (19, false), (12, true), (20, false), (21, false), (22, false), (23, false), (24, false), (25, false), (26, false), (27, false), (28, false), (29, true)] (by kernel_rfl) rfl (by kernel_rfl) (by kernel_rfl) (fun _ _ _ d _ h => by cases d <;> exact h) ?_
                  refine OrdR.ord_loud rfl (by kernel_rfl) (fun K hK => ?_)
                  go_big_op
                  refine hK _ _ (hway.refl _) ?_
                  clear hK K
                  refine OrdR.ord_still rfl rfl (by kernel_rfl) (fun K hK => ?_)
                  go_big_quiet_op
                  refine hK _ ?_; clear hK K
                  refine OrdR.ord_still rfl rfl (by kernel_rfl) (fun K hK => ?_)
                  go_big_quiet_op
                  refine hK _ ?_; clear hK K
                  refine OrdR.ord_still rfl rfl (by kernel_rfl) (fun K hK => ?_)
                  go_big_quiet_op
                  refine hK _ ?_; clear hK K
                  refine OrdR.ord_still rfl rfl (by kernel_rfl) (fun K hK => ?_)
                  go_big_quiet_op
                  refine hK _ ?_; clear hK K
                  refine OrdR.ord_still rfl rfl (by kernel_rfl) (fun K hK => ?_)
                  go_big_quiet_op
                  refine hK _ ?_; clear hK K
                  refine OrdR.ord_still rfl rfl (by kernel_rfl) (fun K hK => ?_)
                  go_big_quiet_op
                  refine hK _ ?_; clear hK K
                  refine OrdR.ord_loud rfl (by kernel_rfl) (fun K hK => ?_)
                  go_big_op
                  refine (reader_At _ _ _ _ _ XR).mono ?_
                  rintro e w3 ⟨rfl, hb3⟩
                  have YP := (hb3.block _ (Array.getElem?_eq_some_iff.1 XP).1).trans XP
                  have YB := (hb3.block _ (Array.getElem?_eq_some_iff.1 XB).1).trans XB
                  have YM := XM.later hb3 (Nat.le_refl _)
                  have YR := XR.later hb3 (Nat.le_refl _)
                  have YG := (hb3.block _ (Array.getElem?_eq_some_iff.1 XG).1).trans XG
                  have YD := (hb3.block _ (Array.getElem?_eq_some_iff.1 XD).1).trans XD
                  have YO := XO.below hb3 (Nat.le_refl _)
                  have Yp := cellR (gb := gb) (show w3.heap[pb]? = _ from YP) (by omega)
                  have Y1 := mdlR1 (gb := gb) YM (by omega)
                  have Y2 := mdlR2 (gb := gb) YM (by omega)
                  have Yb := cellR (gb := gb) (show w3.heap[bb]? = _ from YB) (by omega)
                  clear Xp X1 X2 Xb XP XB XM XR XG XO XD XG0
                  refine hK _ _ ((Only.refl _ _).below hb3 (Nat.le_refl _)) ?_
                  clear hb3
                  clear hK K
                  refine OrdR.ord_still rfl rfl (by kernel_rfl) (fun K hK => ?_)
                  go_big_quiet_op
                  refine hK _ ?_; clear hK K
                  refine OrdR.ord_still rfl rfl (by kernel_rfl) (fun K hK => ?_)
                  go_big_quiet_op
                  refine hK _ ?_; clear hK K
                  refine OrdR.ord_still rfl rfl (by kernel_rfl) (fun K hK => ?_)
                  go_big_quiet_op
                  refine hK _ ?_; clear hK K
                  refine OrdR.ord_still rfl rfl (by kernel_rfl) (fun K hK => ?_)
                  go_big_quiet_op
                  refine hK _ ?_; clear hK K
                  refine OrdR.ord_still rfl rfl (by kernel_rfl) (fun K hK => ?_)
                  go_big_quiet_op
                  refine hK _ ?_; clear hK K
                  refine OrdR.ord_still rfl rfl (by kernel_rfl) (fun K hK => ?_)
                  go_big_quiet_op
                  refine hK _ ?_; clear hK K
                  refine OrdR.ord_still rfl rfl (by kernel_rfl) (fun K hK => ?_)
                  go_big_quiet_op
                  refine hK _ ?_; clear hK K
                  refine OrdR.ord_still rfl rfl (by kernel_rfl) (fun K hK => ?_)
                  go_big_quiet_op
                  refine hK _ ?_; clear hK K
                  refine OrdR.ord_still rfl rfl (by kernel_rfl) (fun K hK => ?_)
                  go_big_quiet_op
                  refine hK _ ?_; clear hK K
                  refine OrdR.ord_still rfl rfl (by kernel_rfl) (fun K hK => ?_)
                  go_big_quiet_op
                  refine hK _ ?_; clear hK K
                  refine OrdR.ord_still rfl rfl (by kernel_rfl) (fun K hK => ?_)
                  go_big_quiet_op
                  refine hK _ ?_; clear hK K
                  refine OrdR.ord_loud rfl (by kernel_rfl) (fun K hK => ?_)
                  go_big_op
                  refine (reader_Left _ _ _ _ _ YR).mono ?_
                  rintro e w4 ⟨rfl, hb4⟩
                  have ZP := (hb4.block _ (Array.getElem?_eq_some_iff.1 YP).1).trans YP
                  have ZB := (hb4.block _ (Array.getElem?_eq_some_iff.1 YB).1).trans YB
                  have ZM := YM.later hb4 (Nat.le_refl _)
                  have ZR := YR.later hb4 (Nat.le_refl _)
                  have ZG := (hb4.block _ (Array.getElem?_eq_some_iff.1 YG).1).trans YG
                  have ZD := (hb4.block _ (Array.getElem?_eq_some_iff.1 YD).1).trans YD
                  have ZO := YO.below hb4 (Nat.le_refl _)
                  have Zp := cellR (gb := gb) (show w4.heap[pb]? = _ from ZP) (by omega)
                  have Z1 := mdlR1 (gb := gb) ZM (by omega)
                  have Z2 := mdlR2 (gb := gb) ZM (by omega)
                  have Zb := cellR (gb := gb) (show w4.heap[bb]? = _ from ZB) (by omega)
                  have G0 := cell_of_one ZG
                  have G1 := free_of_one ZG
                  clear Yp Y1 Y2 Yb YP YB YM YR YG YO YD
                  refine hK _ _ ((Only.refl _ _).below hb4 (Nat.le_refl _)) ?_
                  clear hb4
                  clear hK K
                  refine OrdR.ord_still rfl rfl (by kernel_rfl) (fun K hK => ?_)
                  go_big_quiet_op
                  refine hK _ ?_; clear hK K
                  refine OrdR.ord_still rfl rfl (by kernel_rfl) (fun K hK => ?_)
                  go_big_quiet_op
                  refine hK _ ?_; clear hK K
                  refine OrdR.ord_still rfl rfl (by kernel_rfl) (fun K hK => ?_)
                  go_big_quiet_op
                  refine hK _ ?_; clear hK K
                  refine OrdR.ord_still rfl rfl (by kernel_rfl) (fun K hK => ?_)
                  go_big_quiet_op
                  refine hK _ ?_; clear hK K
                  refine OrdR.ord_still rfl rfl (by kernel_rfl) (fun K hK => ?_)
                  go_big_quiet_op
                  refine hK _ ?_; clear hK K
                  refine OrdR.ord_still rfl rfl (by kernel_rfl) (fun K hK => ?_)
                  go_big_quiet_op
                  refine hK _ ?_; clear hK K
                  refine OrdR.ord_still rfl rfl (by kernel_rfl) (fun K hK => ?_)
                  go_big_quiet_op
                  refine hK _ ?_; clear hK K
                  refine OrdR.ord_still rfl rfl (by kernel_rfl) (fun K hK => ?_)
                  go_big_quiet_op
                  refine hK _ ?_; clear hK K
                  refine OrdR.ord_still rfl rfl (by kernel_rfl) (fun K hK => ?_)
                  go_big_quiet_op
                  refine hK _ ?_; clear hK K
                  refine OrdR.ord_loud rfl (by kernel_rfl) (fun K hK => ?_)
                  go_big_op
                  refine hK _ _ (Only.setCell (S := fun j => j = gb) (Only.refl _ _) (p := ⟨gb, 0, none⟩) rfl _) ?_
                  clear hK K
                  refine OrdR.ord_nil ?_
                  have HD2 := Lib.hid ((Below.heap_setCell w4 ⟨gb, 0, none⟩ (.bool true) db (by show db ≠ gb; omega)).trans ZD)
                  have HR2 := Lib.hid (ZR.setVar (p := ⟨gb, 0, none⟩) (by show gb ≠ g; omega) (fun i hi => (HBV.out i hi).1) (.bool true))
                  have HM2 := Lib.hid (ZM.setVar (p := ⟨gb, 0, none⟩) (by show gb ≠ mb; omega) (fun i hi => (HBV.out i hi).1) (.bool true))
                  have HG2 := Lib.hid (one_setCell (u := .bool true) ZG)
                  have HO2 := Lib.hid (ZO.setCell (p := ⟨gb, 0, none⟩) (.inr (.inr (.inl rfl))) (.bool true))
                  clear Zp Z1 Z2 Zb ZP ZB ZM ZR ZG ZO ZD G0 G1
                  go_wp2
                  go_roundw
                  case rel => exact ⟨j + 1, K, by omega, by go_num, HR2, HM2, HG2, HD2, HO2⟩
                  case measure => simp [intOf]; omega
                · obtain ⟨rfl, hg1, hE2⟩ := h.no hx
                  rw [HNO.out hx] at hE2
                  have hE := HE.out
                  rw [HNO.out hx] at hE
                  have H1 := Lib.hid hM2
                  have H2 := Lib.hid hOb2
                  have H3 := Lib.hid hD2
                  have H4 := Lib.hid hG2
                  have H5 := Lib.hid hO2
                  have H6 := Lib.hid hE2
                  have H7 := Lib.hid hE
                  clear h hA1 hM2 hP2 hB2 hOb2 hG2 hD2 hC2 hO2 hE2 hE
                  go_wp2
                  exact ⟨rfl, H5.out.mono (fun j hj => by omega), H4.out, k, X, .inr ⟨hx, rfl, H6.out⟩, H1.out, .inr ⟨hx, H2.out, j, hlt, H3.out, by rw [HC.out]; exact H7.out⟩⟩
              · have hn0 : (kind == 0) = false := by simpa using h0
                have hn1 : (kind == 1) = false := by simpa using h1
                have hn2 : (kind == 2) = false := by simpa using h2
                have hn3 : (kind == 3) = false := by simpa using h3
                have hn4 : (kind == 4) = false := by simpa using h4
                have hP1 := HO1.out.keep HPB.out (by omega)
                have hB1 := HO1.out.keep HBB.out (by omega)
                have HP1 := Lib.hid hP1
                have HB1 := Lib.hid hB1
                clear hP1 hB1
                go_wp2_with fail
                generalize (wr.setCell ⟨db, 0, none⟩ (.int .i64 ((j : Int) + 1))).alloc (.cells #[.int .i64 kind, .int .i64 many, .int .u64 (mo : Int), .bool ok, .int .u8 (en : Int)] 34) = wx at HR1 HM1 HO1 HG1 HD1 HC1 HP1 HB1 ⊢
                clear hc0 hc1 hc2 hc3 hc4 D0 D1
                have hR9 := HR1.out
                have hM9 := HM1.out
                have hG9 := HG1.out
                have hO9 := HO1.out
                have hP9 := HP1.out
                have hB9 := HB1.out
                have hD9 := HD1.out
                clear HR1 HM1 HO1 HG1 HD1 HC1 HP1 HB1
                obtain ⟨XP, XB, XM, XR, XG, XO, XD⟩ : wx.drew.heap[pb]? = some (.cells #[.pointer (some ⟨mb, 0, none⟩)] 25 (0, 0)) ∧ wx.drew.heap[bb]? = some (.cells #[v] 22 (0, 0)) ∧ Mdl wx.drew mb v l k 0 ∧ Rdr wx.drew g v l k ∧ wx.drew.heap[gb]? = some (.cells #[.bool true] 4 (0, 0)) ∧ Only (fun j => j = g ∨ j = mb ∨ j = gb ∨ j = db) w wx.drew ∧ wx.drew.heap[db]? = some (.cells #[.int .i64 ((j + 1 : Nat) : Int)] 3 (0, 0)) :=
                  ⟨hP9, hB9, hM9.drew, hR9.drew, hG9, hO9.drew, hD9⟩
                have Xp := cellR (gb := gb) (show wx.drew.heap[pb]? = _ from XP) (by omega)
                have X1 := mdlR1 (gb := gb) XM (by omega)
                have X2 := mdlR2 (gb := gb) XM (by omega)
                have Xb := cellR (gb := gb) (show wx.drew.heap[bb]? = _ from XB) (by omega)
                have XG0 := cell_of_one XG
                have hsub : (l.length : Int) - (k : Int) = ((l.length - k : Nat) : Int) := by have := hM9.le; omega
                clear hP9 hB9 hM9 hR9 hG9 hO9 hD9
                refine OrdR.wp_region_ord hway [(0, true), (1, false), (2, false), (4, false), (5, false), (6, false), (7, false), (3, true), (8, false), (9, false), (10, false), (11, false), (13, false), (14, false), (15, false), (16, false), (17, false), (18, false), (19, false), (12, true), (20, false), (21, false), (22, false), (23, false), (24, false), (25, false), (26, false), (27, false), (28, false), (29, true)] (by kernel_rfl) rfl (by kernel_rfl) (by kernel_rfl) (fun _ _ _ d _ h => by cases d <;> exact h) ?_
                refine OrdR.ord_loud rfl (by kernel_rfl) (fun K hK => ?_)
                go_big_op
                refine hK _ _ (hway.refl _) ?_
                clear hK K
                refine OrdR.ord_still rfl rfl (by kernel_rfl) (fun K hK => ?_)
                go_big_quiet_op
                refine hK _ ?_; clear hK K
                refine OrdR.ord_still rfl rfl (by kernel_rfl) (fun K hK => ?_)
                go_big_quiet_op
                refine hK _ ?_; clear hK K
                refine OrdR.ord_still rfl rfl (by kernel_rfl) (fun K hK => ?_)
                go_big_quiet_op
                refine hK _ ?_; clear hK K
                refine OrdR.ord_still rfl rfl (by kernel_rfl) (fun K hK => ?_)
                go_big_quiet_op
                refine hK _ ?_; clear hK K
                refine OrdR.ord_still rfl rfl (by kernel_rfl) (fun K hK => ?_)
                go_big_quiet_op
                refine hK _ ?_; clear hK K
                refine OrdR.ord_still rfl rfl (by kernel_rfl) (fun K hK => ?_)
                go_big_quiet_op
                refine hK _ ?_; clear hK K
                refine OrdR.ord_loud rfl (by kernel_rfl) (fun K hK => ?_)
                go_big_op
                refine (reader_At _ _ _ _ _ XR).mono ?_
                rintro e w3 ⟨rfl, hb3⟩
                have YP := (hb3.block _ (Array.getElem?_eq_some_iff.1 XP).1).trans XP
                have YB := (hb3.block _ (Array.getElem?_eq_some_iff.1 XB).1).trans XB
                have YM := XM.later hb3 (Nat.le_refl _)
                have YR := XR.later hb3 (Nat.le_refl _)
                have YG := (hb3.block _ (Array.getElem?_eq_some_iff.1 XG).1).trans XG
                have YD := (hb3.block _ (Array.getElem?_eq_some_iff.1 XD).1).trans XD
                have YO := XO.below hb3 (Nat.le_refl _)
                have Yp := cellR (gb := gb) (show w3.heap[pb]? = _ from YP) (by omega)
                have Y1 := mdlR1 (gb := gb) YM (by omega)
                have Y2 := mdlR2 (gb := gb) YM (by omega)
                have Yb := cellR (gb := gb) (show w3.heap[bb]? = _ from YB) (by omega)
                clear Xp X1 X2 Xb XP XB XM XR XG XO XD XG0
                refine hK _ _ ((Only.refl _ _).below hb3 (Nat.le_refl _)) ?_
                clear hb3
                clear hK K
                refine OrdR.ord_still rfl rfl (by kernel_rfl) (fun K hK => ?_)
                go_big_quiet_op
                refine hK _ ?_; clear hK K
                refine OrdR.ord_still rfl rfl (by kernel_rfl) (fun K hK => ?_)
                go_big_quiet_op
                refine hK _ ?_; clear hK K
                refine OrdR.ord_still rfl rfl (by kernel_rfl) (fun K hK => ?_)
                go_big_quiet_op
                refine hK _ ?_; clear hK K
                refine OrdR.ord_still rfl rfl (by kernel_rfl) (fun K hK => ?_)
                go_big_quiet_op
                refine hK _ ?_; clear hK K
                refine OrdR.ord_still rfl rfl (by kernel_rfl) (fun K hK => ?_)
                go_big_quiet_op
                refine hK _ ?_; clear hK K
                refine OrdR.ord_still rfl rfl (by kernel_rfl) (fun K hK => ?_)
                go_big_quiet_op
                refine hK _ ?_; clear hK K
                refine OrdR.ord_still rfl rfl (by kernel_rfl) (fun K hK => ?_)
                go_big_quiet_op
                refine hK _ ?_; clear hK K
                refine OrdR.ord_still rfl rfl (by kernel_rfl) (fun K hK => ?_)
                go_big_quiet_op
                refine hK _ ?_; clear hK K
                refine OrdR.ord_still rfl rfl (by kernel_rfl) (fun K hK => ?_)
                go_big_quiet_op
                refine hK _ ?_; clear hK K
                refine OrdR.ord_still rfl rfl (by kernel_rfl) (fun K hK => ?_)
                go_big_quiet_op
                refine hK _ ?_; clear hK K
                refine OrdR.ord_still rfl rfl (by kernel_rfl) (fun K hK => ?_)
                go_big_quiet_op
                refine hK _ ?_; clear hK K
                refine OrdR.ord_loud rfl (by kernel_rfl) (fun K hK => ?_)
                go_big_op
                refine (reader_Left _ _ _ _ _ YR).mono ?_
                rintro e w4 ⟨rfl, hb4⟩
                have ZP := (hb4.block _ (Array.getElem?_eq_some_iff.1 YP).1).trans YP
                have ZB := (hb4.block _ (Array.getElem?_eq_some_iff.1 YB).1).trans YB
                have ZM := YM.later hb4 (Nat.le_refl _)
                have ZR := YR.later hb4 (Nat.le_refl _)
                have ZG := (hb4.block _ (Array.getElem?_eq_some_iff.1 YG).1).trans YG
                have ZD := (hb4.block _ (Array.getElem?_eq_some_iff.1 YD).1).trans YD
                have ZO := YO.below hb4 (Nat.le_refl _)
                have Zp := cellR (gb := gb) (show w4.heap[pb]? = _ from ZP) (by omega)
                have Z1 := mdlR1 (gb := gb) ZM (by omega)
                have Z2 := mdlR2 (gb := gb) ZM (by omega)
                have Zb := cellR (gb := gb) (show w4.heap[bb]? = _ from ZB) (by omega)
                have G0 := cell_of_one ZG
                have G1 := free_of_one ZG
                clear Yp Y1 Y2 Yb YP YB YM YR YG YO YD
                refine hK _ _ ((Only.refl _ _).below hb4 (Nat.le_refl _)) ?_
                clear hb4
                clear hK K
                refine OrdR.ord_still rfl rfl (by kernel_rfl) (fun K hK => ?_)
                go_big_quiet_op
                refine hK _ ?_; clear hK K
                refine OrdR.ord_still rfl rfl (by kernel_rfl) (fun K hK => ?_)
                go_big_quiet_op
                refine hK _ ?_; clear hK K
                refine OrdR.ord_still rfl rfl (by kernel_rfl) (fun K hK => ?_)
                go_big_quiet_op
                refine hK _ ?_; clear hK K
                refine OrdR.ord_still rfl rfl (by kernel_rfl) (fun K hK => ?_)
                go_big_quiet_op
                refine hK _ ?_; clear hK K
                refine OrdR.ord_still rfl rfl (by kernel_rfl) (fun K hK => ?_)
                go_big_quiet_op
                refine hK _ ?_; clear hK K
                refine OrdR.ord_still rfl rfl (by kernel_rfl) (fun K hK => ?_)
                go_big_quiet_op
                refine hK _ ?_; clear hK K
                refine OrdR.ord_still rfl rfl (by kernel_rfl) (fun K hK => ?_)
                go_big_quiet_op
                refine hK _ ?_; clear hK K
                refine OrdR.ord_still rfl rfl (by kernel_rfl) (fun K hK => ?_)
                go_big_quiet_op
                refine hK _ ?_; clear hK K
                refine OrdR.ord_still rfl rfl (by kernel_rfl) (fun K hK => ?_)
                go_big_quiet_op
                refine hK _ ?_; clear hK K
                refine OrdR.ord_loud rfl (by kernel_rfl) (fun K hK => ?_)
                go_big_op
                refine hK _ _ (Only.setCell (S := fun j => j = gb) (Only.refl _ _) (p := ⟨gb, 0, none⟩) rfl _) ?_
                clear hK K
                refine OrdR.ord_nil ?_
                have HD2 := Lib.hid ((Below.heap_setCell w4 ⟨gb, 0, none⟩ (.bool true) db (by show db ≠ gb; omega)).trans ZD)
                have HR2 := Lib.hid (ZR.setVar (p := ⟨gb, 0, none⟩) (by show gb ≠ g; omega) (fun i hi => (HBV.out i hi).1) (.bool true))
                have HM2 := Lib.hid (ZM.setVar (p := ⟨gb, 0, none⟩) (by show gb ≠ mb; omega) (fun i hi => (HBV.out i hi).1) (.bool true))
                have HG2 := Lib.hid (one_setCell (u := .bool true) ZG)
                have HO2 := Lib.hid (ZO.setCell (p := ⟨gb, 0, none⟩) (.inr (.inr (.inl rfl))) (.bool true))
                clear Zp Z1 Z2 Zb ZP ZB ZM ZR ZG ZO ZD G0 G1
                go_wp2
                go_roundw
                case rel => exact ⟨j + 1, k, by omega, by go_num, HR2, HM2, HG2, HD2, HO2⟩
                case measure => simp [intOf]; omega
    · obtain rfl : j = cl.length := by omega
      have hOb := HO.out.keep HOB.out (by omega)
      have o0 := cell_of_one hOb
      have o1 := free_of_one hOb
      have hR5 := HR.out.setVar (p := ⟨ob, 0, none⟩) (by show ob ≠ g; omega) (fun i hi => (HBV.out i hi).2.2) (.bool true)
      have hM5 := HM.out.setVar (p := ⟨ob, 0, none⟩) (by show ob ≠ mb; omega) (fun i hi => (HBV.out i hi).2.2) (.bool true)
      have hO5 := (HO.out.mono (T := fun j => j = g ∨ j = mb ∨ j = gb ∨ j = db ∨ j = ob) (fun j hj => by omega)).setCell (p := ⟨ob, 0, none⟩) (.inr (.inr (.inr (.inr rfl)))) (.bool true)
      have hob5 := one_setCell (u := .bool true) hOb
      have hD5 := (Below.heap_setCell wr ⟨ob, 0, none⟩ (.bool true) db (by show db ≠ ob; omega)).trans HD.out
      have hG5 := (Below.heap_setCell wr ⟨ob, 0, none⟩ (.bool true) gb (by show gb ≠ ob; omega)).trans HG.out
      have H1 := Lib.hid hR5
      have H2 := Lib.hid hM5
      have H3 := Lib.hid hO5
      have H4 := Lib.hid hob5
      have H5 := Lib.hid hD5
      have H6 := Lib.hid hG5
      clear hOb hR5 hM5 hO5 hob5 hD5 hG5
      go_wp2
      go_end0
      exact ⟨H3.out, H6.out, k, 0, .inl ⟨rfl, rfl, H1.out⟩, H2.out, .inl ⟨rfl, H4.out, H5.out⟩⟩

end Go.Proofs.Ytojjfocnkdijpaa
