/- -/
import Derived.Test.YtmbpdpcinhhclaaGreatDoorKTrcS
import Derived.Test.YtmbpdpcinhhclaaGreatDoorKTrcP
import Derived.Test.YtmbpdpcinhhclaaGreatDoorKTrcL
import Derived.Deep.RegionHeld3
import Derived.Deep.DeepCutAuto
import Derived.Deep.QuietTactic
import Derived.BigQuiet
set_option linter.unusedVariables false
set_option linter.unusedSimpArgs false
set_option maxRecDepth 1000000
namespace Go.Proofs.YtmbpdpcinhhclaaGreatDoor
open Go.RowKit Go.Shelf

theorem stepZ_append {ops : Array Oper} {a : Act} {w : World} {K : Act → World → Prop} {Q : Exit → Act → World → Prop} {E : Prop} {dst : Option Tmp} {ty : TypeId} {pos : String} {aft : Array Edge} {s x : Operand} {gu : Option (Nat × Bool)} {ts : List EntV}
    (base : Nat) (sv xv : Value) (us : List EntV) (hw : Region.wanted ⟨dst, .call ⟨.builtin .append, #[s, x], #[23, 23]⟩, ty, pos, aft, gu⟩ (yielded ops a.tmps) = true)
    (hs : a.eval s = sv) (ho : OwnG entryE w base sv (ts.map enV)) (hx : a.eval x = xv) (hr : RdG entryE w xv (us.map enV)) (hone : ∀ t ∈ us, RdP w t.1 t.2.2.2)
    (hn : (ts.length + us.length) * 40 ≤ 140737488355328) (hbase : base ≤ w.heap.size)
    (B : Nat) (w0 : World) (hb : Below B w0 w) (hBb : B ≤ base)
    (h : ∀ v' w', OwnG entryE w' base v' ((ts ++ us).map enV) → Below B w0 w' → w.grownBy w' sv.ownBlock → K (a.put dst v') w') :
    if Region.wanted ⟨dst, .call ⟨.builtin .append, #[s, x], #[23, 23]⟩, ty, pos, aft, gu⟩ (yielded ops a.tmps) = true then Oper.wp Tryz.prog ⟨dst, .call ⟨.builtin .append, #[s, x], #[23, 23]⟩, ty, pos, aft, gu⟩ a w K Q else E := by
  rw [if_pos hw]
  refine wpG_appendAll entryOk base sv hs ho xv hx hr ?_ (by rw [List.length_map, List.length_map]; exact hn) (by rw [List.length_map, List.length_map]; omega) hbase B w0 hb hBb (fun v' w' h1 h2 h3 _ => h v' w' (by rw [List.map_append]; exact h1) h2 h3)
  intro y hy
  obtain ⟨t, ht, rfl⟩ := List.mem_map.1 hy
  exact enV_one (hone t ht)


section
variable (w : World) (o p q : Obj)
theorem al0 : (w.alloc o).heap[w.heap.size]? = some o := heap_alloc_new w o
theorem al1 : ((w.alloc o).alloc p).heap[w.heap.size + 1]? = some p := by have := heap_alloc_new (w.alloc o) p; simpa using this
theorem al10 : ((w.alloc o).alloc p).heap[w.heap.size]? = some o := (Below.heap_alloc _ _ _ (by simp)).trans (al0 w o)
theorem al2 : (((w.alloc o).alloc p).alloc q).heap[w.heap.size + 1 + 1]? = some q := by have := al1 (w.alloc o) p q; simpa using this
theorem al21 : (((w.alloc o).alloc p).alloc q).heap[w.heap.size + 1]? = some p := by have := al10 (w.alloc o) p q; simpa using this
theorem al20 : (((w.alloc o).alloc p).alloc q).heap[w.heap.size]? = some o := (Below.heap_alloc _ _ _ (by simp; omega)).trans (al10 w o p)
theorem al_old {w : World} {o x : Obj} {i : Nat} (h : w.heap[i]? = some x) : (w.alloc o).heap[i]? = some x := (Below.heap_alloc _ _ _ (Array.getElem?_eq_some_iff.1 h).1).trans h
end
theorem ownZ_at {w : World} {base g : Nat} (hg : w.heap[g]? = some (.cells #[] 71 (0, 0))) (hb : base ≤ g) : OwnG entryE w base (.slice (some ⟨g, 0, none⟩) 0 0) (([] : List EntV).map enV) := by
  refine ⟨⟨rfl, .inr ⟨g, 0, #[], rfl, hb, hg, Nat.le_refl _, ?_⟩⟩, by simp, by simp⟩
  simp
theorem fin13 {w8 wc : World} {g3 : Nat} {sv v : Value} {vs : List (List Value)} (t3 : wc.heap[g3]? = some (.cells #[.slice none 0 0, .slice none 0 0] 25 (0, 0))) (hO : OwnG entryE wc w8.heap.size v vs) (hS : Below w8.heap.size w8 wc) (hg : w8.heap.size ≤ g3) :
    Tbox ((wc.setCell ⟨g3, 0, none⟩ sv).setCell ⟨g3, 1, none⟩ v) g3 sv v ∧ OwnG entryE ((wc.setCell ⟨g3, 0, none⟩ sv).setCell ⟨g3, 1, none⟩ v) w8.heap.size v vs ∧ Below w8.heap.size w8 ((wc.setCell ⟨g3, 0, none⟩ sv).setCell ⟨g3, 1, none⟩ v) := by
  have t4 : Tbox wc g3 (.slice none 0 0) (.slice none 0 0) := t3
  have hO9 : Only (fun j => j = g3) wc ((wc.setCell ⟨g3, 0, none⟩ sv).setCell ⟨g3, 1, none⟩ v) := ((Only.refl (fun j => j = g3) _).setCell (p := ⟨g3, 0, none⟩) rfl _).setCell (p := ⟨g3, 1, none⟩) rfl _
  exact ⟨t4.both sv v, hO.stay hO9 (fun q hq e => by subst e; exact hO.notOf t3 (by decide) hq), (hS.setCell (p := ⟨g3, 0, none⟩) hg _).setCell (p := ⟨g3, 1, none⟩) hg _⟩
abbrev S13 (w : World) (g eb : Nat) (sv ev : Value) (kd s2 : Int) (pv : Value) (z : World) : Prop :=
  Below w.heap.size w z ∧ z.cell? ⟨g, 0, none⟩ = some sv ∧ z.cell? ⟨g, 1, none⟩ = some ev ∧ z.cell? ⟨eb, 0, none⟩ = some (.int .i64 kd) ∧ z.cell? ⟨eb, 1, none⟩ = some (.int .i64 s2) ∧ z.cell? ⟨eb, 2, none⟩ = some pv

theorem twice_list {α : Type} [Inhabited α] {es : List α} {k : Nat} (h : k < es.length) : es = es.take k ++ es.getD k default :: es.drop (k + 1) ∧ es.take (k + 1) ++ [es.getD k default] ++ es.drop (k + 1) = es.take k ++ es.getD k default :: es.getD k default :: es.drop (k + 1) := by
  have e : es.getD k default = es[k] := by simp [List.getD, h]
  rw [e]
  constructor
  · rw [← List.drop_eq_getElem_cons h, List.take_append_drop]
  · rw [List.take_succ_eq_append_getElem h]; simp only [List.append_assoc, List.cons_append, List.nil_append]
theorem trE_twice {cs : List ColB} {es : List EntB} {k : Nat} (hk : k < es.length) (h4 : es.length < 4096) (hO : ∀ x ∈ es, EnO x) (h0 : errS (colsL cs) = 0) (h : (trW cs 0 0 [] es).2.2.2.2 = 0) :
    ((es.getD k default).1 = 1 ∧ (trE cs (es.take (k + 1) ++ [es.getD k default] ++ es.drop (k + 1))).2.2.2.2 = 0 ∧ (trE cs (es.take (k + 1) ++ [es.getD k default] ++ es.drop (k + 1))).2.2.2.1 = es.length + 1) ∨
    ((es.getD k default).1 = 0 ∧ trE cs (es.take (k + 1) ++ [es.getD k default] ++ es.drop (k + 1)) = ([], 0, [], k + 1, 14)) := by
  obtain ⟨e1, e2⟩ := twice_list hk
  rw [e2]
  have hl := congrArg List.length e1
  rw [List.length_append, List.length_cons] at hl
  have hta : (es.take k).length = k := by rw [List.length_take]; omega
  rcases trW_twice (cs := cs) (a := es.take k) (c := es.drop (k + 1)) (x := es.getD k default) (by rw [← e1]; exact hO) (by rw [← e1]; exact h) (by rw [← e1]; exact h4) with ⟨a1, a2, a3⟩ | ⟨a1, a2⟩
  · refine .inl ⟨a1, ?_⟩
    rw [trE_of h0 a2]
    exact ⟨a2, by rw [show ((hdB (colsL cs) ++ (trW cs 0 0 [] (es.take k ++ es.getD k default :: es.getD k default :: es.drop (k + 1))).1, (trW cs 0 0 [] (es.take k ++ es.getD k default :: es.getD k default :: es.drop (k + 1))).2) : List UInt8 × Int × List PairB × Nat × Nat).2.2.2.1 = (trW cs 0 0 [] (es.take k ++ es.getD k default :: es.getD k default :: es.drop (k + 1))).2.2.2.1 from rfl, a3]; omega⟩
  · refine .inr ⟨a1, ?_⟩
    unfold trE
    rw [if_neg (fun h => h h0), a2, if_pos (by simp)]
    rw [hta]

set_option maxHeartbeats 32000000 in
theorem traceSwaps_K (v : Value) (cs : List ColB) (es : List EntB) (q : Int) (w : World) (hT : RdT13 w v cs es) (hC : CS cs) (hO : ∀ x ∈ es, EnO x) (hq : 0 ≤ q ∧ q ≤ 255) (K : TrcK w) :
    Calls Tryz.prog 11 #[v, .int .u8 q] w fun e w' => e = .returned (.bool true) ∧ Below w.heap.size w w' := by
  obtain ⟨sv, ev, rfl, hR, hZ⟩ := hT
  obtain ⟨ae, ne, ce, rfl⟩ := hZ.lit
  obtain ⟨ac, nc, cc, rfl⟩ := hR.lit12
  have HT := Lib.hid (fun wz (hz : Below w.heap.size w wz) => show RdT13 wz (.agg #[.slice ac nc cc, .slice ae ne ce]) cs es from ⟨_, _, rfl, hR.later hz (Nat.le_refl _), hZ.later hz (Nat.le_refl _)⟩)
  have HZ := Lib.hid hZ
  have hle := hZ.len
  have hles := hZ.small
  have HRC := Lib.hid (fun wz (hz : Below w.heap.size w wz) => hR.later hz (Nat.le_refl _))
  obtain ⟨N1, N2⟩ := new_one12 w (.cells #[.slice ac nc cc, .slice ae ne ce] 25)
  have HX := Lib.hid (show Tbox (w.alloc (.cells #[.slice ac nc cc, .slice ae ne ce] 25)) w.heap.size (.slice ac nc cc) (.slice ae ne ce) from N1)
  have HB := Lib.hid N2
  have HC := Lib.hid hC
  have HO := Lib.hid hO
  clear hR hZ N1 N2 hC hO
  go_enter Tryz.func11, Tryz.ntmps11
  go_wp2_with fail
  generalize w.alloc (.cells #[.slice ac nc cc, .slice ae ne ce] 25) = w0 at *
  obtain ⟨g, hg⟩ : ∃ g, g = w.heap.size := ⟨_, rfl⟩
  rw [← hg] at HX
  rw [← hg]
  have HG := Lib.hid hg
  clear hg
  refine (K.alive w0 HB.out).mono ?_
  rintro e w1 ⟨rfl, hb⟩
  replace HX := Lib.hid (HX.out.later hb)
  replace HB := Lib.hid (HB.out.trans (hb.mono HB.out.size))
  clear hb
  obtain ⟨c0, c1⟩ := HX.out.cells
  go_wp2_with fail
  refine (law13_great _ cs es w1 (HT.out w1 HB.out)).mono ?_
  rintro e w2 ⟨x, rfl, hx, hf, hb⟩
  replace HX := Lib.hid (HX.out.later hb)
  replace HB := Lib.hid (HB.out.trans (hb.mono HB.out.size))
  clear hb c0 c1
  obtain ⟨c0, c1⟩ := HX.out.cells
  rcases hx with rfl | rfl
  · have hfew := hf rfl
    obtain ⟨n, hn⟩ : ∃ n, n = es.length := ⟨_, rfl⟩
    rw [← hn] at hle hles
    have hn30 : n ≤ 30 := by rw [hn]; exact hfew.1
    have HN := Lib.hid hn
    clear hn
    by_cases hn0 : n = 0
    · subst hn0
      clear hf hfew
      go_wp2_with fail
      refine (K.alive w2 HB.out).mono ?_
      rintro e w3 ⟨rfl, hb⟩
      replace HB := Lib.hid (HB.out.trans (hb.mono HB.out.size))
      clear hb
      go_wp2
      go_ret
      exact ⟨rfl, HB.out⟩
    · have q0 : ((n : Int) == 0) = false := by rw [beq_eq_false_iff_ne]; omega
      have EA := Lib.hid (fun wz hz => K.encode wz _ cs es hz (HT.out wz hz) HC.out HO.out)
      have EB := Lib.hid (fun wz v fs hz h ho => K.encode wz v cs fs hz h HC.out ho)
      have hpt := trE_parts (cs := cs) (es := es)
      obtain ⟨R, hRR⟩ : ∃ R, R = trE cs es := ⟨_, rfl⟩
      rw [← hRR] at EA hpt
      obtain ⟨r, s, vw, i, y⟩ := R
      dsimp only at hpt
      have HPT := Lib.hid hpt
      have HN0 := Lib.hid hn0
      clear hf hfew hRR hpt K
      go_wp2_with fail
      refine (EA.out w2 HB.out).mono ?_
      rintro e w3 ⟨bv, rfl, ho, hb⟩
      replace HX := Lib.hid (HX.out.later hb)
      replace HB := Lib.hid (HB.out.trans (hb.mono HB.out.size))
      clear hb ho c0 c1 EA hn0
      dsimp only
      obtain ⟨c0, c1⟩ := HX.out.cells
      by_cases hy : y = 0
      · subst hy
        obtain ⟨p1, p2, _⟩ := HPT.out (by simp)
        obtain ⟨k, hk⟩ : ∃ k : Nat, (k : Int) = q % (n : Int) := ⟨(q % (n : Int)).toNat, by have := Int.emod_nonneg q (b := (n : Int)) (by have := HN0.out; omega); omega⟩
        have hkn : k < n := by have := Int.emod_lt_of_pos q (b := (n : Int)) (by have := HN0.out; omega); omega
        have hke : k < es.length := by rw [← HN.out]; exact hkn
        have hrem : Int.tmod q (n : Int) = (k : Int) := by rw [hk, Int.tmod_eq_emod_of_nonneg hq.1]
        obtain ⟨b9, o9, pv, hidx, y0, y1, y2, hpv, hbl⟩ := HZ.out.get hke
        obtain ⟨x, hx⟩ : ∃ x, x = es.getD k default := ⟨_, rfl⟩
        have HXE := Lib.hid hx
        rw [← hx] at y0 y1 hpv
        obtain ⟨kd, s2, ps⟩ := x
        dsimp only at y0 y1 y2 hpv
        obtain ⟨ap, np, cp, rfl⟩ := hpv.lit12
        have e0 := keep_cell HB.out y0
        have e1 := keep_cell HB.out y1
        have e2 := keep_cell HB.out y2
        have HPV := Lib.hid hpv
        have HKN := Lib.hid hkn
        clear hk hx y0 y1 y2 hpv hke
        obtain ⟨M1, M2⟩ := new_one12 w3 (.cells #[.int .i64 kd, .int .i64 s2, .slice ap np cp] 71)
        obtain ⟨w8, hw8⟩ : ∃ w8, w8 = w3.alloc (.cells #[.int .i64 kd, .int .i64 s2, .slice ap np cp] 71) := ⟨_, rfl⟩
        rw [← hw8] at M1 M2
        obtain ⟨eb, heb⟩ : ∃ eb, eb = w3.heap.size := ⟨_, rfl⟩
        rw [← heb] at M1
        have HE8 := Lib.hid (show Ebox w8 eb kd s2 (.slice ap np cp) from M1)
        have HX8 := Lib.hid (HX.out.later M2)
        have HB8 := Lib.hid (HB.out.trans (M2.mono HB.out.size))
        obtain ⟨za, hsa, hza⟩ := HZ.out.upto (k + 1) (by have := HN.out; have := HKN.out; omega)
        obtain ⟨zc, hsc, hzc⟩ := HZ.out.from (k + 1) (by have := HN.out; have := HKN.out; omega)
        have hsa : ∀ u, (Instr.slice 23 (.slice ae ne ce) none (some (.int .i64 ((k : Int) + 1))) none).run Tryz.prog u = .ok za u := hsa
        have hsc : ∀ u, (Instr.slice 23 (.slice ae ne ce) (some (.int .i64 ((k : Int) + 1))) none none).run Tryz.prog u = .ok zc u := hsc
        have hwr : IntKind.i64.wrap ((k : Int) + 1) = (k : Int) + 1 := by rw [IntKind.wrap_i64]; have := HKN.out; omega
        obtain ⟨ua, va1, va2, va3⟩ := hza w (Below.refl _ _)
        obtain ⟨uc, vc1, vc2, vc3⟩ := hzc w (Below.refl _ _)
        have hla : ua.length ≤ 30 := by have := congrArg List.length va1; rw [List.length_map, List.length_take] at this; have := HN.out; omega
        have hlc : uc.length ≤ 30 := by have := congrArg List.length vc1; rw [List.length_map, List.length_drop] at this; have := HN.out; omega
        have HUA := Lib.hid (And.intro va1 (And.intro va2 va3))
        have HUC := Lib.hid (And.intro vc1 (And.intro vc2 vc3))
        have HW8 := Lib.hid hw8
        have HEB := Lib.hid heb
        have HLA := Lib.hid (And.intro hla hlc)
        have ZW := fun wz (hz : Below w8.heap.size w8 wz) => HB8.out.trans (hz.mono HB8.out.size)
        have RA := Lib.hid (fun wz (hz : Below w8.heap.size w8 wz) => And.intro (va2.later entryOk (ZW wz hz) (Nat.le_refl _)) (fun t ht => (va3 t ht).later (ZW wz hz) (Nat.le_refl _)))
        have RC := Lib.hid (fun wz (hz : Below w8.heap.size w8 wz) => And.intro (vc2.later entryOk (ZW wz hz) (Nat.le_refl _)) (fun t ht => (vc3 t ht).later (ZW wz hz) (Nat.le_refl _)))
        have RX := Lib.hid (fun wz (hz : Below w8.heap.size w8 wz) => HPV.out.later (ZW wz hz) (Nat.le_refl _))
        have Q := Lib.hid (fun wz (hz : Below w8.heap.size w8 wz) => show S13 w8 g eb (.slice ac nc cc) (.slice ae ne ce) kd s2 (.slice ap np cp) wz from And.intro hz (And.intro (HX8.out.later hz).cells.1 (And.intro (HX8.out.later hz).cells.2 (And.intro (HE8.out.later hz).cells.1 (And.intro (HE8.out.later hz).cells.2.1 (HE8.out.later hz).cells.2.2)))))
        have QS := Lib.hid (fun (z : World) (j : Nat) (u v : Value) (h : S13 w8 g eb (.slice ac nc cc) (.slice ae ne ce) kd s2 (.slice ap np cp) z) (hj : w8.heap.size ≤ j) => Q.out _ ((h.1.setCell (p := ⟨j, 0, none⟩) hj u).setCell (p := ⟨j, 1, none⟩) hj v))
        clear M1 M2 hw8 heb HX HB va1 va2 va3 vc1 vc2 vc3 hza hzc ZW hla hlc
        -- the three appends
        have P1 : ∀ {ops : Array Oper} {a : Act} {z : World} {KK : Act → World → Prop} {QQ : Exit → Act → World → Prop} {EE : Prop} {dst : Option Tmp} {ty : TypeId} {pos : String} {aft : Array Edge} {so xo : Operand} {gu : Option (Nat × Bool)} (g1 : Nat),
            Region.wanted ⟨dst, .call ⟨.builtin .append, #[so, xo], #[23, 23]⟩, ty, pos, aft, gu⟩ (yielded ops a.tmps) = true → a.eval so = .slice (some ⟨g1, 0, none⟩) 0 0 → a.eval xo = za →
            z.heap[g1]? = some (.cells #[] 71 (0, 0)) → w8.heap.size ≤ g1 → S13 w8 g eb (.slice ac nc cc) (.slice ae ne ce) kd s2 (.slice ap np cp) z →
            (∀ a1 n1 c1 wa, Hid (OwnG entryE wa w8.heap.size (.slice a1 n1 c1) (ua.map enV)) → S13 w8 g eb (.slice ac nc cc) (.slice ae ne ce) kd s2 (.slice ap np cp) wa →
              Hid (∀ j : Nat, z.heap[j]? = some (.cells #[.slice none 0 0, .slice none 0 0] 25 (0, 0)) → wa.heap[j]? = some (.cells #[.slice none 0 0, .slice none 0 0] 25 (0, 0))) →
              Hid (∀ j : Nat, z.heap[j]? = some (.cells #[.int .i64 kd, .int .i64 s2, .slice ap np cp] 71 (0, 0)) → wa.heap[j]? = some (.cells #[.int .i64 kd, .int .i64 s2, .slice ap np cp] 71 (0, 0))) → KK (a.put dst (.slice a1 n1 c1)) wa) →
            if Region.wanted ⟨dst, .call ⟨.builtin .append, #[so, xo], #[23, 23]⟩, ty, pos, aft, gu⟩ (yielded ops a.tmps) = true then Oper.wp Tryz.prog ⟨dst, .call ⟨.builtin .append, #[so, xo], #[23, 23]⟩, ty, pos, aft, gu⟩ a z KK QQ else EE := by
          intro ops a z KK QQ EE dst ty pos aft so xo gu g1 hw hs hx hg1 hb1 hS h
          have ho := ownZ_at hg1 hb1
          refine stepZ_append w8.heap.size _ za ua hw hs ho hx (RA.out z hS.1).1 (RA.out z hS.1).2 (by have := HLA.out.1; simp; omega) hS.1.size w8.heap.size w8 hS.1 (Nat.le_refl _) (fun v' w' h1 h2 h3 => ?_)
          rw [List.nil_append] at h1
          obtain ⟨a1, n1, c1, rfl⟩ := h1.lit13
          refine h a1 n1 c1 w' (Lib.hid h1) (Q.out w' h2) (Lib.hid (fun j hj => ?_)) (Lib.hid (fun j hj => ?_))
          · exact (h3.block j (Array.getElem?_eq_some_iff.1 hj).1 (fun e => ho.notOf hj (by decide) e.symm)).trans hj
          · refine (h3.block j (Array.getElem?_eq_some_iff.1 hj).1 (fun e => ?_)).trans hj
            injection e with e
            rw [e, hg1] at hj
            cases hj
        have P2 : ∀ {ops : Array Oper} {a : Act} {z : World} {KK : Act → World → Prop} {QQ : Exit → Act → World → Prop} {EE : Prop} {dst : Option Tmp} {ty : TypeId} {pos : String} {aft : Array Edge} {so xo : Operand} {gu : Option (Nat × Bool)} (a1 : Option Addr) (n1 c1 g2 : Nat),
            Region.wanted ⟨dst, .call ⟨.builtin .append, #[so, xo], #[23, 23]⟩, ty, pos, aft, gu⟩ (yielded ops a.tmps) = true → a.eval so = .slice a1 n1 c1 → a.eval xo = .slice (some ⟨g2, 0, none⟩) 1 1 →
            OwnG entryE z w8.heap.size (.slice a1 n1 c1) (ua.map enV) → z.heap[g2]? = some (.cells #[.int .i64 kd, .int .i64 s2, .slice ap np cp] 71 (0, 0)) → S13 w8 g eb (.slice ac nc cc) (.slice ae ne ce) kd s2 (.slice ap np cp) z →
            (∀ a1 n1 c1 wa, Hid (OwnG entryE wa w8.heap.size (.slice a1 n1 c1) ((ua ++ [(Value.slice ap np cp, (kd, s2, ps))]).map enV)) → S13 w8 g eb (.slice ac nc cc) (.slice ae ne ce) kd s2 (.slice ap np cp) wa →
              Hid (∀ j : Nat, z.heap[j]? = some (.cells #[.slice none 0 0, .slice none 0 0] 25 (0, 0)) → wa.heap[j]? = some (.cells #[.slice none 0 0, .slice none 0 0] 25 (0, 0))) → KK (a.put dst (.slice a1 n1 c1)) wa) →
            if Region.wanted ⟨dst, .call ⟨.builtin .append, #[so, xo], #[23, 23]⟩, ty, pos, aft, gu⟩ (yielded ops a.tmps) = true then Oper.wp Tryz.prog ⟨dst, .call ⟨.builtin .append, #[so, xo], #[23, 23]⟩, ty, pos, aft, gu⟩ a z KK QQ else EE := by
          intro ops a z KK QQ EE dst ty pos aft so xo gu a1 n1 c1 g2 hw hs hx ho hg2 hS h
          refine stepZ_append w8.heap.size _ _ [(Value.slice ap np cp, (kd, s2, ps))] hw hs ho hx (rdG_one entryOk (enV (Value.slice ap np cp, (kd, s2, ps))) rfl ⟨g2, 0, none⟩ ⟨g2, 0, rfl⟩ fun j y hj => ?_) (fun t ht => by rw [List.mem_singleton.1 ht]; exact RX.out z hS.1) (by have := HLA.out.1; simp; omega) hS.1.size w8.heap.size w8 hS.1 (Nat.le_refl _) (fun v' w' h1 h2 h3 => ?_)
          · have e : Addr.add ⟨g2, 0, none⟩ j = ⟨g2, j, none⟩ := by simp only [Addr.add]; split <;> simp_all
            rw [e, cell_of_row _ _ _ _ _ _ hg2]
            simpa [enV] using hj
          · obtain ⟨a1, n1, c1, rfl⟩ := h1.lit13
            refine h a1 n1 c1 w' (Lib.hid h1) (Q.out w' h2) (Lib.hid (fun j hj => ?_))
            exact (h3.block j (Array.getElem?_eq_some_iff.1 hj).1 (fun e => ho.notOf hj (by decide) e.symm)).trans hj
        have P3 : ∀ {ops : Array Oper} {a : Act} {z : World} {KK : Act → World → Prop} {QQ : Exit → Act → World → Prop} {EE : Prop} {dst : Option Tmp} {ty : TypeId} {pos : String} {aft : Array Edge} {so xo : Operand} {gu : Option (Nat × Bool)} (a1 : Option Addr) (n1 c1 : Nat),
            Region.wanted ⟨dst, .call ⟨.builtin .append, #[so, xo], #[23, 23]⟩, ty, pos, aft, gu⟩ (yielded ops a.tmps) = true → a.eval so = .slice a1 n1 c1 → a.eval xo = zc →
            OwnG entryE z w8.heap.size (.slice a1 n1 c1) ((ua ++ [(Value.slice ap np cp, (kd, s2, ps))]).map enV) → S13 w8 g eb (.slice ac nc cc) (.slice ae ne ce) kd s2 (.slice ap np cp) z →
            (∀ a1 n1 c1 wa, Hid (OwnG entryE wa w8.heap.size (.slice a1 n1 c1) ((ua ++ [(Value.slice ap np cp, (kd, s2, ps))] ++ uc).map enV)) → S13 w8 g eb (.slice ac nc cc) (.slice ae ne ce) kd s2 (.slice ap np cp) wa →
              Hid (∀ j : Nat, z.heap[j]? = some (.cells #[.slice none 0 0, .slice none 0 0] 25 (0, 0)) → wa.heap[j]? = some (.cells #[.slice none 0 0, .slice none 0 0] 25 (0, 0))) → KK (a.put dst (.slice a1 n1 c1)) wa) →
            if Region.wanted ⟨dst, .call ⟨.builtin .append, #[so, xo], #[23, 23]⟩, ty, pos, aft, gu⟩ (yielded ops a.tmps) = true then Oper.wp Tryz.prog ⟨dst, .call ⟨.builtin .append, #[so, xo], #[23, 23]⟩, ty, pos, aft, gu⟩ a z KK QQ else EE := by
          intro ops a z KK QQ EE dst ty pos aft so xo gu a1 n1 c1 hw hs hx ho hS h
          refine stepZ_append w8.heap.size _ zc uc hw hs ho hx (RC.out z hS.1).1 (RC.out z hS.1).2 (by have := HLA.out; simp; omega) hS.1.size w8.heap.size w8 hS.1 (Nat.le_refl _) (fun v' w' h1 h2 h3 => ?_)
          obtain ⟨a1, n1, c1, rfl⟩ := h1.lit13
          refine h a1 n1 c1 w' (Lib.hid h1) (Q.out w' h2) (Lib.hid (fun j hj => ?_))
          exact (h3.block j (Array.getElem?_eq_some_iff.1 hj).1 (fun e => ho.notOf hj (by decide) e.symm)).trans hj
        clear RA RC RX
        go_wp2_with fail
        rw [← HW8.out, ← HEB.out]
        clear e0 e1 e2 c0 c1
        go_cut [10] (fun s10 wx => ∃ g3 a3 n3 c3, s10 = .pointer (some ⟨g3, 0, none⟩) ∧ Hid (Tbox wx g3 (.slice ac nc cc) (.slice a3 n3 c3) ∧ OwnG entryE wx w8.heap.size (.slice a3 n3 c3) ((ua ++ [(Value.slice ap np cp, (kd, s2, ps))] ++ uc).map enV) ∧ Below w8.heap.size w8 wx))
        case first =>
          have HQ0 := Lib.hid (Q.out w8.drew ((Below.refl _ _).drew))
          go_region_held3 (fun z => Below w8.heap.size w8 z ∧ z.cell? ⟨g, 0, none⟩ = some (.slice ac nc cc) ∧ z.cell? ⟨g, 1, none⟩ = some (.slice ae ne ce) ∧ z.cell? ⟨eb, 0, none⟩ = some (.int .i64 kd) ∧ z.cell? ⟨eb, 1, none⟩ = some (.int .i64 s2) ∧ z.cell? ⟨eb, 2, none⟩ = some (.slice ap np cp)) (first | (assumption) | (exact HQ0.out) | (exact Q.out _ (((Below.refl w8.heap.size w8).alloc (Nat.le_refl _) _).drew)) | (exact Q.out _ ((((Below.refl w8.heap.size w8).alloc (Nat.le_refl _) _).alloc (by simp) _).drew)) | (exact Q.out _ (((((Below.refl w8.heap.size w8).alloc (Nat.le_refl _) _).alloc (by simp) _).alloc (by simp; omega) _).drew)) | (exact Q.out _ (Below.alloc (And.left (by assumption : S13 w8 g eb (.slice ac nc cc) (.slice ae ne ce) kd s2 (.slice ap np cp) _)) (And.left (by assumption : S13 w8 g eb (.slice ac nc cc) (.slice ae ne ce) kd s2 (.slice ap np cp) _)).size _)) | (exact QS.out _ _ _ _ (by assumption) (by omega)))
            ((first
              | (refine P1 (w8.heap.size) (by rfl) (by rfl) (by rfl) (by first | exact al0 _ (.cells #[] 71) | exact al10 _ (.cells #[] 71) _ | exact al1 _ _ (.cells #[] 71) | exact al20 _ (.cells #[] 71) _ _ | exact al21 _ _ (.cells #[] 71) _ | exact al2 _ _ _ (.cells #[] 71)) (by omega) (by assumption) ?_; intro a1 n1 c1 wa hOa hSa hta hxa; have hsa9 := hSa.1.size; (first | (have t1 := hta.out _ (al2 _ _ _ (.cells #[.slice none 0 0, .slice none 0 0] 25))) | (have t1 := hta.out _ (al21 _ _ (.cells #[.slice none 0 0, .slice none 0 0] 25) _)) | (have t1 := hta.out _ (al20 _ (.cells #[.slice none 0 0, .slice none 0 0] 25) _ _)) | (have t1 := hta.out _ (al1 _ _ (.cells #[.slice none 0 0, .slice none 0 0] 25))) | (have t1 := hta.out _ (al10 _ (.cells #[.slice none 0 0, .slice none 0 0] 25) _)) | (have t1 := hta.out _ (al0 _ (.cells #[.slice none 0 0, .slice none 0 0] 25))) | skip))
              | (refine P1 (w8.heap.size + 1) (by rfl) (by rfl) (by rfl) (by first | exact al0 _ (.cells #[] 71) | exact al10 _ (.cells #[] 71) _ | exact al1 _ _ (.cells #[] 71) | exact al20 _ (.cells #[] 71) _ _ | exact al21 _ _ (.cells #[] 71) _ | exact al2 _ _ _ (.cells #[] 71)) (by omega) (by assumption) ?_; intro a1 n1 c1 wa hOa hSa hta hxa; have hsa9 := hSa.1.size; (first | (have t1 := hta.out _ (al2 _ _ _ (.cells #[.slice none 0 0, .slice none 0 0] 25))) | (have t1 := hta.out _ (al21 _ _ (.cells #[.slice none 0 0, .slice none 0 0] 25) _)) | (have t1 := hta.out _ (al20 _ (.cells #[.slice none 0 0, .slice none 0 0] 25) _ _)) | (have t1 := hta.out _ (al1 _ _ (.cells #[.slice none 0 0, .slice none 0 0] 25))) | (have t1 := hta.out _ (al10 _ (.cells #[.slice none 0 0, .slice none 0 0] 25) _)) | (have t1 := hta.out _ (al0 _ (.cells #[.slice none 0 0, .slice none 0 0] 25))) | skip))
              | (refine P1 (w8.heap.size + 1 + 1) (by rfl) (by rfl) (by rfl) (by first | exact al0 _ (.cells #[] 71) | exact al10 _ (.cells #[] 71) _ | exact al1 _ _ (.cells #[] 71) | exact al20 _ (.cells #[] 71) _ _ | exact al21 _ _ (.cells #[] 71) _ | exact al2 _ _ _ (.cells #[] 71)) (by omega) (by assumption) ?_; intro a1 n1 c1 wa hOa hSa hta hxa; have hsa9 := hSa.1.size; (first | (have t1 := hta.out _ (al2 _ _ _ (.cells #[.slice none 0 0, .slice none 0 0] 25))) | (have t1 := hta.out _ (al21 _ _ (.cells #[.slice none 0 0, .slice none 0 0] 25) _)) | (have t1 := hta.out _ (al20 _ (.cells #[.slice none 0 0, .slice none 0 0] 25) _ _)) | (have t1 := hta.out _ (al1 _ _ (.cells #[.slice none 0 0, .slice none 0 0] 25))) | (have t1 := hta.out _ (al10 _ (.cells #[.slice none 0 0, .slice none 0 0] 25) _)) | (have t1 := hta.out _ (al0 _ (.cells #[.slice none 0 0, .slice none 0 0] 25))) | skip))
              | (refine P2 a1 n1 c1 (wa.heap.size) (by rfl) (by rfl) (by rfl) (by first | exact hOa.out | exact hOa.out.alloc _ | exact (hOa.out.alloc _).alloc _) (by first | exact al0 _ (.cells #[.int .i64 kd, .int .i64 s2, .slice ap np cp] 71) | exact al10 _ (.cells #[.int .i64 kd, .int .i64 s2, .slice ap np cp] 71) _ | exact al1 _ _ (.cells #[.int .i64 kd, .int .i64 s2, .slice ap np cp] 71) | exact hxa.out _ (al0 _ (.cells #[.int .i64 kd, .int .i64 s2, .slice ap np cp] 71)) | exact hxa.out _ (al10 _ (.cells #[.int .i64 kd, .int .i64 s2, .slice ap np cp] 71) _) | exact hxa.out _ (al1 _ _ (.cells #[.int .i64 kd, .int .i64 s2, .slice ap np cp] 71)) | exact hxa.out _ (al20 _ (.cells #[.int .i64 kd, .int .i64 s2, .slice ap np cp] 71) _ _) | exact hxa.out _ (al21 _ _ (.cells #[.int .i64 kd, .int .i64 s2, .slice ap np cp] 71) _) | exact hxa.out _ (al2 _ _ _ (.cells #[.int .i64 kd, .int .i64 s2, .slice ap np cp] 71)) | exact al_old (hxa.out _ (al0 _ (.cells #[.int .i64 kd, .int .i64 s2, .slice ap np cp] 71))) | exact al_old (hxa.out _ (al10 _ (.cells #[.int .i64 kd, .int .i64 s2, .slice ap np cp] 71) _)) | exact al_old (hxa.out _ (al1 _ _ (.cells #[.int .i64 kd, .int .i64 s2, .slice ap np cp] 71))) | exact al_old (hxa.out _ (al20 _ (.cells #[.int .i64 kd, .int .i64 s2, .slice ap np cp] 71) _ _)) | exact al_old (hxa.out _ (al21 _ _ (.cells #[.int .i64 kd, .int .i64 s2, .slice ap np cp] 71) _)) | exact al_old (hxa.out _ (al2 _ _ _ (.cells #[.int .i64 kd, .int .i64 s2, .slice ap np cp] 71)))) (by assumption) ?_; intro a2 n2 c2 wb hOb hSb htb; have hsb9 := hSb.1.size; (first | (have t2 := htb.out _ t1) | (have t2 := htb.out _ (al_old t1)) | (have t2 := htb.out _ (al_old (al_old t1))) | (have t2 := htb.out _ (al2 _ _ _ (.cells #[.slice none 0 0, .slice none 0 0] 25))) | (have t2 := htb.out _ (al21 _ _ (.cells #[.slice none 0 0, .slice none 0 0] 25) _)) | (have t2 := htb.out _ (al20 _ (.cells #[.slice none 0 0, .slice none 0 0] 25) _ _)) | (have t2 := htb.out _ (al1 _ _ (.cells #[.slice none 0 0, .slice none 0 0] 25))) | (have t2 := htb.out _ (al10 _ (.cells #[.slice none 0 0, .slice none 0 0] 25) _)) | (have t2 := htb.out _ (al0 _ (.cells #[.slice none 0 0, .slice none 0 0] 25))) | skip))
              | (refine P2 a1 n1 c1 (wa.heap.size + 1) (by rfl) (by rfl) (by rfl) (by first | exact hOa.out | exact hOa.out.alloc _ | exact (hOa.out.alloc _).alloc _) (by first | exact al0 _ (.cells #[.int .i64 kd, .int .i64 s2, .slice ap np cp] 71) | exact al10 _ (.cells #[.int .i64 kd, .int .i64 s2, .slice ap np cp] 71) _ | exact al1 _ _ (.cells #[.int .i64 kd, .int .i64 s2, .slice ap np cp] 71) | exact hxa.out _ (al0 _ (.cells #[.int .i64 kd, .int .i64 s2, .slice ap np cp] 71)) | exact hxa.out _ (al10 _ (.cells #[.int .i64 kd, .int .i64 s2, .slice ap np cp] 71) _) | exact hxa.out _ (al1 _ _ (.cells #[.int .i64 kd, .int .i64 s2, .slice ap np cp] 71)) | exact hxa.out _ (al20 _ (.cells #[.int .i64 kd, .int .i64 s2, .slice ap np cp] 71) _ _) | exact hxa.out _ (al21 _ _ (.cells #[.int .i64 kd, .int .i64 s2, .slice ap np cp] 71) _) | exact hxa.out _ (al2 _ _ _ (.cells #[.int .i64 kd, .int .i64 s2, .slice ap np cp] 71)) | exact al_old (hxa.out _ (al0 _ (.cells #[.int .i64 kd, .int .i64 s2, .slice ap np cp] 71))) | exact al_old (hxa.out _ (al10 _ (.cells #[.int .i64 kd, .int .i64 s2, .slice ap np cp] 71) _)) | exact al_old (hxa.out _ (al1 _ _ (.cells #[.int .i64 kd, .int .i64 s2, .slice ap np cp] 71))) | exact al_old (hxa.out _ (al20 _ (.cells #[.int .i64 kd, .int .i64 s2, .slice ap np cp] 71) _ _)) | exact al_old (hxa.out _ (al21 _ _ (.cells #[.int .i64 kd, .int .i64 s2, .slice ap np cp] 71) _)) | exact al_old (hxa.out _ (al2 _ _ _ (.cells #[.int .i64 kd, .int .i64 s2, .slice ap np cp] 71)))) (by assumption) ?_; intro a2 n2 c2 wb hOb hSb htb; have hsb9 := hSb.1.size; (first | (have t2 := htb.out _ t1) | (have t2 := htb.out _ (al_old t1)) | (have t2 := htb.out _ (al_old (al_old t1))) | (have t2 := htb.out _ (al2 _ _ _ (.cells #[.slice none 0 0, .slice none 0 0] 25))) | (have t2 := htb.out _ (al21 _ _ (.cells #[.slice none 0 0, .slice none 0 0] 25) _)) | (have t2 := htb.out _ (al20 _ (.cells #[.slice none 0 0, .slice none 0 0] 25) _ _)) | (have t2 := htb.out _ (al1 _ _ (.cells #[.slice none 0 0, .slice none 0 0] 25))) | (have t2 := htb.out _ (al10 _ (.cells #[.slice none 0 0, .slice none 0 0] 25) _)) | (have t2 := htb.out _ (al0 _ (.cells #[.slice none 0 0, .slice none 0 0] 25))) | skip))
              | (refine P2 a1 n1 c1 (w8.heap.size) (by rfl) (by rfl) (by rfl) (by first | exact hOa.out | exact hOa.out.alloc _ | exact (hOa.out.alloc _).alloc _) (by first | exact al0 _ (.cells #[.int .i64 kd, .int .i64 s2, .slice ap np cp] 71) | exact al10 _ (.cells #[.int .i64 kd, .int .i64 s2, .slice ap np cp] 71) _ | exact al1 _ _ (.cells #[.int .i64 kd, .int .i64 s2, .slice ap np cp] 71) | exact hxa.out _ (al0 _ (.cells #[.int .i64 kd, .int .i64 s2, .slice ap np cp] 71)) | exact hxa.out _ (al10 _ (.cells #[.int .i64 kd, .int .i64 s2, .slice ap np cp] 71) _) | exact hxa.out _ (al1 _ _ (.cells #[.int .i64 kd, .int .i64 s2, .slice ap np cp] 71)) | exact hxa.out _ (al20 _ (.cells #[.int .i64 kd, .int .i64 s2, .slice ap np cp] 71) _ _) | exact hxa.out _ (al21 _ _ (.cells #[.int .i64 kd, .int .i64 s2, .slice ap np cp] 71) _) | exact hxa.out _ (al2 _ _ _ (.cells #[.int .i64 kd, .int .i64 s2, .slice ap np cp] 71)) | exact al_old (hxa.out _ (al0 _ (.cells #[.int .i64 kd, .int .i64 s2, .slice ap np cp] 71))) | exact al_old (hxa.out _ (al10 _ (.cells #[.int .i64 kd, .int .i64 s2, .slice ap np cp] 71) _)) | exact al_old (hxa.out _ (al1 _ _ (.cells #[.int .i64 kd, .int .i64 s2, .slice ap np cp] 71))) | exact al_old (hxa.out _ (al20 _ (.cells #[.int .i64 kd, .int .i64 s2, .slice ap np cp] 71) _ _)) | exact al_old (hxa.out _ (al21 _ _ (.cells #[.int .i64 kd, .int .i64 s2, .slice ap np cp] 71) _)) | exact al_old (hxa.out _ (al2 _ _ _ (.cells #[.int .i64 kd, .int .i64 s2, .slice ap np cp] 71)))) (by assumption) ?_; intro a2 n2 c2 wb hOb hSb htb; have hsb9 := hSb.1.size; (first | (have t2 := htb.out _ t1) | (have t2 := htb.out _ (al_old t1)) | (have t2 := htb.out _ (al_old (al_old t1))) | (have t2 := htb.out _ (al2 _ _ _ (.cells #[.slice none 0 0, .slice none 0 0] 25))) | (have t2 := htb.out _ (al21 _ _ (.cells #[.slice none 0 0, .slice none 0 0] 25) _)) | (have t2 := htb.out _ (al20 _ (.cells #[.slice none 0 0, .slice none 0 0] 25) _ _)) | (have t2 := htb.out _ (al1 _ _ (.cells #[.slice none 0 0, .slice none 0 0] 25))) | (have t2 := htb.out _ (al10 _ (.cells #[.slice none 0 0, .slice none 0 0] 25) _)) | (have t2 := htb.out _ (al0 _ (.cells #[.slice none 0 0, .slice none 0 0] 25))) | skip))
              | (refine P2 a1 n1 c1 (w8.heap.size + 1) (by rfl) (by rfl) (by rfl) (by first | exact hOa.out | exact hOa.out.alloc _ | exact (hOa.out.alloc _).alloc _) (by first | exact al0 _ (.cells #[.int .i64 kd, .int .i64 s2, .slice ap np cp] 71) | exact al10 _ (.cells #[.int .i64 kd, .int .i64 s2, .slice ap np cp] 71) _ | exact al1 _ _ (.cells #[.int .i64 kd, .int .i64 s2, .slice ap np cp] 71) | exact hxa.out _ (al0 _ (.cells #[.int .i64 kd, .int .i64 s2, .slice ap np cp] 71)) | exact hxa.out _ (al10 _ (.cells #[.int .i64 kd, .int .i64 s2, .slice ap np cp] 71) _) | exact hxa.out _ (al1 _ _ (.cells #[.int .i64 kd, .int .i64 s2, .slice ap np cp] 71)) | exact hxa.out _ (al20 _ (.cells #[.int .i64 kd, .int .i64 s2, .slice ap np cp] 71) _ _) | exact hxa.out _ (al21 _ _ (.cells #[.int .i64 kd, .int .i64 s2, .slice ap np cp] 71) _) | exact hxa.out _ (al2 _ _ _ (.cells #[.int .i64 kd, .int .i64 s2, .slice ap np cp] 71)) | exact al_old (hxa.out _ (al0 _ (.cells #[.int .i64 kd, .int .i64 s2, .slice ap np cp] 71))) | exact al_old (hxa.out _ (al10 _ (.cells #[.int .i64 kd, .int .i64 s2, .slice ap np cp] 71) _)) | exact al_old (hxa.out _ (al1 _ _ (.cells #[.int .i64 kd, .int .i64 s2, .slice ap np cp] 71))) | exact al_old (hxa.out _ (al20 _ (.cells #[.int .i64 kd, .int .i64 s2, .slice ap np cp] 71) _ _)) | exact al_old (hxa.out _ (al21 _ _ (.cells #[.int .i64 kd, .int .i64 s2, .slice ap np cp] 71) _)) | exact al_old (hxa.out _ (al2 _ _ _ (.cells #[.int .i64 kd, .int .i64 s2, .slice ap np cp] 71)))) (by assumption) ?_; intro a2 n2 c2 wb hOb hSb htb; have hsb9 := hSb.1.size; (first | (have t2 := htb.out _ t1) | (have t2 := htb.out _ (al_old t1)) | (have t2 := htb.out _ (al_old (al_old t1))) | (have t2 := htb.out _ (al2 _ _ _ (.cells #[.slice none 0 0, .slice none 0 0] 25))) | (have t2 := htb.out _ (al21 _ _ (.cells #[.slice none 0 0, .slice none 0 0] 25) _)) | (have t2 := htb.out _ (al20 _ (.cells #[.slice none 0 0, .slice none 0 0] 25) _ _)) | (have t2 := htb.out _ (al1 _ _ (.cells #[.slice none 0 0, .slice none 0 0] 25))) | (have t2 := htb.out _ (al10 _ (.cells #[.slice none 0 0, .slice none 0 0] 25) _)) | (have t2 := htb.out _ (al0 _ (.cells #[.slice none 0 0, .slice none 0 0] 25))) | skip))
              | (refine P2 a1 n1 c1 (w8.heap.size + 1 + 1) (by rfl) (by rfl) (by rfl) (by first | exact hOa.out | exact hOa.out.alloc _ | exact (hOa.out.alloc _).alloc _) (by first | exact al0 _ (.cells #[.int .i64 kd, .int .i64 s2, .slice ap np cp] 71) | exact al10 _ (.cells #[.int .i64 kd, .int .i64 s2, .slice ap np cp] 71) _ | exact al1 _ _ (.cells #[.int .i64 kd, .int .i64 s2, .slice ap np cp] 71) | exact hxa.out _ (al0 _ (.cells #[.int .i64 kd, .int .i64 s2, .slice ap np cp] 71)) | exact hxa.out _ (al10 _ (.cells #[.int .i64 kd, .int .i64 s2, .slice ap np cp] 71) _) | exact hxa.out _ (al1 _ _ (.cells #[.int .i64 kd, .int .i64 s2, .slice ap np cp] 71)) | exact hxa.out _ (al20 _ (.cells #[.int .i64 kd, .int .i64 s2, .slice ap np cp] 71) _ _) | exact hxa.out _ (al21 _ _ (.cells #[.int .i64 kd, .int .i64 s2, .slice ap np cp] 71) _) | exact hxa.out _ (al2 _ _ _ (.cells #[.int .i64 kd, .int .i64 s2, .slice ap np cp] 71)) | exact al_old (hxa.out _ (al0 _ (.cells #[.int .i64 kd, .int .i64 s2, .slice ap np cp] 71))) | exact al_old (hxa.out _ (al10 _ (.cells #[.int .i64 kd, .int .i64 s2, .slice ap np cp] 71) _)) | exact al_old (hxa.out _ (al1 _ _ (.cells #[.int .i64 kd, .int .i64 s2, .slice ap np cp] 71))) | exact al_old (hxa.out _ (al20 _ (.cells #[.int .i64 kd, .int .i64 s2, .slice ap np cp] 71) _ _)) | exact al_old (hxa.out _ (al21 _ _ (.cells #[.int .i64 kd, .int .i64 s2, .slice ap np cp] 71) _)) | exact al_old (hxa.out _ (al2 _ _ _ (.cells #[.int .i64 kd, .int .i64 s2, .slice ap np cp] 71)))) (by assumption) ?_; intro a2 n2 c2 wb hOb hSb htb; have hsb9 := hSb.1.size; (first | (have t2 := htb.out _ t1) | (have t2 := htb.out _ (al_old t1)) | (have t2 := htb.out _ (al_old (al_old t1))) | (have t2 := htb.out _ (al2 _ _ _ (.cells #[.slice none 0 0, .slice none 0 0] 25))) | (have t2 := htb.out _ (al21 _ _ (.cells #[.slice none 0 0, .slice none 0 0] 25) _)) | (have t2 := htb.out _ (al20 _ (.cells #[.slice none 0 0, .slice none 0 0] 25) _ _)) | (have t2 := htb.out _ (al1 _ _ (.cells #[.slice none 0 0, .slice none 0 0] 25))) | (have t2 := htb.out _ (al10 _ (.cells #[.slice none 0 0, .slice none 0 0] 25) _)) | (have t2 := htb.out _ (al0 _ (.cells #[.slice none 0 0, .slice none 0 0] 25))) | skip))
              | (refine P3 a2 n2 c2 (by rfl) (by rfl) (by rfl) (by first | exact hOb.out | exact hOb.out.alloc _) (by assumption) ?_; intro a3 n3 c3 wc hOc hSc htc; have hsc9 := hSc.1.size; (first | (have t3 := htc.out _ t2) | (have t3 := htc.out _ (al_old t2)) | (have t3 := htc.out _ (al2 _ _ _ (.cells #[.slice none 0 0, .slice none 0 0] 25))) | (have t3 := htc.out _ (al21 _ _ (.cells #[.slice none 0 0, .slice none 0 0] 25) _)) | (have t3 := htc.out _ (al20 _ (.cells #[.slice none 0 0, .slice none 0 0] 25) _ _)) | (have t3 := htc.out _ (al1 _ _ (.cells #[.slice none 0 0, .slice none 0 0] 25))) | (have t3 := htc.out _ (al10 _ (.cells #[.slice none 0 0, .slice none 0 0] 25) _)) | (have t3 := htc.out _ (al0 _ (.cells #[.slice none 0 0, .slice none 0 0] 25))) | skip); (try (obtain ⟨u0, u1⟩ := Tbox.cells t3; have uf0 := Tbox.free t3 0; have uf1 := Tbox.free t3 1)))))
          all_goals go_wp2_with fail
          all_goals go_meet
          all_goals first
            | exact ⟨_, a3, n3, c3, rfl, Lib.hid ⟨heap_alloc_new _ _, hOc.out.alloc _, hSc.1.alloc hSc.1.size _⟩⟩
            | exact ⟨_, a3, n3, c3, rfl, Lib.hid (fin13 t3 hOc.out hSc.1 (by omega))⟩
        case rest =>
          obtain ⟨g3, a3, n3, c3, rfl, HF⟩ := hcut
          have HB9 := Lib.hid (HB8.out.trans (HF.out.2.2.mono HB8.out.size))
          have HE9 := Lib.hid (HE8.out.later HF.out.2.2)
          have hke : k < es.length := by have := HN.out; have := HKN.out; omega
          have hft : ((ua ++ [(Value.slice ap np cp, (kd, s2, ps))] ++ uc).map (·.2) : List EntB) = es.take (k + 1) ++ [es.getD k default] ++ es.drop (k + 1) := by
            rw [List.map_append, List.map_append, ← HUA.out.1, ← HUC.out.1, ← HXE.out]; rfl
          have hZu : RdZ wc (.slice a3 n3 c3) (es.take (k + 1) ++ [es.getD k default] ++ es.drop (k + 1)) := by
            refine ⟨ua ++ [(Value.slice ap np cp, (kd, s2, ps))] ++ uc, hft.symm, HF.out.2.1.rd (by have := HLA.out; simp; omega), fun t ht => ?_⟩
            rcases List.mem_append.1 ht with ht | ht
            · rcases List.mem_append.1 ht with ht | ht
              · exact (HUA.out.2.2 t ht).later HB9.out (Nat.le_refl _)
              · rw [List.mem_singleton.1 ht]; exact HPV.out.later HB9.out (Nat.le_refl _)
            · exact (HUC.out.2.2 t ht).later HB9.out (Nat.le_refl _)
          have hOu : ∀ x ∈ es.take (k + 1) ++ [es.getD k default] ++ es.drop (k + 1), EnO x := fun x hx => by
            rcases List.mem_append.1 hx with hx | hx
            · rcases List.mem_append.1 hx with hx | hx
              · exact HO.out x (List.mem_of_mem_take hx)
              · rw [List.mem_singleton.1 hx]; exact HO.out _ (by simp [List.getD, hke])
            · exact HO.out x (List.mem_of_mem_drop hx)
          have hT9 := trE_twice hke (by have := HN.out; omega) HO.out p1 p2
          have hEl : ((es.take (k + 1) ++ [es.getD k default] ++ es.drop (k + 1)).length : Int) = (n : Int) + 1 := by
            have := HN.out
            rw [List.length_append, List.length_append, List.length_take, List.length_drop, List.length_singleton]; omega
          have hlu := hZu.len
          rw [hEl] at hlu
          have EU := Lib.hid (EB.out wc (.agg #[.slice ac nc cc, .slice a3 n3 c3]) _ HB9.out ⟨_, _, rfl, HRC.out wc HB9.out, hZu⟩ hOu)
          obtain ⟨R9, hR9⟩ : ∃ R9, R9 = trE cs (es.take (k + 1) ++ [es.getD k default] ++ es.drop (k + 1)) := ⟨_, rfl⟩
          rw [← hR9] at EU hT9
          obtain ⟨r9, s9, v9, i9, y9⟩ := R9
          rw [← HXE.out] at hT9
          dsimp only at hT9
          have HT9 := Lib.hid hT9
          obtain ⟨u0, u1⟩ := HF.out.1.cells
          have uf0 := HF.out.1
          clear hft hZu hOu hT9 hEl hR9 HUA HUC HW8 HEB HLA HE8 HX8 Q QS uf0 HPT p1 p2 EB
          go_wp2_with fail
          refine EU.out.mono ?_
          rintro e w10 ⟨b9v, rfl, ho, hb⟩
          have HB10 := Lib.hid (HB9.out.trans (hb.mono HB9.out.size))
          obtain ⟨e0, e1, e2⟩ := (HE9.out.later hb).cells
          obtain ⟨u2, u3⟩ := (HF.out.1.later hb).cells
          have hr9 := fun hs => (show Rd w10 b9v r9 from ho.rd hs).len
          clear u0 u1 EU ho hb HF HE9
          rcases HT9.out with ⟨rfl, rfl, rfl⟩ | ⟨rfl, hE⟩
          · clear hr9 HT9
            have hN1 := HN.out
            have q1 : ((es.length : Int) + 1 == (n : Int) + 1) = true := by rw [beq_iff_eq]; omega
            clear hN1
            go_wp2
            go_ret
            exact ⟨rfl, HB10.out⟩
          · injection hE with d1 hE
            injection hE with d2 hE
            injection hE with d3 hE
            injection hE with d4 d5
            subst d1 d4 d5
            have hlb := hr9 (by simp)
            have q1 : ((k : Int) + 1 == (k : Int) + 1) = true := by rw [beq_iff_eq]
            clear hr9 HT9 d2 d3
            go_wp2
            go_ret
            exact ⟨rfl, HB10.out⟩
      · have q9 : ((y : Int) != 0) = true := by rw [bne_iff_ne]; omega
        clear hy
        go_wp2
        go_ret
        exact ⟨rfl, HB.out⟩
  · clear hf
    go_wp2_with fail
    refine (K.alive w2 HB.out).mono ?_
    rintro e w3 ⟨rfl, hb⟩
    replace HB := Lib.hid (HB.out.trans (hb.mono HB.out.size))
    clear hb
    go_wp2
    go_ret
    exact ⟨rfl, HB.out⟩

end Go.Proofs.YtmbpdpcinhhclaaGreatDoor
