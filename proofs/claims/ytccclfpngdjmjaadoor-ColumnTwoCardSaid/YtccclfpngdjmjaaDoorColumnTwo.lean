/-
  ColumnTwo: the law's own walk.
-/
import Derived.Test.YtccclfpngdjmjaaDoorColTwo1
import Derived.Deep.DeepCutAuto
import Derived.RegionTactic
import Derived.Laws.NewBlocks
import Derived.BigRegion
set_option linter.unusedVariables false
set_option linter.unusedSimpArgs false
set_option maxRecDepth 1000000
namespace Go.Proofs.YtccclfpngdjmjaaDoor
open Go.RowKit Go.Shelf

/-- The four variables. -/
def Vars2 (w : World) (ga gb b7 b8 : Nat) (av bv : Value) (p q : Int) : Prop :=
  w.heap[ga]? = some (.cells #[av] 22 (0, 0)) ∧ w.heap[gb]? = some (.cells #[bv] 22 (0, 0)) ∧ w.heap[b7]? = some (.cells #[.int .i64 p] 3 (0, 0)) ∧ w.heap[b8]? = some (.cells #[.int .i64 q] 3 (0, 0))
theorem Vars2.later {w w' : World} {ga gb b7 b8 : Nat} {av bv : Value} {p q : Int} (h : Vars2 w ga gb b7 b8 av bv p q) (hb : Below w.heap.size w w') : Vars2 w' ga gb b7 b8 av bv p q :=
  ⟨keepB h.1 hb, keepB h.2.1 hb, keepB h.2.2.1 hb, keepB h.2.2.2 hb⟩
theorem Vars2.lt {w : World} {ga gb b7 b8 : Nat} {av bv : Value} {p q : Int} (h : Vars2 w ga gb b7 b8 av bv p q) : ga < w.heap.size ∧ gb < w.heap.size ∧ b7 < w.heap.size ∧ b8 < w.heap.size :=
  ⟨(Array.getElem?_eq_some_iff.1 h.1).1, (Array.getElem?_eq_some_iff.1 h.2.1).1, (Array.getElem?_eq_some_iff.1 h.2.2.1).1, (Array.getElem?_eq_some_iff.1 h.2.2.2).1⟩
theorem Vars2.cells {w : World} {ga gb b7 b8 : Nat} {av bv : Value} {p q : Int} (h : Vars2 w ga gb b7 b8 av bv p q) : w.cell? ⟨ga, 0, none⟩ = some av ∧ w.cell? ⟨gb, 0, none⟩ = some bv ∧ w.cell? ⟨b7, 0, none⟩ = some (.int .i64 p) ∧ w.cell? ⟨b8, 0, none⟩ = some (.int .i64 q) :=
  ⟨cell_of_one h.1, cell_of_one h.2.1, cell_of_one h.2.2.1, cell_of_one h.2.2.2⟩

set_option maxHeartbeats 16000000 in
theorem columnTwo_walk (a0 a1 : Int) (av : Value) (A : List CellB) (bv : Value) (B : List CellB) (w : World) (ha0 : 0 ≤ a0 ∧ a0 ≤ 255) (ha1 : 0 ≤ a1 ∧ a1 ≤ 255) (hA : RdE w av A) (hCA : CES A) (hB : RdE w bv B) (hCB : CES B) (hT : Tabs w) :
    Calls Tryd.prog 8 #[.agg #[.int .u8 a0, .int .u8 a1], av, bv] w fun e w' => e = .returned (.bool true) ∧ Below w.heap.size w w' := by
  have hlA := hA.len
  have hlB := hB.len
  have hsA := hA.small
  have hsB := hB.small
  obtain ⟨na, hna⟩ : ∃ n, n = A.length := ⟨_, rfl⟩
  rw [← hna] at hlA hsA
  obtain ⟨nb, hnb⟩ : ∃ n, n = B.length := ⟨_, rfl⟩
  rw [← hnb] at hlB hsB
  have HNA := Lib.hid hna
  have HNB := Lib.hid hnb
  have HA := Lib.hid hA
  have HB := Lib.hid hB
  have HCA := Lib.hid hCA
  have HCB := Lib.hid hCB
  have HT := Lib.hid hT
  obtain ⟨p, hp⟩ : ∃ p, p = a0 % 6 := ⟨_, rfl⟩
  obtain ⟨q, hq⟩ : ∃ q, q = a1 % 6 := ⟨_, rfl⟩
  have hp6 : 0 ≤ p ∧ p ≤ 5 := by omega
  have hq6 : 0 ≤ q ∧ q ≤ 5 := by omega
  obtain ⟨aao, atl, acap, hav⟩ : ∃ ao tl cap, av = .slice ao tl cap := by
    obtain ⟨ao, cap, h, _⟩ := RdG.shape hA
    exact ⟨_, _, _, h⟩
  obtain ⟨bao, btl, bcap, hbv⟩ : ∃ ao tl cap, bv = .slice ao tl cap := by
    obtain ⟨ao, cap, h, _⟩ := RdG.shape hB
    exact ⟨_, _, _, h⟩
  subst hav hbv
  have HP6 := Lib.hid hp6
  have HQ6 := Lib.hid hq6
  clear hna hnb hA hB hCA hCB hT hp6 hq6
  go_enter Tryd.func8, Tryd.ntmps8
  go_upto_region 1 with fail
  obtain ⟨w0, hw0⟩ : ∃ w0, w0 = ((w.alloc (.cells #[.int .u8 a0, .int .u8 a1] 45)).alloc (.cells #[.slice aao atl acap] 22)).alloc (.cells #[.slice bao btl bcap] 22) := ⟨_, rfl⟩
  have HW0 := Lib.hid hw0
  clear hw0
  go_cut [7, 8] (fun p7 p8 wx => Hid (∃ b7 b8 : Nat, p7 = .pointer (some ⟨b7, 0, none⟩) ∧ p8 = .pointer (some ⟨b8, 0, none⟩) ∧ wx.heap[b7]? = some (.cells #[.int .i64 p] 3 (0, 0)) ∧ wx.heap[b8]? = some (.cells #[.int .i64 q] 3 (0, 0)) ∧ Below w0.heap.size w0 wx))
  case first =>
    go_region
    all_goals (go_wp2_with fail; go_meet)
    all_goals (
      have e3 : w0.heap.size = w.heap.size + 1 + 1 + 1 := by rw [HW0.out]; simp
      rw [← HW0.out, ← e3, hp, hq]
      first
        | exact Lib.hid ⟨_, _, rfl, rfl, (new2 w0 _ _).2.1, (new2 w0 _ _).2.2.1, (new2 w0 _ _).2.2.2.drew⟩
        | exact Lib.hid ⟨_, _, rfl, rfl, (new2 w0 _ _).2.2.1, (new2 w0 _ _).2.1, (new2 w0 _ _).2.2.2.drew⟩)
  case rest =>
    obtain ⟨b7, b8, rfl, rfl, h7, h8, hbw⟩ := hcut.out
    obtain ⟨z0, z1, z2, z3, z4⟩ := new3 w (.cells #[.int .u8 a0, .int .u8 a1] 45) (.cells #[.slice aao atl acap] 22) (.cells #[.slice bao btl bcap] 22)
    rw [← HW0.out] at z0 z1 z2 z3 z4
    have hV : Vars2 wc (w.heap.size + 1) (w.heap.size + 1 + 1) b7 b8 (.slice aao atl acap) (.slice bao btl bcap) p q := ⟨keepB z2 hbw, keepB z3 hbw, h7, h8⟩
    have HV := Lib.hid hV
    have HBc := Lib.hid (z4.trans (hbw.mono (by omega)))
    have htl := Lib.hid (tabs_lt HT.out)
    obtain ⟨ga, hga⟩ : ∃ ga, ga = w.heap.size + 1 := ⟨_, rfl⟩
    obtain ⟨gb, hgb⟩ : ∃ gb, gb = ga + 1 := ⟨_, rfl⟩
    rw [← hga, ← hgb] at HV
    rw [← hga, ← hgb]
    clear z0 z1 z2 z3 z4 h7 h8 hbw hV hp hq hcut hga hgb
    clear HW0
    obtain ⟨c1, c2, c3, c4⟩ := HV.out.cells
    obtain ⟨av, hav⟩ : ∃ av, av = Value.slice aao atl acap := ⟨_, rfl⟩
    obtain ⟨bv, hbv⟩ : ∃ bv, bv = Value.slice bao btl bcap := ⟨_, rfl⟩
    have HAv := Lib.hid hav
    have HBv := Lib.hid hbv
    clear hav hbv
    go_wp2_with fail
    refine (law09_alive wc (HT.out.later HBc.out)).mono ?_
    rintro e w1 ⟨rfl, hb⟩
    have HB1 := Lib.hid (HBc.out.trans (hb.mono HBc.out.size))
    have HV1 := Lib.hid (HV.out.later hb)
    clear hb HBc HV c1 c2 c3 c4
    obtain ⟨c1, c2, c3, c4⟩ := HV1.out.cells
    go_wp2_with fail
    refine (law09_great (.slice aao atl acap) A w1 (HA.out.later HB1.out (Nat.le_refl _)) HCA.out).mono ?_
    rintro e w2 ⟨g1, rfl, hb, hg1⟩
    have HB2 := Lib.hid (HB1.out.trans (hb.mono HB1.out.size))
    have HV2 := Lib.hid (HV1.out.later hb)
    have HG1 := Lib.hid hg1
    clear hb HB1 HV1 hg1 c1 c2 c3 c4
    obtain ⟨c1, c2, c3, c4⟩ := HV2.out.cells
    cases g1 with
    | true =>
      go_wp2_with fail
      refine (law09_alive w2 (HT.out.later HB2.out)).mono ?_
      rintro e w3 ⟨rfl, hb⟩
      have HB3 := Lib.hid (HB2.out.trans (hb.mono HB2.out.size))
      clear hb HB2 HV2 c1 c2 c3 c4
      go_wp2
      go_ret
      exact ⟨rfl, HB3.out⟩
    | false =>
      go_wp2_with fail
      refine (law09_great (.slice bao btl bcap) B w2 (HB.out.later HB2.out (Nat.le_refl _)) HCB.out).mono ?_
      rintro e w3 ⟨g2, rfl, hb, hg2⟩
      have HB3 := Lib.hid (HB2.out.trans (hb.mono HB2.out.size))
      have HV3 := Lib.hid (HV2.out.later hb)
      have HG2 := Lib.hid hg2
      clear hb HB2 HV2 hg2 c1 c2 c3 c4
      obtain ⟨c1, c2, c3, c4⟩ := HV3.out.cells
      by_cases hbad : g2 = true ∨ 900 < na ∨ 900 < nb
      · have hcase : g2 = true ∨ (g2 = false ∧ decide ((900 : Int) < (na : Int)) = true) ∨ (g2 = false ∧ decide ((900 : Int) < (na : Int)) = false ∧ decide ((900 : Int) < (nb : Int)) = true) := by
          cases g2 with
          | true => exact .inl rfl
          | false =>
            by_cases h : 900 < na
            · exact .inr (.inl ⟨rfl, decide_eq_true (by omega)⟩)
            · refine .inr (.inr ⟨rfl, decide_eq_false (by omega), decide_eq_true ?_⟩)
              rcases hbad with h9 | h9 | h9
              · cases h9
              · exact absurd h9 h
              · omega
        have CA := Lib.hid (law09_alive w3 (HT.out.later HB3.out))
        clear hbad
        rcases hcase with rfl | ⟨rfl, d1⟩ | ⟨rfl, d1, d2⟩
        all_goals (
          go_wp2_with fail
          refine CA.out.mono ?_
          rintro e w4 ⟨rfl, hb⟩
          have HB4 := Lib.hid (HB3.out.trans (hb.mono HB3.out.size))
          clear hb HB3 HV3 c1 c2 c3 c4 CA
          go_wp2
          go_ret
          exact ⟨rfl, HB4.out⟩)
      · have hg2 : g2 = false := by
          cases g2 with
          | true => exact absurd (.inl rfl) hbad
          | false => rfl
        subst hg2
        have d1 : decide ((900 : Int) < (na : Int)) = false := decide_eq_false (by omega)
        have d2 : decide ((900 : Int) < (nb : Int)) = false := decide_eq_false (by omega)
        have hna9 : na ≤ 900 := by omega
        have hnb9 : nb ≤ 900 := by omega
        have CW1 := Lib.hid (column_Write p (.slice aao atl acap) A w3 (HA.out.later HB3.out (Nat.le_refl _)) HCA.out (HT.out.later HB3.out) (fun h => great_small h HCA.out (by have := HNA.out; omega) (HG1.out (by first | trivial | rfl))))
        clear hbad
        go_wp2_with fail
        refine CW1.out.mono ?_
        rintro e w4 ⟨xv, rfl, hOx, hb⟩
        have HB4 := Lib.hid (HB3.out.trans (hb.mono HB3.out.size))
        have HV4 := Lib.hid (HV3.out.later hb)
        have HOx := Lib.hid (hOx.base (base' := w.heap.size) HB3.out.size)
        clear hb HB3 HV3 hOx CW1 c1 c2 c3 c4
        obtain ⟨c1, c2, c3, c4⟩ := HV4.out.cells
        have CW2 := Lib.hid (column_Write q (.slice bao btl bcap) B w4 (HB.out.later HB4.out (Nat.le_refl _)) HCB.out (HT.out.later HB4.out) (fun h => great_small h HCB.out (by have := HNB.out; omega) (HG2.out (by first | trivial | rfl))))
        go_wp2_with fail
        refine CW2.out.mono ?_
        rintro e w5 ⟨yv, rfl, hOy, hb⟩
        have HB5 := Lib.hid (HB4.out.trans (hb.mono HB4.out.size))
        have HV5 := Lib.hid (HV4.out.later hb)
        have HOx5 := Lib.hid (HOx.out.later hb (Nat.le_refl _))
        have HOy5 := Lib.hid (hOy.base (base' := w.heap.size) HB4.out.size)
        clear hb HB4 HV4 HOx hOy CW2 c1 c2 c3 c4
        by_cases hy : wrE p (cesL A) = 0 ∧ wrE q (cesL B) = 0
        · obtain ⟨y1, y2⟩ := hy
          rw [y1, y2]
          rw [y1, if_pos rfl] at HOx5
          rw [y2, if_pos rfl] at HOy5
          obtain ⟨k1, F1⟩ := wrE_fit y1 (fun c hc => ce_cases HCA.out hc)
          obtain ⟨k2, F2⟩ := wrE_fit y2 (fun c hc => ce_cases HCB.out hc)
          have hX1 := wrC_le F1
          have hY1 := wrC_le F2
          have sm1 := great_small y1 HCA.out (by have := HNA.out; omega) (HG1.out (by first | trivial | rfl))
          have sm2 := great_small y2 HCB.out (by have := HNB.out; omega) (HG2.out (by first | trivial | rfl))
          rw [cesL_length] at hX1 hY1
          have hr1 := rdK_put (l := wrC p (cesL A) ++ wrC q (cesL B)) (m := wrC q (cesL B)) (k := 0) k1 F1 (by rw [cesL_length]; have := HNA.out; omega) (by simp)
          have hr2 := rdK_put (l := wrC p (cesL A) ++ wrC q (cesL B)) (m := []) (k := (wrC p (cesL A)).length) k2 F2 (by rw [cesL_length]; have := HNB.out; omega) (by rw [List.drop_left' rfl]; simp)
          rw [cesL_length, Nat.zero_add] at hr1
          rw [cesL_length, ← List.length_append] at hr2
          obtain ⟨X, hX⟩ : ∃ X, X = wrC p (cesL A) := ⟨_, rfl⟩
          obtain ⟨Y, hY⟩ : ∃ Y, Y = wrC q (cesL B) := ⟨_, rfl⟩
          rw [← hX] at HOx5 hX1 hr1 hr2
          rw [← hY] at HOy5 hY1 hr1 hr2
          have hXl : X.length ≤ 2000000 := by omega
          have hYl : Y.length ≤ 2000000 := by omega
          have HR1 := Lib.hid hr1
          have HR2 := Lib.hid hr2
          have hRx := HOx5.out.rd (by omega)
          have hRy := HOy5.out.rd (by omega)
          have hlx := hRx.len
          have hly := hRy.len
          have HRx := Lib.hid hRx
          have HRy := Lib.hid hRy
          clear y1 y2 k1 k2 F1 F2 hX1 hY1 sm1 sm2 hr1 hr2 hX hY HOx5 HOy5 hRx hRy HG1 HG2
          have hmf : ∀ (fn : Fn) (first cap : Array Value) (w : World), (Instr.makeFunc fn first cap).run Tryd.prog w = .ok (.func fn first cap) w := fun _ _ _ _ => rfl
          obtain ⟨n0, n1, n2, n3⟩ := new2 w5 (.cells #[.slice none 0 0] 22) (.cells #[.slice none 0 0] 22)
          obtain ⟨w6, hw6⟩ : ∃ w6, w6 = (w5.alloc (.cells #[.slice none 0 0] 22)).alloc (.cells #[.slice none 0 0] 22) := ⟨_, rfl⟩
          rw [← hw6] at n0 n1 n2 n3
          have HW6 := Lib.hid hw6
          have HB6 := Lib.hid (HB5.out.trans (n3.mono HB5.out.size))
          have HV6 := Lib.hid (HV5.out.later n3)
          have HC6 := Lib.hid n1
          have HD6 := Lib.hid n2
          have HRx6 := Lib.hid (HRx.out.later n3 (Nat.le_refl _))
          have HRy6 := Lib.hid (HRy.out.later n3 (Nat.le_refl _))
          have HN6 := Lib.hid n0
          have HVl := Lib.hid HV5.out.lt
          have hccw := Lib.hid HB5.out.size
          clear n0 n1 n2 n3 hw6 HB5 HV5 HRx HRy
          have HA7 := Lib.hid (show Below w.heap.size w (w6.alloc (.cells #[] 5)) from HB6.out.alloc HB6.out.size _)
          have HO0 := Lib.hid (own_empty w6 w6.heap.size (Nat.le_refl _))
          have HLA := Lib.hid (HRx6.out.alloc (.cells #[] 5))
          have hws : w.heap.size ≤ w6.heap.size := HB6.out.size
          have hws1 : w6.heap.size ≤ (w6.alloc (.cells #[] 5)).heap.size := by simp
          have hz1 : ([] : List UInt8).length + X.length ≤ 140737488355328 := by simp; omega
          have hz2 : X.length + Y.length ≤ 140737488355328 := by omega
          have HB67 := Lib.hid (show Below w6.heap.size w6 (w6.alloc (.cells #[] 5)) from (Below.refl _ _).alloc (Nat.le_refl _) _)
          go_wp2_with (first
            | (rw [← HW6.out])
            | (with_reducible refine wpl_append w6.heap.size _ [] ?hs1 HO0.out xv X ?hx1 HLA.out hz1 hws1 w6.heap.size w6 HB67.out (Nat.le_refl _) ?_))
          all_goals (try rfl)
          intro va wa hOa hBa hga
          rw [List.nil_append] at hOa
          have HOa := Lib.hid hOa
          have HBa := Lib.hid hBa
          have HRya := Lib.hid (HRy6.out.later hBa (Nat.le_refl _))
          have hs7 : w6.heap.size ≤ wa.heap.size := hBa.size
          clear hOa hBa hga hws1 HO0 HLA HA7 HB67
          go_wp2_with (with_reducible refine wpl_append w6.heap.size _ X ?hs2 HOa.out yv Y ?hx2 HRya.out hz2 hs7 w6.heap.size w6 HBa.out (Nat.le_refl _) ?_)
          all_goals (try rfl)
          intro vb wb hOb hBb hgb
          have hRb := hOb.rd (by rw [List.length_append]; omega)
          have hvb : ∀ i, i < (X ++ Y).length → w6.heap.size ≤ (adr vb i).block ∧ (adr vb i).block < wb.heap.size := fun i hi => World.ownsRow.lt hOb _ (own_blk hOb hi)
          have HBb := Lib.hid (HB6.out.trans (hBb.mono HB6.out.size))
          have HVb := Lib.hid (HV6.out.later hBb)
          have hCb := keepB HC6.out hBb
          have hDb := keepB HD6.out hBb
          have hbs := hBb.size
          have hTb := HT.out.later HBb.out
          have htb := tabs_lt hTb
          have hlt := HVl.out
          have hn6 := HN6.out
          have hcw := hccw.out
          have htl9 := htl.out
          have hVb := HVb.out
          have hrun := reader_RunK 23 enters_two #[.pointer (some ⟨b7, 0, none⟩), .pointer (some ⟨ga, 0, none⟩), .pointer (some ⟨w5.heap.size, 0, none⟩), .pointer (some ⟨b8, 0, none⟩), .pointer (some ⟨gb, 0, none⟩), .pointer (some ⟨w5.heap.size + 1, 0, none⟩)] vb (X ++ Y) wb hRb (TwoP wb w5.heap.size (w5.heap.size + 1) (X ++ Y).length A B) (fun g k x a b hp hs hO => by
            obtain ⟨h1, h2, h3, ⟨tv, q1, q2⟩, ⟨uv, q3, q4⟩⟩ := hp
            exact ⟨h1.trans9 hO (fun j _ hj => .inr (.inr (by omega))), h2, h3, ⟨tv, hO.keep q1 (by omega), q2.only hO (fun q hq => by omega)⟩, ⟨uv, hO.keep q3 (by omega), q4.only hO (fun q hq => by omega)⟩⟩) (fun g w1 h1 h2 h3 hb hR => by
            have hcc1 : w1.heap[w5.heap.size]? = some (.cells #[.slice none 0 0] 22 (0, 0)) := keepB hCb hb
            have hdd1 : w1.heap[w5.heap.size + 1]? = some (.cells #[.slice none 0 0] 22 (0, 0)) := keepB hDb hb
            have hv1 := hVb.later hb
            have hla : ∀ u, (Builtin.len_ #[22] 3 #[.slice aao atl acap]).run Tryd.prog u = .ok (.int .i64 (A.length : Int)) u := by rw [← HNA.out]; exact hlA
            have hlb : ∀ u, (Builtin.len_ #[22] 3 #[.slice bao btl bcap]).run Tryd.prog u = .ok (.int .i64 (B.length : Int)) u := by rw [← HNB.out]; exact hlB
            have := columnTwo1 p q A B (.slice aao atl acap) (.slice bao btl bcap) wb g w5.heap.size (w5.heap.size + 1) b7 ga b8 gb vb (X ++ Y) w1 hR hcc1 hdd1 (by omega) hv1.2.2.1 hv1.2.2.2 hv1.1 hv1.2.1 hla hlb (by omega) (hTb.later hb) (by omega) (by omega) (by omega) h1 h2 hb (fun i hi => by have := hvb i hi; omega) X.length HR1.out HR2.out
            exact this)
          have HRUN := Lib.hid hrun
          have HLe := Lib.hid (show (X ++ Y).length = X.length + Y.length from List.length_append)
          have HBs := Lib.hid hbs
          obtain ⟨Kl, hKl⟩ : ∃ Kl, Kl = (X ++ Y).length := ⟨_, rfl⟩
          have HKl := Lib.hid hKl
          have hksum : Kl = X.length + Y.length := by rw [hKl, List.length_append]
          obtain ⟨xl, hxl⟩ : ∃ xl, xl = X.length := ⟨_, rfl⟩
          obtain ⟨yl, hyl⟩ : ∃ yl, yl = Y.length := ⟨_, rfl⟩
          rw [← hxl] at hlx hksum hXl
          rw [← hyl] at hly hksum hYl
          have q1 : ((Kl : Int) == (xl : Int) + (yl : Int)) = true := by rw [beq_iff_eq]; omega
          have htold : told (X ++ Y) (X ++ Y).length 0 = 0 := by unfold told; rw [if_pos rfl, if_neg (by omega)]
          have HTo := Lib.hid htold
          have HLtv := Lib.hid hlt
          have HN6' := Lib.hid hn6
          clear hrun hRb hvb hOb hBb hgb hCb hDb hbs hTb htb hlt hn6 hcw htl9 hVb hKl hxl hyl hksum htold HOa HBa HRya hs7
          go_wp2_with fail
          refine HRUN.out.mono ?_
          rintro e w9 ⟨g, k, x, hk, hg, ⟨hO, rfl, rfl, ⟨tv, t1, t2⟩, ⟨uv, t3, t4⟩⟩, hsh, rfl⟩
          rw [HTo.out, ← HKl.out]
          have HB9 := Lib.hid (HBb.out.trans (hO.toBelow (B := w.heap.size) (fun j hj => by have := hccw.out; have := HBb.out.size; omega) HBb.out.size))
          have hV9 : Vars2 w9 ga gb b7 b8 (.slice aao atl acap) (.slice bao btl bcap) p q := by
            have h1 := HLtv.out
            have h2 := HBs.out
            have h3 := HN6'.out
            exact ⟨hO.keep HVb.out.1 (by omega), hO.keep HVb.out.2.1 (by omega), hO.keep HVb.out.2.2.1 (by omega), hO.keep HVb.out.2.2.2 (by omega)⟩
          obtain ⟨c1, c2, c3, c4⟩ := hV9.cells
          have c5 := cell_of_one t1
          have c6 := cell_of_one t3
          have SA := Lib.hid (ref_Same06 (.slice aao atl acap) tv A A w9 (HA.out.later HB9.out (Nat.le_refl _)) (t2.rd (by have := HNA.out; omega)))
          rw [decide_eq_true rfl] at SA
          have HV9 := Lib.hid hV9
          have HT2 := Lib.hid t4
          have HT3 := Lib.hid t3
          clear hO t1 t2 t3 t4 hsh hV9 hk hg HRUN HBb HVb
          go_wp2_with fail
          refine SA.out.mono ?_
          rintro e wx ⟨rfl, hb⟩
          have HBx := Lib.hid (HB9.out.trans (hb.mono HB9.out.size))
          obtain ⟨c1, c2, c3, c4⟩ := (HV9.out.later hb).cells
          have c6 := cell_of_one (keepB HT3.out hb)
          have SB := Lib.hid (ref_Same06 (.slice bao btl bcap) uv B B wx (HB.out.later HBx.out (Nat.le_refl _)) ((HT2.out.later hb (Nat.le_refl _)).rd (by have := HNB.out; omega)))
          rw [decide_eq_true rfl] at SB
          clear hb HB9 SA
          go_wp2_with fail
          refine SB.out.mono ?_
          rintro e wy ⟨rfl, hb⟩
          have HBy := Lib.hid (HBx.out.trans (hb.mono HBx.out.size))
          clear hb HBx SB
          go_wp2
          go_ret
          exact ⟨rfl, HBy.out⟩
        · have hor : wrE p (cesL A) ≠ 0 ∨ (wrE p (cesL A) = 0 ∧ wrE q (cesL B) ≠ 0) := by
            by_cases h : wrE p (cesL A) = 0
            · exact .inr ⟨h, fun h2 => hy ⟨h, h2⟩⟩
            · exact .inl h
          clear hy HG1 HG2 HOx5 HOy5
          generalize wrE p (cesL A) = y1 at *
          generalize wrE q (cesL B) = y2 at *
          rcases hor with h | ⟨rfl, h⟩
          · have hyb : ((y1 : Int) != 0) = true := by rw [bne_iff_ne]; omega
            go_wp2
            go_ret
            exact ⟨rfl, HB5.out⟩
          · have hyb : ((y2 : Int) != 0) = true := by rw [bne_iff_ne]; omega
            go_wp2
            go_ret
            exact ⟨rfl, HB5.out⟩

end Go.Proofs.YtccclfpngdjmjaaDoor
