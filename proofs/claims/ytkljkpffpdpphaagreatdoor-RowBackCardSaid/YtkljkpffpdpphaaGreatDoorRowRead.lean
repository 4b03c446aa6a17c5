/-
  row.Read.
-/
import Derived.Test.YtkljkpffpdpphaaGreatDoorGRowL
import Derived.Test.YtkljkpffpdpphaaGreatDoorGText
import Derived.Test.YtkljkpffpdpphaaGreatDoorCellRead
import Derived.Shelf.Strings.Split
import Derived.Lib.SplitLaws
set_option linter.unusedVariables false
set_option linter.unusedSimpArgs false
set_option maxRecDepth 1000000
namespace Go.Proofs.YtkljkpffpdpphaaGreatDoor
open Go.RowKit Go.Shelf

attribute [local go_sem] Oper.semAt_some

/-- The library's number that its searches look at. -/
def Mx (w : World) : Prop := ∃ m, w.cell? ⟨Tryz.laysSplitN_ren.g 1, 0, none⟩ = some (.int .i64 m)
theorem Mx.later {w w' : World} (h : Mx w) (hb : Below w.heap.size w w') : Mx w' := by
  obtain ⟨m, hm⟩ := h
  exact ⟨m, (hb.cell (p := ⟨_, 0, none⟩) (World.block_lt_of_cell? w _ hm)).trans hm⟩

theorem rdT_prefix {w : World} {b : Nat} {ss : List ByteArray} {z : Nat × Nat} {cap : Nat} (h : w.heap[b]? = some (.cells (Lib.cellsOf ss cap) 9 z)) (hs : ss.length ≤ 140737488351232) (hc : ss.length ≤ cap) : RdT w (.slice (some ⟨b, 0, none⟩) ss.length cap) ss := by
  refine ⟨⟨_, _, by rw [List.length_map], by rw [List.length_map]; omega, (by intro h; cases h), fun _ => ⟨_, _, rfl⟩⟩, fun i hi j u hu => ?_, fun x hx => ?_, by rw [List.length_map]; exact hs⟩
  · rw [List.length_map] at hi
    rw [getD_map strV ss i hi default] at hu
    obtain rfl : j = 0 := by
      have := (List.getElem?_eq_some_iff.1 hu).1
      simpa [strV] using this
    have hu : Value.string (ss.getD i default) = u := by simpa [strV] using hu
    rw [adr_lit, cell_of_row _ _ _ _ _ z h]
    show (Lib.cellsOf ss cap)[0 + (i * 1 + 0)]? = some u
    rw [show 0 + (i * 1 + 0) = i from by omega, ← hu]
    unfold Lib.cellsOf
    rw [List.getElem?_toArray, List.getElem?_append_left (by simpa using hi), List.getElem?_map, List.getElem?_eq_getElem hi]
    simp [List.getD, hi]
  · obtain ⟨c, _, rfl⟩ := List.mem_map.1 hx
    rfl
theorem strL_of (ss : List ByteArray) : strL (ss.map (·.data.toList)) = ss := by
  unfold strL
  rw [List.map_map]
  have : ((fun l : List UInt8 => (⟨l.toArray⟩ : ByteArray)) ∘ fun x : ByteArray => x.data.toList) = id := by funext s; cases s; rfl
  rw [this, List.map_id]

theorem lib_SplitN (s : ByteArray) (l : List UInt8) (n : Nat) (w : World) (h : RdS s l) (hl : l.length ≤ 100000) (hn : 1 ≤ n) (hn9 : n ≤ 100) (hX : Mx w) :
    Calls Tryz.prog 33 #[.string s, .string ⟨#[44]⟩, .int .i64 ((n + 1 : Nat) : Int)] w fun e w' => ∃ pv ss, e = .returned pv ∧ RdT w' pv ss ∧ ((cutL 44 l).length = n → ss = strL (cutL 44 l)) ∧ ((cutL 44 l).length ≠ n → ss.length ≠ n) ∧ Below w.heap.size w w' := by
  obtain ⟨m, hm⟩ := hX
  have hd : s.data.toList = l := by rw [h.eq]
  have hz : s.size = l.length := by rw [h.eq]; simp [ByteArray.size]
  have c : Calls Tryz.prog 33 #[.string s, .string ⟨#[44]⟩, .int .i64 ((n + 1 : Nat) : Int)] w _ := Any.strings_SplitN Tryz.laysSplitN (by kernel_rfl) s ⟨#[44]⟩ (n + 1) m w (by omega) hm (by decide) (by omega) (by omega)
  refine c.mono ?_
  rintro e w' ⟨rfl, rfl⟩
  obtain ⟨K, hK⟩ : ∃ K, K = min (n + 1) (s.size + 1) := ⟨_, rfl⟩
  rw [← hK]
  have hdat : (Lib.splitB ⟨#[44]⟩ 0 (K - 1) s).map (·.data.toList) = Lib.splitK [44] 0 (K - 1) l := by rw [Lib.splitB_data, hd]
  have hlen := congrArg List.length hdat
  rw [List.length_map, splitK_len] at hlen
  have hcnt := cutL_count 44 l
  have hcl : l.count 44 ≤ l.length := List.count_le_length
  have hb := heap_alloc_new w (.cells (Lib.cellsOf (Lib.splitB ⟨#[44]⟩ 0 (K - 1) s) K) 9)
  refine ⟨_, Lib.splitB ⟨#[44]⟩ 0 (K - 1) s, rfl, rdT_prefix hb (by omega) (by omega), fun he => ?_, fun hne => by omega, (Below.refl _ _).alloc (Nat.le_refl _) _⟩
  have := splitK_more 44 l (K - 1) (by omega)
  rw [this] at hdat
  rw [← hdat, strL_of]

/-- 'append(s, a cell)' in a round. -/
theorem wplE_appendIn {F : Fence} {n : Nat} {w : World} {cs : List CellB} {ops : Array Oper} {Q : Exit → Act → World → Prop} {rest : List Oper} {a : Act} {dst : Option Tmp} {ty : TypeId} {pos : String} {aft : Array Edge} {s x : Operand}
    (base : Nat) (sv : Value) (hs : a.eval s = sv) (ho : OwnE w base sv cs) (ad : Addr) (c : CellB) (hx : a.eval x = .slice (some ad) 1 1)
    (hc : ∀ j z, (cellVs c)[j]? = some z → w.cell? (ad.add j) = some z) (hn : (cs.length + 1) * 24 ≤ 140737488355328) (hbase : base ≤ w.heap.size)
    (h : ∀ v' w', OwnE w' base v' (cs ++ [c]) → (∃ g cap, v' = .slice (some ⟨g, 0, none⟩) (cs.length + 1) cap) → w.grownBy w' sv.ownBlock → wpListIn F n Tryz.prog ops Q rest (a.put dst v') w') :
    wpListIn F n Tryz.prog ops Q (⟨dst, .call ⟨.builtin .append, #[s, x], #[23, 23]⟩, ty, pos, aft, none⟩ :: rest) a w :=
  wplG_appendIn (E := cellE) (vs := cs.map cellVs) cellOk base sv hs ho ad (cellVs c) hx rfl (by intro z hz; simp [cellVs] at hz; rcases hz with rfl | rfl <;> rfl) hc (by rw [List.length_map]; exact hn) (by rw [List.length_map]; omega) hbase
    (fun v' w' h1 h2 h3 => h v' w' (by unfold OwnE; rw [List.map_append]; exact h1) (by rw [List.length_map] at h2; exact h2) h3)
theorem OwnG.putObj {E : Elt} {W : World} {base : Nat} {v : Value} {vs : List (List Value)} (h : OwnG E W base v vs) {l : Nat} {o : Obj} (o' : Obj) (hl : W.heap[l]? = some o) (ho : o.isCells = false) : OwnG E (W.putObj l o') base v vs := ⟨ownsRow_putObj h.1 o' hl ho, h.2⟩
theorem OwnG.aside {E : Elt} {W : World} {base : Nat} {v : Value} {vs : List (List Value)} (h : OwnG E W base v vs) {b : Nat} (hb : b < base) (u : Value) : OwnG E (W.setCell ⟨b, 0, none⟩ u) base v vs :=
  h.grown (grownBy_setCell' W b u) (fun k hk e => by have := (h.lt hk).1; injection e with e; omega)

/-- What row.Read answers. -/
def RdRow (w : World) (cs : List ColB) (l : List UInt8) (e : Ending) (w' : World) : Prop :=
  ∃ tv, e = .returned (.tuple #[tv, .int .i64 (rowE cs l : Nat)]) ∧ Below w.heap.size w w' ∧ RdE w' tv (rowC cs l)

set_option maxHeartbeats 8000000 in
theorem row_Read (v1 : Value) (t : ByteArray) (cs : List ColB) (l : List UInt8) (w : World) (h1 : RdC w v1 cs) (ht : RdS t l) (hC : CS cs) (hl : l.length ≤ 100000) (hL : Lib4 w) (hX : Mx w) :
    Calls Tryz.prog 19 #[v1, .string t] w (RdRow w cs l) := by
  have hl1 := h1.len
  have R1 := Lib.hid (fun wz (hz : Below w.heap.size w wz) => h1.later hz (Nat.le_refl _))
  have HT := Lib.hid hL
  have HXX := Lib.hid hX
  obtain ⟨x, hx⟩ : ∃ x, x = errS (colsL cs) := ⟨_, rfl⟩
  have N0 := Lib.hid (new2 w (.cells #[.slice none 0 0] 23) (.cells #[.int .i64 0] 26))
  have SC := Lib.hid (fun wz (hz : Below w.heap.size w wz) => (show Calls Tryz.prog 23 #[v1] wz fun e w' => e = .returned (.int .i64 (x : Int)) ∧ Below wz.heap.size wz w' from by
    rw [hx]; exact schema_Check v1 cs wz (R1.out wz hz) hC (HT.out.l3.tabs.later hz)))
  obtain ⟨n, hn⟩ : ∃ n, n = cs.length := ⟨_, rfl⟩
  rw [← hn] at hl1
  have HN := Lib.hid hn
  clear h1 hL hX hn
  by_cases h0 : x = 0
  · have hz8 := errS_zero (show errS (colsL cs) = 0 from by omega)
    rw [colsL_length, ← HN.out] at hz8
    obtain ⟨hn0, hn8, _, _⟩ := hz8
    have SN := Lib.hid (fun wz (hz : Below w.heap.size w wz) => (show Calls Tryz.prog 33 #[.string t, .string ⟨#[44]⟩, .int .i64 ((n : Int) + 1)] wz fun e w' => ∃ pv ss, e = .returned pv ∧ RdT w' pv ss ∧ ((cutL 44 l).length = n → ss = strL (cutL 44 l)) ∧ ((cutL 44 l).length ≠ n → ss.length ≠ n) ∧ Below wz.heap.size wz w' from by
      rw [show (n : Int) + 1 = ((n + 1 : Nat) : Int) from by omega]
      exact lib_SplitN t l n wz ht hl (by omega) (by omega) (HXX.out.later hz)))
    subst h0
    rw [show ((0 : Nat) : Int) = 0 from rfl] at SC
    by_cases hcut : (cutL 44 l).length = n
    · have HC := Lib.hid hcut
      have HE := Lib.hid (show rowE cs l = errQ (partsQ cs l) from by unfold rowE; rw [if_neg (by omega), if_neg (by rw [hcut, HN.out]; simp)])
      clear hx hcut
      refine (callsIn_wide (n := 5)).1 ?_
      refine callsIn_of_wp_marks Tryz.func19 rfl trivial ?_ rfl
      simp only [Tryz.ntmps19, List.size_toArray, List.length_cons, List.length_nil, Nat.reduceAdd, Nat.reduceSub, Array.replicate_succ, Array.replicate_zero, List.push_toArray, List.append_toArray, List.nil_append, List.cons_append]
      gi_wp2_with fail
      refine ⟨trivial, ?_⟩
      gi_at_call 23
      refine (callsIn_wide.2 (SC.out _ N0.out.2.2.2)).mono ?_
      rintro e w1 ⟨rfl, hb⟩
      have B1 := Lib.hid (N0.out.2.2.2.trans (hb.mono N0.out.2.2.2.size))
      have X1 := Lib.hid (show Boxed w1 w.heap.size 23 (.slice none 0 0) from boxed_below N0.out.2.1 hb)
      have X2 := Lib.hid (show Boxed w1 (w.heap.size + 1) 26 (.int .i64 0) from boxed_below N0.out.2.2.1 hb)
      have SN1 := Lib.hid (SN.out _ B1.out)
      clear hb N0 SC SN
      gi_wp2_with fail
      refine ⟨trivial, ?_⟩
      gi_at_call 33
      refine (callsIn_wide.2 SN1.out).mono ?_
      rintro e w2 ⟨pv, ss, rfl, hss, hse, _, hb⟩
      obtain rfl := hse HC.out
      have B2 := Lib.hid (B1.out.trans (hb.mono B1.out.size))
      have Y1 := Lib.hid (boxed_below X1.out hb)
      have Y2 := Lib.hid (boxed_below X2.out hb)
      have hlp := hss.len
      rw [show (strL (cutL 44 l)).length = n from by rw [strL_length, HC.out]] at hlp
      have HS := Lib.hid hss
      have N1 := new1 w2 (.cells #[.slice none 0 0] 23)
      have hB3 : Below w.heap.size w (w2.alloc (.cells #[.slice none 0 0] 23)) := B2.out.trans (N1.2.2.mono B2.out.size)
      have Y3 : Boxed (w2.alloc (.cells #[.slice none 0 0] 23)) w2.heap.size 23 (.slice none 0 0) := N1.2.1
      have Z1 := boxed_below Y1.out N1.2.2
      have Z2 := boxed_below Y2.out N1.2.2
      have Z3 := hss.later N1.2.2 (Nat.le_refl _)
      have hw2s : w.heap.size + 1 < w2.heap.size := Y2.out.lt
      have HSZ3 := Lib.hid N1.1
      have HBW := Lib.hid N1.2.2
      have MKz := Lib.hid (bothCS_make v1 pv cs (strL (cutL 44 l)) _ (R1.out _ hB3) Z3)
      clear hb N1 hss hse SN1 X1 X2 Y1 Y2
      gi_wp2_with fail
      refine ⟨trivial, ?_⟩
      gi_at_call 34
      generalize w2.alloc (.cells #[.slice none 0 0] 23) = w3 at MKz hB3 Y3 HSZ3 Z1 Z2 Z3 HBW ⊢
      refine (callsIn_wide.2 MKz.out).mono ?_
      rintro e w4 ⟨rfl, rfl⟩
      gi_wp2
      obtain ⟨W0, hW0⟩ : ∃ W0, (w3.alloc (.cells #[v1] 22)).alloc (.cells #[pv] 59) = W0 := ⟨_, rfl⟩
      obtain ⟨M0, M1, M2, M3⟩ := new2 w3 (.cells #[v1] 22) (.cells #[pv] 59)
      rw [hW0] at M0 M1 M2 M3 ⊢
      clear hW0
      have bt := Lib.hid (boxed_below Y3 M3)
      have b4 := Lib.hid (boxed_below Z1 M3)
      have b5 := Lib.hid (boxed_below Z2 M3)
      have hB0 : Below w.heap.size w W0 := hB3.trans (M3.mono hB3.size)
      have hb1 : Boxed W0 w3.heap.size 22 v1 := M1
      have hb2 : Boxed W0 (w3.heap.size + 1) 59 pv := M2
      have hsz3 := HSZ3.out
      have HB2w := Lib.hid (show Below w2.heap.size w2 W0 from HBW.out.trans (M3.mono (by omega)))
      rw [hsz3] at M0 hb1 hb2 ⊢
      clear HSZ3 hsz3 M1 M2 M3 Y3 Z1 Z2 Z3 MKz hB3 HBW
      have hlz : cs.length = (strL (cutL 44 l)).length := by rw [strL_length, HC.out, HN.out]
      have hzl : (partsQ cs l).length = n := by unfold partsQ; rw [List.length_zip, ← hlz, HN.out]; omega
      obtain ⟨Z, hZ⟩ : ∃ Z, Z = W0.heap.size := ⟨_, rfl⟩
      have hZT : Z = w2.heap.size + 3 := by omega
      have HZT := Lib.hid hZT
      have hZ1 : w2.heap.size + 1 + 1 < Z := by omega
      have HZW := Lib.hid (show Z ≤ W0.heap.size from by omega)
      have hW0s : W0.heap.size = w2.heap.size + 3 := by omega
      clear hZ hZT M0
      refine range_through (by omega) (gf := 58) (lb := #[.pointer (some ⟨w2.heap.size + 1, 0, none⟩), .pointer (some ⟨w2.heap.size + 1 + 1, 0, none⟩)]) rfl (enters_of Tryz.func58 (by kernel_rfl) rfl)
        (bothCS_through (5 - 1) (by omega) (w2.heap.size + 1) (w2.heap.size + 1 + 1) v1 pv cs (strL (cutL 44 l)) hlz w2 (fun W hW => R1.out W (B2.out.trans (hW.mono B2.out.size))) (fun W hW => HS.out.later hW (Nat.le_refl _)) W0 HB2w.out hb1.cell hb2.cell) only_t (only_b (by omega) (by omega) (by omega)) (fun _ => rfl)
        (fun pre W => (∃ v, Boxed W w2.heap.size 23 v ∧ OwnG cellE W Z v ((cellsQ pre).map cellVs)) ∧ ((Boxed W w.heap.size 23 (.slice none 0 0) ∧ Boxed W (w.heap.size + 1) 26 (.int .i64 0)) ∧ (Below w2.heap.size w2 W ∧ Z ≤ W.heap.size)) ∧ errQ pre = 0)
        (fun c pre W => ((Boxed W w.heap.size 23 (.slice none 0 0) ∧ Boxed W (w.heap.size + 1) 26 (.int .i64 (errQ pre : Nat))) ∧ Below w.heap.size w W) ∧ (c = .ret ∧ errQ pre ≠ 0))
        (OwnFrom.and (Own.from (holdsG_own Z w2.heap.size 23 _) _) (OwnFrom.and (OwnFrom.and (OwnFrom.and (Own.from (boxed_own _ _ _) _) (Own.from (boxed_own _ _ _) _)) (OwnFrom.and (ownFrom_below (Nat.le_refl _) (by omega)) (fun _ _ _ _ hs hg _ => Nat.le_trans hs hg.size))) (ownFrom_pure _ _)))
        (fun c => OwnFrom.and (OwnFrom.and (OwnFrom.and (Own.from (boxed_own _ _ _) _) (Own.from (boxed_own _ _ _) _)) (ownFrom_below (Nat.le_refl _) (by omega))) (ownFrom_pure _ _))
        ⟨⟨_, bt.out, OwnG.nil cellE W0 Z⟩, ⟨⟨b4.out, b5.out⟩, HB2w.out, HZW.out⟩, rfl⟩
        (fun (x : QP) a' W => ∃ Bx, W.heap[Bx]? = some (Obj.cells #[.string x.1.1, .int .i64 x.1.2] 54 (0, 0)) ∧
          a' = { tmps := #[v1, .string t, undef, undef, .pointer (some ⟨w.heap.size, 0, none⟩), .pointer (some ⟨w.heap.size + 1, 0, none⟩), .int .i64 0, pv, .pointer (some ⟨w2.heap.size, 0, none⟩), .pointer (some ⟨Bx, 0, none⟩), .string x.2, undef, undef, v1,
            .int .i64 0, .int .i64 0, .bool false, undef, .string t, v1, .int .i64 n, .int .i64 ((n : Int) + 1), pv, pv, .int .i64 n, v1, .int .i64 n, .bool false, v1, pv,
            .func (.func 58) #[] #[.pointer (some ⟨w2.heap.size + 1, 0, none⟩), .pointer (some ⟨w2.heap.size + 1 + 1, 0, none⟩)],
            .agg #[.string x.1.1, .int .i64 x.1.2], .string x.2, undef, undef, undef, undef, undef, undef, undef, undef, undef, undef, undef, undef, undef, undef, undef], defers := [] })
        ?_ ?_ ?_ ?_ ?_
      · rintro x a' s X Y row ⟨Bx, h4, h6⟩ hg hr
        exact ⟨Bx, cells_kept h4 hg hr, h6⟩
      · rintro l' pre ⟨⟨s, kd⟩, tx⟩ W K ⟨⟨v, hv, hO⟩, ⟨⟨hA4, hA5⟩, hB, hZs⟩, hp⟩ hx hK
        unfold encCS
        dsimp only
        gi_wp2
        obtain ⟨N0, N1, N2⟩ := new1 W (.cells #[.string s, .int .i64 kd] 54)
        exact hK _ _ (keepsFrom_below N2) (only_below N2) ⟨⟨v, boxed_below hv N2, hO.later N2 (Nat.le_refl _)⟩, ⟨⟨boxed_below hA4 N2, boxed_below hA5 N2⟩, hB.trans (N2.mono hB.size), Nat.le_trans hZs N2.size⟩, hp⟩ ⟨_, N1, rfl⟩
      · rintro l' pre ⟨⟨s, kd⟩, tx⟩ a' W ⟨⟨v, hv, hO⟩, ⟨⟨hA4, hA5⟩, hB, hZs⟩, hp⟩ ⟨Bx, hx1, rfl⟩ hlt hx
        have hBw : Below w.heap.size w W := B2.out.trans (hB.mono B2.out.size)
        have hsx : RdS tx tx.data.toList := by
          have hmem := (List.of_mem_zip hx).2
          unfold strL at hmem
          obtain ⟨p, hp9, rfl⟩ := List.mem_map.1 hmem
          exact ⟨rfl, by have := cutL_part 44 l p hp9; simp; omega⟩
        obtain ⟨c, hc⟩ : ∃ c, c = cellO (rdo ((s, kd), tx)) := ⟨_, rfl⟩
        obtain ⟨k, hk⟩ : ∃ k, k = codeO (rdo ((s, kd), tx)) := ⟨_, rfl⟩
        have CR := Lib.hid (show Calls Tryz.prog 35 #[.int .i64 kd, .string tx] W fun e w' => e = .returned (.tuple #[.agg #[.int .u64 (c.1 : Int), .string c.2], .int .i64 (k : Int)]) ∧ Below W.heap.size W w' from by
          refine (cell_Read kd tx tx.data.toList W hsx (HT.out.later hBw)).mono ?_
          rintro e w' ⟨he, hb⟩
          exact ⟨by rw [rdVal_of he, rdVal_co, hc, hk]; rfl, hb⟩)
        have HEQ := Lib.hid (show errQ (pre ++ [((s, kd), tx)]) = k from by rw [errQ_snoc _ _ hp, hk])
        have HCQ := Lib.hid (show cellsQ (pre ++ [((s, kd), tx)]) = cellsQ pre ++ [c] from by unfold cellsQ; rw [List.map_append, hc]; rfl)
        rcases c with ⟨cn, ct⟩
        have e1 := new_cellC hx1 (i := 1) rfl
        have HV := Lib.hid hv
        have HO := Lib.hid hO
        have HB := Lib.hid hB
        have HBw := Lib.hid hBw
        have HA4 := Lib.hid hA4
        have HA5 := Lib.hid hA5
        have hWs : w2.heap.size < W.heap.size := hv.lt
        have hd : 1 ≤ 5 - 1 - 1 := by omega
        have hlt' : pre.length < n := by rw [← hzl]; exact hlt
        clear hv hO hB hBw hA4 hA5 hx1 hsx hc hk hx hp hlt
        by_cases h0 : k = 0
        · subst h0
          rw [show ((0 : Nat) : Int) = 0 from rfl] at CR
          gi_wp2_with fail
          refine ⟨trivial, ?_⟩
          gi_at_call 35
          refine (CallsIn.inRound l' (callsIn_wide.2 CR.out)).mono ?_
          rintro e w5 ⟨rfl, hb⟩
          obtain ⟨N0, N1, N2⟩ := new1 w5 (.cells #[.int .u64 (cn : Int), .string ct] 45)
          have HB5 := Lib.hid (show Below W.heap.size W (w5.alloc (.cells #[.int .u64 (cn : Int), .string ct] 45)) from hb.trans (N2.mono hb.size))
          have hone := one_cellv (w5.alloc (.cells #[.int .u64 (cn : Int), .string ct] 45)) (cn, ct)
          have g1 := new_cellC N1 (i := 0) rfl
          have g2 := new_cellC N1 (i := 1) rfl
          have hws5 : W.heap.size ≤ w5.heap.size := hb.size
          rw [World.size_alloc] at hone
          dsimp only at hone
          have HONE := Lib.hid hone
          have HN0 := Lib.hid N0
          have hv5 : Boxed (w5.alloc (.cells #[.int .u64 (cn : Int), .string ct] 45)) w2.heap.size 23 v := boxed_below HV.out HB5.out
          have hc5 := hv5.cell
          have HV5 := Lib.hid hv5
          have HO5 := Lib.hid (HO.out.later HB5.out (Nat.le_refl _))
          have hpl : (cellsQ pre).length = pre.length := by simp [cellsQ]
          have hn6 : ((cellsQ pre).length + 1) * 24 ≤ 140737488355328 := by rw [hpl]; omega
          have HOA := Lib.hid (show OwnE ((w5.alloc (.cells #[.int .u64 (cn : Int), .string ct] 45)).alloc (.cells #[.int .u64 (cn : Int), .string ct] 45)) Z v (cellsQ pre) from HO5.out.alloc _)
          have hZW : Z ≤ ((w5.alloc (.cells #[.int .u64 (cn : Int), .string ct] 45)).alloc (.cells #[.int .u64 (cn : Int), .string ct] 45)).heap.size := by simp; omega
          clear hb hone N0 N1 N2 hv5 e1 CR HV HO hpl
          gi_wp2_with (with_reducible refine wplE_appendIn Z v ?hs HOA.out ⟨w5.heap.size + 1, 0, none⟩ (cn, ct) ?hx HONE.out hn6 hZW ?_)
          all_goals (try rfl)
          intro v6 w6 hO6 hsh hg6
          obtain ⟨g6, c6, rfl⟩ := hsh
          obtain ⟨a1, a2, a3, a4, a5⟩ := appended (E := cellE) (S := Mine w2.heap.size (w2.heap.size + 1) (w2.heap.size + 1 + 1)) HV5.out (by decide) HO5.out hO6 hg6 (fun j hj => ⟨by omega, by omega, by omega⟩) ⟨by omega, by omega, by omega⟩
          have c1 := a1.cell
          have f1 := a1.frozen
          have A2 := Lib.hid a2
          have A3 := Lib.hid a3
          have A4 := Lib.hid a4
          have A5 := Lib.hid a5
          have B5 := Lib.hid (mine_below a5 (by have := HB5.out.size; omega))
          have Q4 := Lib.hid (boxed_below HA4.out HB5.out)
          have Q5 := Lib.hid (boxed_below HA5.out HB5.out)
          clear a1 a2 a3 a4 a5 hO6 hg6 hc5 g1 g2
          gi_wp2
          refine ⟨(keepsFrom_below HB5.out).trans (A4.out.from _), (only_below HB5.out).trans A5.out, ⟨⟨_, A2.out, ?_⟩, ⟨⟨?_, ?_⟩, ?_, ?_⟩, HEQ.out⟩⟩
          · rw [HCQ.out]
            exact A3.out
          · exact (B5.out.block _ (by omega)).trans Q4.out
          · exact (B5.out.block _ (by omega)).trans Q5.out
          · exact (HB.out.trans (HB5.out.mono HB.out.size)).trans B5.out
          · exact Nat.le_trans hZs (Nat.le_trans HB5.out.size A5.out.size)
        · have q : ((k : Int) != 0) = true := by rw [bne_iff_ne]; omega
          gi_wp2_with fail
          refine ⟨trivial, ?_⟩
          gi_at_call 35
          refine (CallsIn.inRound l' (callsIn_wide.2 CR.out)).mono ?_
          rintro e w5 ⟨rfl, hb⟩
          obtain ⟨N0, N1, N2⟩ := new1 w5 (.cells #[.int .u64 (cn : Int), .string ct] 45)
          have HB5 := Lib.hid (show Below W.heap.size W (w5.alloc (.cells #[.int .u64 (cn : Int), .string ct] 45)) from hb.trans (N2.mono hb.size))
          have hws5 : W.heap.size ≤ w5.heap.size := hb.size
          have y1 := boxed_below HA4.out HB5.out
          have y2 := boxed_below HA5.out HB5.out
          have hc1 := y1.cell
          have hf1 := y1.frozen
          have hc2 := y2.cell
          have hf2 := y2.frozen
          have K4 := Lib.hid ((y1.set (.slice none 0 0)).other (show w.heap.size ≠ w.heap.size + 1 from by omega) (.int .i64 (k : Int)))
          have K5 := Lib.hid ((y2.other (show w.heap.size + 1 ≠ w.heap.size from by omega) (.slice none 0 0)).set (.int .i64 (k : Int)))
          clear hb N0 N1 N2 y1 y2 e1 CR HV HO
          gi_wp2
          refine ⟨(keepsFrom_below HB5.out).trans (((KeepsOthers.setCell _ _ _).trans (KeepsOthers.setCell _ _ _)).from _), ⟨⟨K4.out, ?_⟩, ?_⟩, rfl, by rw [HEQ.out]; exact h0⟩
          · rw [HEQ.out]; exact K5.out
          · exact ((HBw.out.trans (HB5.out.mono HBw.out.size)).setCell (p := ⟨w.heap.size, 0, none⟩) (Nat.le_refl _) _).setCell (p := ⟨w.heap.size + 1, 0, none⟩) (by show w.heap.size ≤ w.heap.size + 1; omega) _
      · rintro D W hD ⟨⟨v, hv, hO⟩, ⟨⟨hA4, hA5⟩, hB, hZs⟩, hp⟩ hK
        have hpl : (cellsQ (cs.zip (strL (cutL 44 l)))).length = n := by
          have : (cs.zip (strL (cutL 44 l))).length = n := hzl
          simp only [cellsQ, List.length_map]; exact this
        obtain ⟨m, hm⟩ : ∃ m, n = m + 1 := ⟨n - 1, by omega⟩
        obtain ⟨g, cap, rfl⟩ : ∃ g cap, v = .slice (some ⟨g, 0, none⟩) (m + 1) cap := by
          have h9 := hO.1
          rw [List.length_map, hpl, hm] at h9
          exact ownsRow_succ h9
        have hc8 := hv.cell
        have hc1 := hA4.cell
        have hf1 := hA4.frozen
        have hc2 := hA5.cell
        have hf2 := hA5.frozen
        have HM := Lib.hid hm
        have HP := Lib.hid hp
        have HO := Lib.hid hO
        have HK := Lib.hid hK
        have HB := Lib.hid (B2.out.trans (hB.mono B2.out.size))
        have P4 := Lib.hid hA4
        have P5 := Lib.hid hA5
        have HPL := Lib.hid hpl
        clear hv hO hA4 hA5 hB hp hpl hm hK
        gi_wp2
        obtain ⟨V, hV⟩ : ∃ V : Value, V = .slice (some ⟨g, 0, none⟩) (m + 1) cap := ⟨_, rfl⟩
        rw [← hV]
        have HO' := HO.out
        rw [← hV] at HO'
        have s1 := (P4.out.set V).other (show w.heap.size ≠ w.heap.size + 1 from by omega) (.int .i64 0)
        have s2 := (P5.out.other (show w.heap.size + 1 ≠ w.heap.size from by omega) V).set (.int .i64 0)
        have hK' := ((KeepsOthers.setCell W ⟨w.heap.size, 0, none⟩ V).trans (KeepsOthers.setCell _ ⟨w.heap.size + 1, 0, none⟩ (.int .i64 0))).same D _ HK.out rfl
        have k4 := cell_kept s1.cell (grownBy_putObj' _ D (.deferred none)) (fun r e => by cases e; exact ⟨_, hK', rfl⟩)
        have k5 := cell_kept s2.cell (grownBy_putObj' _ D (.deferred none)) (fun r e => by cases e; exact ⟨_, hK', rfl⟩)
        have hE0 : rowE cs l = 0 := by rw [HE.out]; exact HP.out
        refine ⟨by simp, .inl ⟨_, _, rfl, run_takeDeferred hK', ?_⟩⟩
        refine ⟨.tuple #[V, .int .i64 0], by simp [results, Tryz.results19, go_sem, k4, k5], V, by rw [hE0]; rfl, ?_, ?_⟩
        · exact ((HB.out.setCell (p := ⟨w.heap.size, 0, none⟩) (Nat.le_refl _) V).setCell (p := ⟨w.heap.size + 1, 0, none⟩) (by show w.heap.size ≤ w.heap.size + 1; omega) (.int .i64 0)).trans (belowK_b (w := w) (Nat.le_refl _) _ D _ _ (by omega) hK' rfl rfl)
        · have hrow : rowC cs l = cellsQ (cs.zip (strL (cutL 44 l))) := by unfold rowC; rw [if_pos hE0]; rfl
          rw [hrow]
          have h9 := OwnG.putObj (OwnG.aside (OwnG.aside HO' (show w.heap.size < Z from by omega) V) (show w.heap.size + 1 < Z from by omega) (.int .i64 0)) (.deferred none) hK' rfl
          exact OwnE.rd h9 (by rw [HPL.out]; omega)
      · rintro D c k W hD hk ⟨⟨⟨hA4, hA5⟩, hB⟩, rfl, hp⟩ hK
        gi_wp2
        have k4 := cell_kept hA4.cell (grownBy_putObj' _ D (.deferred none)) (fun r e => by cases e; exact ⟨_, hK, rfl⟩)
        have k5 := cell_kept hA5.cell (grownBy_putObj' _ D (.deferred none)) (fun r e => by cases e; exact ⟨_, hK, rfl⟩)
        have hE0 : rowE cs l = errQ ((cs.zip (strL (cutL 44 l))).take k) := by rw [HE.out]; exact errQ_take hp
        refine ⟨by simp, .inl ⟨_, _, rfl, run_takeDeferred hK, ?_⟩⟩
        refine ⟨.tuple #[.slice none 0 0, .int .i64 (errQ ((cs.zip (strL (cutL 44 l))).take k) : Nat)], by simp [results, Tryz.results19, go_sem, k4, k5], _, by rw [hE0], ?_, ?_⟩
        · exact hB.trans (belowK_b (w := w) (Nat.le_refl _) _ D _ _ (by omega) hK rfl rfl)
        · have hrow : rowC cs l = [] := by unfold rowC; rw [if_neg (by rw [hE0]; exact hp)]
          rw [hrow]; exact RdE.nil _
    · have HE := Lib.hid (show rowE cs l = 6 from by unfold rowE; rw [if_neg (by omega), if_pos (by rw [← HN.out]; exact hcut)])
      have HR := Lib.hid (show rowC cs l = [] from by unfold rowC; rw [if_neg (by rw [HE.out]; decide)])
      have HC := Lib.hid hcut
      clear hx hcut
      go_enter Tryz.func19, Tryz.ntmps19
      go_wp2_with fail
      refine (SC.out _ N0.out.2.2.2).mono ?_
      rintro e w1 ⟨rfl, hb⟩
      have B1 := Lib.hid (N0.out.2.2.2.trans (hb.mono N0.out.2.2.2.size))
      have X1 := Lib.hid (show Boxed w1 w.heap.size 23 (.slice none 0 0) from boxed_below N0.out.2.1 hb)
      have X2 := Lib.hid (show Boxed w1 (w.heap.size + 1) 26 (.int .i64 0) from boxed_below N0.out.2.2.1 hb)
      have SN1 := Lib.hid (SN.out _ B1.out)
      clear hb N0 SC SN
      go_wp2_with fail
      refine SN1.out.mono ?_
      rintro e w2 ⟨pv, ss, rfl, hss, _, hse, hb⟩
      have B2 := Lib.hid (B1.out.trans (hb.mono B1.out.size))
      have y1 := boxed_below X1.out hb
      have y2 := boxed_below X2.out hb
      have hc1 := y1.cell
      have hf1 := y1.frozen
      have hc2 := y2.cell
      have hf2 := y2.frozen
      have hlp := hss.len
      have hne := hse HC.out
      have q1 : ((ss.length : Int) != (n : Int)) = true := by rw [bne_iff_ne]; omega
      have q2 : (ss.length != n) = true := by simpa using hne
      have k4 := ((y1.set (.slice none 0 0)).other (show w.heap.size ≠ w.heap.size + 1 from by omega) (.int .i64 6)).cell
      have k5 := ((y2.other (show w.heap.size + 1 ≠ w.heap.size from by omega) (.slice none 0 0)).set (.int .i64 6)).cell
      have K4 := Lib.hid k4
      have K5 := Lib.hid k5
      clear hb hss hse hne y1 y2 X1 X2 SN1 k4 k5
      go_wp2
      refine bodyPost_ret (v := .tuple #[.slice none 0 0, .int .i64 6]) (by simp [results, Tryz.results19, go_sem, K4.out, K5.out]) rfl ?_
      refine ⟨_, by rw [HE.out]; rfl, ?_, by rw [HR.out]; exact RdE.nil _⟩
      exact (B2.out.setCell (p := ⟨w.heap.size, 0, none⟩) (Nat.le_refl _) _).setCell (p := ⟨w.heap.size + 1, 0, none⟩) (by show w.heap.size ≤ w.heap.size + 1; omega) _
  · have HE := Lib.hid (show rowE cs l = x from by unfold rowE; rw [if_pos (by omega), hx])
    have HR := Lib.hid (show rowC cs l = [] from by unfold rowC; rw [if_neg (by rw [HE.out]; exact h0)])
    have q : ((x : Int) != 0) = true := by rw [bne_iff_ne]; omega
    clear hx
    go_enter Tryz.func19, Tryz.ntmps19
    go_wp2_with fail
    refine (SC.out _ N0.out.2.2.2).mono ?_
    rintro e w1 ⟨rfl, hb⟩
    have B1 := Lib.hid (N0.out.2.2.2.trans (hb.mono N0.out.2.2.2.size))
    have y1 : Boxed w1 w.heap.size 23 (.slice none 0 0) := boxed_below N0.out.2.1 hb
    have y2 : Boxed w1 (w.heap.size + 1) 26 (.int .i64 0) := boxed_below N0.out.2.2.1 hb
    have hc1 := y1.cell
    have hf1 := y1.frozen
    have hc2 := y2.cell
    have hf2 := y2.frozen
    have k4 := ((y1.set (.slice none 0 0)).other (show w.heap.size ≠ w.heap.size + 1 from by omega) (.int .i64 (x : Int))).cell
    have k5 := ((y2.other (show w.heap.size + 1 ≠ w.heap.size from by omega) (.slice none 0 0)).set (.int .i64 (x : Int))).cell
    have K4 := Lib.hid k4
    have K5 := Lib.hid k5
    clear hb y1 y2 k4 k5 N0
    go_wp2
    refine bodyPost_ret (v := .tuple #[.slice none 0 0, .int .i64 (x : Int)]) (by simp [results, Tryz.results19, go_sem, K4.out, K5.out]) rfl ?_
    refine ⟨_, by rw [HE.out], ?_, by rw [HR.out]; exact RdE.nil _⟩
    exact (B1.out.setCell (p := ⟨w.heap.size, 0, none⟩) (Nat.le_refl _) _).setCell (p := ⟨w.heap.size + 1, 0, none⟩) (by show w.heap.size ≤ w.heap.size + 1; omega) _

end Go.Proofs.YtkljkpffpdpphaaGreatDoor
