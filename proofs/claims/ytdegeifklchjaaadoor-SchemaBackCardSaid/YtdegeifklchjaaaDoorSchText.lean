/-
  Package schema: Text.
-/
import Derived.Test.YtdegeifklchjaaaDoorSchNames
import Derived.Shelf.Strings.OnBuilder
set_option linter.unusedVariables false
set_option linter.unusedSimpArgs false
set_option maxRecDepth 1000000
namespace Go.Proofs.YtdegeifklchjaaaDoor
open Go.RowKit Go.Shelf

theorem joinX : Builder.Extra Tryd.prog Tryd.laysJoin_ren := {
  sizeBuilder := by kernel_rfl
  liesBuilder := by kernel_rfl
  t5 := Tryd.underlying5
  a5 := Tryd.isAgg5
  z5 := Tryd.sizeOf5
  v5 := Tryd.zeroValue5
  infoByte := by kernel_rfl
  cellsByte := by kernel_rfl
  sizeByte := by kernel_rfl
  neB5 := by decide }
theorem kindB_cell {q : Nat} (h : q < 6) : (kindB[q]?).map Value.string = some (.string (kindB.getD q default)) := by
  obtain rfl | rfl | rfl | rfl | rfl | rfl : q = 0 ∨ q = 1 ∨ q = 2 ∨ q = 3 ∨ q = 4 ∨ q = 5 := by omega
  all_goals rfl

/-- What Text answers. -/
def TxO (w : World) (cs : List Col) (e : Ending) (w' : World) : Prop :=
  ∃ t, e = .returned (.tuple #[.string t, .int .i64 (errS cs : Nat)]) ∧ Below w.heap.size w w' ∧ ((errS cs ≠ 0 ∧ t = ⟨#[]⟩) ∨ (errS cs = 0 ∧ RdS t (txS cs)))
/-- A column's text. -/
def txB (c : ColB) : ByteArray := ⟨(txCol (colL c)).toArray⟩

theorem txB_eq (s : ByteArray) (q : Nat) (hq : q < 6) : txB (s, (q : Int)) = s ++ ⟨#[58]⟩ ++ kindB.getD q default := by
  unfold txB txCol colL
  rw [(kindB_rd hq).1.eq]
  apply ByteArray.ext
  simp
theorem txB_list (c : ColB) : (txB c).data.toList = txCol (colL c) := by unfold txB; simp
theorem txS_small {cs : List ColB} (h : errS (colsL cs) = 0) : (txS (colsL cs)).length ≤ 1000 := by
  obtain ⟨h1, h2, _, h4⟩ := errS_zero h
  have hl : ∀ c ∈ colsL cs, (txCol c).length ≤ 38 := by
    intro c hc
    obtain ⟨a, b, d⟩ := h4 c hc
    obtain ⟨q, hq⟩ := Int.eq_ofNat_of_zero_le b
    have := (kindB_rd (q := q) (by omega)).2
    unfold txCol
    rw [hq, Int.toNat_natCast]
    simp only [List.length_append, List.length_cons, List.length_nil]
    omega
  have gen : ∀ l : List (List UInt8), (∀ x ∈ l, x.length ≤ 38) → Lib.lens l ≤ 38 * l.length := by
    intro l
    induction l with
    | nil => intro _; simp [Lib.lens]
    | cons x r ih =>
      intro hx
      have h1 := hx x (by simp)
      have h2 := ih (fun y hy => hx y (by simp [hy]))
      unfold Lib.lens at h2 ⊢
      rw [List.map_cons, List.sum_cons, List.length_cons]
      omega
  unfold txS
  rw [colsL_length] at h1 h2
  have hml : ((colsL cs).map txCol).length = cs.length := by rw [List.length_map, colsL_length]
  cases hm : (colsL cs).map txCol with
  | nil => rw [Lib.join_nil]; simp
  | cons x r =>
    have hg := gen ((colsL cs).map txCol) (by
      intro y hy
      obtain ⟨c, hc, rfl⟩ := List.mem_map.1 hy
      exact hl c hc)
    rw [hm] at hg hml
    rw [Lib.join_length]
    simp only [List.length_cons, List.length_nil] at hg hml ⊢
    omega

set_option maxHeartbeats 8000000 in
theorem schema_Text (v : Value) (cs : List ColB) (w : World) (h : RdC w v cs) (hC : CS cs) (hT : Tabs w) :
    Calls Tryd.prog 12 #[v] w (TxO w (colsL cs)) := by
  have hlen := h.len
  have hsm := h.small
  have hcd := errS_codes (colsL cs)
  by_cases h0 : errS (colsL cs) = 0
  · have HZ := Lib.hid h0
    obtain ⟨z1, z2, z3, z4⟩ := errS_zero h0
    rw [colsL_length] at z1 z2
    have HH := Lib.hid h
    clear h h0
    go_enter Tryd.func12, Tryd.ntmps12
    go_wp2_with fail
    refine (schema_Check v cs w HH.out hC hT).mono ?_
    rintro e w1 ⟨rfl, hb⟩
    rw [HZ.out]
    have HB1 := Lib.hid hb
    clear hb
    go_wp2_with fail
    refine (cell_Names w1).mono ?_
    rintro e w2 ⟨rfl, hw2⟩
    obtain ⟨N0, N1, N2⟩ := new1 w1 (.cells (kindB.map Value.string).toArray 9)
    rw [← hw2] at N0 N1 N2
    have HB2 := Lib.hid (HB1.out.trans (N2.mono HB1.out.size))
    obtain ⟨nb, hnb⟩ : ∃ nb, nb = w1.heap.size := ⟨_, rfl⟩
    rw [← hnb] at N1 N0
    rw [← hnb]
    have HK := Lib.hid N1
    have hnb1 : w.heap.size ≤ nb := by rw [hnb]; exact HB1.out.size
    have hnb2 : nb < w2.heap.size := by omega
    clear hw2 N0 N1 N2 hnb
    have HO := Lib.hid (OwnT.nil w2 (nb + 1))
    go_wp2
    go_loopw [6, 17] (fun a i wr => ∃ k : Nat, k ≤ cs.length ∧ i = .int .i64 k ∧ Hid (Below w.heap.size w wr) ∧ Hid (wr.heap[nb]? = some (.cells (kindB.map Value.string).toArray 9 (0, 0))) ∧ Hid (OwnT wr (nb + 1) a ((cs.take k).map txB))) (fun _ i _ => cs.length - (intOf i).toNat)
    case atStart => exact ⟨0, by omega, rfl, HB2, HK, HO⟩
    case round =>
      clear HO HB2 HK
      obtain ⟨k, hk, rfl, HB, HK, HO⟩ := hrel
      by_cases hlt : k < cs.length
      · have hr := HH.out.later HB.out (Nat.le_refl _)
        obtain ⟨b, o, hidx, hcell, hblk⟩ := hr.get hlt
        obtain ⟨hc0, hc1⟩ := hcell _ hr
        have hz := z4 ((colsL cs).getD k default) (by
          rw [show (colsL cs).getD k default = (colsL cs)[k]'(by rw [colsL_length]; exact hlt) from by simp [List.getD, colsL_length, hlt]]
          exact List.getElem_mem _)
        rw [colsL_getD hlt] at hz
        have hts : (cs.take (k + 1)).map txB = (cs.take k).map txB ++ [txB (cs.getD k default)] := by rw [take_succD hlt default, List.map_append]; rfl
        rcases hcg : cs.getD k default with ⟨s, kd⟩
        rw [hcg] at hc0 hc1 hz hts
        dsimp only at hc0 hc1
        have hz : s.data.toList.length ≤ 32 ∧ 0 ≤ kd ∧ kd ≤ 5 := hz
        obtain ⟨q, rfl⟩ := Int.eq_ofNat_of_zero_le hz.2.1
        have hq : q < 6 := by omega
        have HTS := Lib.hid hts
        have hss : s.size ≤ 32 := hz.1
        have hkn : HK.out = HK.out := rfl
        have hkc : wr.cell? ⟨nb, q, none⟩ = some (.string (kindB.getD q default)) := by
          rw [cell_of_row _ _ _ _ _ _ HK.out, List.getElem?_toArray, List.getElem?_map]
          exact kindB_cell hq
        obtain ⟨kt, hkt⟩ : ∃ kt, kt = kindB.getD q default := ⟨_, rfl⟩
        rw [← hkt] at hkc
        have hks : kt.size ≤ 5 := by
          have := kindB_rd hq
          rw [hkt, this.1.eq]; simpa [ByteArray.size] using this.2
        have HKT := Lib.hid hkt
        clear hr hcell hcg hts z4 hz hkn hkt
        obtain ⟨N0, N1, N2⟩ := new1 wr (.cells #[.string s, .int .i64 (q : Int)] 51)
        have hnb3 : nb < wr.heap.size := (Array.getElem?_eq_some_iff.1 HK.out).1
        have hlb := fun j hj => OwnT.lt HO.out (k := j) hj
        obtain ⟨w3, hw3⟩ : ∃ w3, w3 = wr.alloc (.cells #[.string s, .int .i64 (q : Int)] 51) := ⟨_, rfl⟩
        have HO3 := Lib.hid (show OwnT w3 (nb + 1) u6 ((cs.take k).map txB) by rw [hw3]; exact HO.out.alloc _)
        have HB3 := Lib.hid (show Below w.heap.size w w3 by rw [hw3]; exact HB.out.alloc HB.out.size _)
        rw [← hw3] at N0 N1 N2
        obtain ⟨cb, hcb⟩ : ∃ cb, cb = wr.heap.size := ⟨_, rfl⟩
        have s0 : w3.cell? ⟨cb, 0, none⟩ = some (.string s) := by rw [hcb]; exact new_cellC (i := 0) N1 rfl
        have s1 : w3.cell? ⟨cb, 1, none⟩ = some (.int .i64 (q : Int)) := by rw [hcb]; exact new_cellC (i := 1) N1 rfl
        have s2 : w3.cell? ⟨nb, q, none⟩ = some (.string kt) := by rw [N2.cell (p := ⟨nb, q, none⟩) hnb3]; exact hkc
        have n1 : u6.ownBlock ≠ some cb := fun hh => by have := (hlb _ hh).2; omega
        have n2 : u6.ownBlock ≠ some nb := fun hh => by have := (hlb _ hh).1; omega
        have hw3s : nb + 1 ≤ w3.heap.size := by omega
        have q0 : (0 : Int) ≤ (q : Int) := by omega
        have q1 : (q : Int) < 6 := by omega
        have hcb3 : cb < w3.heap.size := by omega
        have p1 : ¬ (9223372036854775807 < s.size + 1) := by omega
        have p2 : ¬ (9223372036854775807 < s.size + 1 + kt.size) := by omega
        have HW3 := Lib.hid hw3
        have HCB := Lib.hid hcb
        clear hkc N0 N1 N2 hlb hw3 hcb
        go_wp2_with fail
        rw [← HW3.out, ← HCB.out]
        clear hc0 hc1
        go_region_held3 (fun u => u.cell? ⟨cb, 0, none⟩ = some (.string s) ∧ u.cell? ⟨cb, 1, none⟩ = some (.int .i64 (q : Int)) ∧ u.cell? ⟨nb, q, none⟩ = some (.string kt))
          (first
            | go_keep
            | (go_split_ands
               refine ⟨?_, ?_, ?_⟩
               · (rw [hgrow.cell_far _ (by simp; omega) (Ne.symm n1)]; assumption)
               · (rw [hgrow.cell_far _ (by simp; omega) (Ne.symm n1)]; assumption)
               · (rw [hgrow.cell_far _ (by simp; omega) (Ne.symm n2)]; assumption)))
          ((refine stepT_append (nb + 1) u6 ((cs.take k).map txB) (by rfl) (OwnT.drew (OwnT.alloc HO3.out (.cells #[.string (s ++ ⟨#[58]⟩ ++ kt)] 9))) ⟨w3.heap.size, 0, none⟩ (s ++ ⟨#[58]⟩ ++ kt) (by rfl) (one_str w3 _) (by simp; omega) (by simp; omega) ?_; intro v4 w4 hO4 hgrow))
        have HO4 := Lib.hid hO4
        have HG := Lib.hid hgrow
        have HB4 := Lib.hid (((HB3.out.alloc HB3.out.size (.cells #[.string (s ++ ⟨#[58]⟩ ++ kt)] 9)).drew).grown hgrow (by simp; omega) (fun j hj => by have := (OwnT.lt HO3.out hj).1; omega))
        clear hO4 hgrow
        have HK4 := Lib.hid (show w4.heap[nb]? = some (.cells (kindB.map Value.string).toArray 9 (0, 0)) from by
          rw [HG.out.block nb (by simp; omega) (fun hh => n2 hh.symm)]
          have e : w3.heap[nb]? = wr.heap[nb]? := by rw [HW3.out]; exact Below.heap_alloc _ _ _ hnb3
          show (w3.alloc _).heap[nb]? = _
          rw [Below.heap_alloc _ _ _ (by omega), e]; exact HK.out)
        have HT4 := Lib.hid (show OwnT w4 (nb + 1) v4 ((cs.take (k + 1)).map txB) from by rw [HTS.out, txB_eq s q hq, ← HKT.out]; exact HO4.out)
        clear s0 s1 s2 n1 n2 p1 p2 q0 q1
        go_wp2
        go_roundw
        case rel => exact ⟨k + 1, by omega, by go_num, HB4, HK4, HT4⟩
        case measure => simp [intOf]; omega
      · obtain rfl : k = cs.length := by omega
        have hown := HO.out
        rw [List.take_of_length_le (Nat.le_refl _)] at hown
        have hrd := hown.rd (by rw [List.length_map]; exact hsm)
        obtain ⟨ao, cap, hv6, hcap, hnil, hsome⟩ := RdG.shape hrd
        have hl1 : ((cs.map txB).map strV).length = cs.length := by simp
        rw [hl1] at hv6 hcap hsome
        obtain ⟨bk, o6, rfl⟩ := hsome z1
        subst hv6
        have hcells : ∀ (j : Nat) x, (cs.map txB)[j]? = some x → wr.cell? ⟨bk, o6 + j, none⟩ = some (.string x) := by
          intro j x hj
          have hjl := (List.getElem?_eq_some_iff.1 hj).1
          have := RdG.cells hrd j (by rw [List.length_map]; exact hjl) 0 (.string x) (by
            rw [getD_map strV _ j hjl default]
            have e : (cs.map txB).getD j default = x := by simp only [List.getD, hj, Option.getD_some]
            rw [e]; rfl)
          rw [adr_lit, show o6 + (j * strE.n + 0) = o6 + j from by show o6 + (j * 1 + 0) = o6 + j; omega] at this
          exact this
        have hmap : (cs.map txB).map (·.data.toList) = (colsL cs).map txCol := by
          unfold colsL
          rw [List.map_map, List.map_map]
          apply List.map_congr_left
          intro c _
          exact txB_list c
        have hsmall := txS_small HZ.out
        have hj := Any.strings_Join Tryd.laysJoin joinX bk o6 cap (cs.map txB) ⟨#[44]⟩ wr hcells (World.block_lt_of_cell? wr _ (hcells 0 _ (List.getElem?_eq_getElem (by rw [List.length_map]; exact z1)))) (by rw [List.length_map]; omega) (by rw [List.length_map]; exact hcap) (by
          rw [hmap]
          have : (txS (colsL cs)).length ≤ 140737488355328 := by omega
          exact this)
        rw [hmap, List.length_map] at hj
        have hj : Calls Tryd.prog 28 #[.slice (some ⟨bk, o6, none⟩) cs.length cap, .string ⟨#[44]⟩] wr fun e w' => e = .returned (.string ⟨(txS (colsL cs)).toArray⟩) ∧ Below wr.heap.size wr w' := hj
        obtain ⟨tt, htt⟩ : ∃ tt : ByteArray, tt = ⟨(txS (colsL cs)).toArray⟩ := ⟨_, rfl⟩
        rw [← htt] at hj
        have HTT := Lib.hid htt
        have HJ := Lib.hid hj
        have HSM := Lib.hid hsmall
        clear hown hrd hcells hmap hsmall hj htt hlt hl1 hcap hnil hsome
        go_wp2_with fail
        refine HJ.out.mono ?_
        rintro e w5 ⟨rfl, hb⟩
        have HB5 := Lib.hid (HB.out.trans (hb.mono HB.out.size))
        clear hb
        go_wp2
        go_ret2
        exact ⟨tt, by rw [HZ.out]; rfl, HB5.out, .inr ⟨HZ.out, HTT.out, by have := HSM.out; omega⟩⟩
  · have hne : (((errS (colsL cs) : Nat) : Int) != 0) = true := by simp; omega
    obtain ⟨x, hx⟩ : ∃ x, x = errS (colsL cs) := ⟨_, rfl⟩
    rw [← hx] at hne
    have hck := schema_Check v cs w h hC hT
    rw [← hx] at hck
    have HX := Lib.hid hx
    clear hx h
    go_enter Tryd.func12, Tryd.ntmps12
    go_wp2_with fail
    refine hck.mono ?_
    rintro e w1 ⟨rfl, hb⟩
    have HB1 := Lib.hid hb
    clear hb hck
    go_wp2
    go_ret2
    exact ⟨_, by rw [← HX.out]; rfl, HB1.out, .inl ⟨h0, rfl⟩⟩

end Go.Proofs.YtdegeifklchjaaaDoor
