/-
  row.Text.
-/
import Derived.Test.YtfpidkcdgebnpaaGreatDoorGLaws
import Derived.Test.YtfpidkcdgebnpaaGreatDoorGRow
import Derived.Shelf.Strings.OnBuilder
import Derived.Test.YtfpidkcdgebnpaaGreatDoorShelf9
import Derived.Test.YtfpidkcdgebnpaaGreatDoorGParse
import Derived.Shelf.Strings.Split
import Derived.Lib.SplitLaws
import Derived.Lib.LaidTab
import Derived.LaidLaws
import Derived.ShapedOpen
import Derived.Shelf.Vars
import Derived.Deep.Slices
import Derived.Test.YtfpidkcdgebnpaaGreatDoorGBaseB
set_option linter.unusedVariables false
set_option linter.unusedSimpArgs false
set_option maxRecDepth 1000000
namespace Go.Proofs.YtfpidkcdgebnpaaGreatDoor
open Go.RowKit Go.Shelf

attribute [local go_sem] Oper.semAt_some

theorem joinX : Builder.Extra Tryz.prog Tryz.laysJoin_ren := {
  sizeBuilder := by kernel_rfl
  liesBuilder := by kernel_rfl
  t5 := Tryz.underlying5
  a5 := Tryz.isAgg5
  z5 := Tryz.sizeOf5
  v5 := Tryz.zeroValue5
  infoByte := by kernel_rfl
  cellsByte := by kernel_rfl
  sizeByte := by kernel_rfl
  neB5 := by decide }

theorem lib_Join (v : Value) (ss : List ByteArray) (w : World) (h : RdT w v ss) (hp : 0 < ss.length) (hl : (Lib.join (ss.map (·.data.toList)) [44]).length ≤ 100000) :
    Calls Tryz.prog 56 #[v, .string ⟨#[44]⟩] w fun e w' => e = .returned (.string ⟨(Lib.join (ss.map (·.data.toList)) [44]).toArray⟩) ∧ Below w.heap.size w w' := by
  have hsm := h.small
  obtain ⟨ao, cap, hv, hcap, hnil, hsome⟩ := RdG.shape h
  have hl1 : (ss.map strV).length = ss.length := by simp
  rw [hl1] at hv hcap hsome
  obtain ⟨bk, o6, rfl⟩ := hsome hp
  subst hv
  have hcells : ∀ (j : Nat) x, ss[j]? = some x → w.cell? ⟨bk, o6 + j, none⟩ = some (.string x) := by
    intro j x hj
    have hjl := (List.getElem?_eq_some_iff.1 hj).1
    have := RdG.cells h j (by rw [List.length_map]; exact hjl) 0 (.string x) (by
      rw [getD_map strV _ j hjl default]
      have e : ss.getD j default = x := by simp only [List.getD, hj, Option.getD_some]
      rw [e]; rfl)
    rw [adr_lit, show o6 + (j * strE.n + 0) = o6 + j from by show o6 + (j * 1 + 0) = o6 + j; omega] at this
    exact this
  exact Any.strings_Join Tryz.laysJoin joinX bk o6 cap ss ⟨#[44]⟩ w hcells (World.block_lt_of_cell? w _ (hcells 0 _ (List.getElem?_eq_getElem hp))) (by omega) hcap (by
    have : (Lib.join (ss.map (·.data.toList)) [44]).length ≤ 140737488355328 := by omega
    exact this)

/-- 'append(s, a string)' in a round. -/
theorem wplT_appendIn {F : Fence} {n : Nat} {w : World} {ss : List ByteArray} {ops : Array Oper} {Q : Exit → Act → World → Prop} {rest : List Oper} {a : Act} {dst : Option Tmp} {ty : TypeId} {pos : String} {aft : Array Edge} {s x : Operand}
    (base : Nat) (sv : Value) (hs : a.eval s = sv) (ho : OwnT w base sv ss) (ad : Addr) (c : ByteArray) (hx : a.eval x = .slice (some ad) 1 1)
    (hc : ∀ j z, (strV c)[j]? = some z → w.cell? (ad.add j) = some z) (hn : (ss.length + 1) * 16 ≤ 140737488355328) (hbase : base ≤ w.heap.size)
    (h : ∀ v' w', OwnT w' base v' (ss ++ [c]) → (∃ g cap, v' = .slice (some ⟨g, 0, none⟩) (ss.length + 1) cap) → w.grownBy w' sv.ownBlock → wpListIn F n Tryz.prog ops Q rest (a.put dst v') w') :
    wpListIn F n Tryz.prog ops Q (⟨dst, .call ⟨.builtin .append, #[s, x], #[91, 91]⟩, ty, pos, aft, none⟩ :: rest) a w :=
  wplG_appendIn (E := strE) (vs := ss.map strV) strOk base sv hs ho ad (strV c) hx rfl (by intro z hz; simp [strV] at hz; rw [hz]; rfl) hc (by rw [List.length_map]; exact hn) (by rw [List.length_map]; omega) hbase
    (fun v' w' h1 h2 h3 => h v' w' (by unfold OwnT; rw [List.map_append]; exact h1) (by rw [List.length_map] at h2; exact h2) h3)

/-- A cell's text. -/
theorem cell_TextR (kind : Int) (num : Nat) (hnum : num < 18446744073709551616) (s : ByteArray) (l : List UInt8) (w : World) (h : RdS s l) (hT : Lib3 w) (he : checkC kind num l = 0) :
    Calls Tryz.prog 53 #[.int .i64 kind, cellV num s] w fun e w' => (∃ t, e = .returned (.tuple #[.string t, .int .i64 0]) ∧ RdS t (textK kind num l)) ∧ Below w.heap.size w w' := by
  obtain ⟨hk, _, _, _, _, h5⟩ := check_zero he
  unfold textK
  by_cases h34 : kind = 3 ∨ kind = 4
  · rw [if_pos h34]
    exact cell_TextB kind h34 num s l w h hT.tabs he (by omega)
  · rw [if_neg h34]
    exact cell_TextN kind (by omega) num hnum s l w h hT he

/-- What row.Text answers. -/
def TxR (w : World) (cs : List ColB) (rs : List CellB) (e : Ending) (w' : World) : Prop :=
  ∃ t, e = .returned (.tuple #[.string t, .int .i64 (errRow cs rs : Nat)]) ∧ Below w.heap.size w w' ∧ ((errRow cs rs ≠ 0 ∧ t = ⟨#[]⟩) ∨ (errRow cs rs = 0 ∧ RdS t (textR cs rs)))

set_option maxHeartbeats 8000000 in
theorem row_Text (v1 v2 : Value) (cs : List ColB) (rs : List CellB) (w : World) (h1 : RdC w v1 cs) (h2 : RdE w v2 rs) (hC : CS cs) (hE : CES rs) (hT : Lib3 w) :
    Calls Tryz.prog 55 #[v1, v2] w (TxR w cs rs) := by
  have R1 := Lib.hid (fun wz (hz : Below w.heap.size w wz) => h1.later hz (Nat.le_refl _))
  have R2 := Lib.hid (fun wz (hz : Below w.heap.size w wz) => h2.later hz (Nat.le_refl _))
  have HT := Lib.hid hT
  obtain ⟨x, hx⟩ : ∃ x, x = errRow cs rs := ⟨_, rfl⟩
  have CA := Lib.hid (show Calls Tryz.prog 47 #[v1, v2] w fun e w' => e = .returned (.int .i64 (x : Int)) ∧ Below w.heap.size w w' from by
    rw [hx]; exact row_Check v1 v2 cs rs w h1 h2 hC hE hT.tabs)
  clear h1 h2 hT
  by_cases h0 : x = 0
  · have hxl := errRow_len (show errRow cs rs = 0 from by omega)
    have hz8 := errS_zero hxl.1
    rw [colsL_length] at hz8
    have HX := Lib.hid (show errRow cs rs = 0 from by omega)
    have HL := Lib.hid hxl.2.1
    have HP := Lib.hid (errP_zero hxl.2.2)
    have HSM := Lib.hid (textR_small hE hxl.2.2 hz8.2.1)
    have hc0 := hz8.1
    have hc8 := hz8.2.1
    subst h0
    rw [show ((0 : Nat) : Int) = 0 from rfl] at CA
    have MK := Lib.hid (fun wz (hz : Below w.heap.size w wz) => bothCC_make v1 v2 cs rs wz (R1.out wz hz) (R2.out wz hz))
    clear hx hxl hz8
    refine (callsIn_wide (n := 5)).1 ?_
    refine callsIn_of_wp_marks Tryz.func55 rfl trivial ?_ rfl
    simp only [Tryz.ntmps55, List.size_toArray, List.length_cons, List.length_nil, Nat.reduceAdd, Nat.reduceSub, Array.replicate_succ, Array.replicate_zero, List.push_toArray, List.append_toArray, List.nil_append, List.cons_append]
    gi_wp2_with fail
    refine ⟨trivial, ?_⟩
    gi_at_call 47
    refine (callsIn_wide.2 CA.out).mono ?_
    rintro e w1 ⟨rfl, hb⟩
    have B1 := Lib.hid hb
    have N1 := new1 w1 (.cells #[.slice none 0 0] 91)
    have hB3 : Below w.heap.size w (w1.alloc (.cells #[.slice none 0 0] 91)) := hb.trans (N1.2.2.mono hb.size)
    have Y3 : Boxed (w1.alloc (.cells #[.slice none 0 0] 91)) w1.heap.size 91 (.slice none 0 0) := N1.2.1
    have hw1s : w.heap.size ≤ w1.heap.size := hb.size
    have HSZ3 := Lib.hid N1.1
    have MKz := Lib.hid (MK.out _ hB3)
    clear hb N1 CA
    gi_wp2_with fail
    refine ⟨trivial, ?_⟩
    gi_at_call 80
    generalize w1.alloc (.cells #[.slice none 0 0] 91) = w3 at MKz hB3 Y3 HSZ3 ⊢
    refine (callsIn_wide.2 MKz.out).mono ?_
    rintro e w4 ⟨rfl, rfl⟩
    gi_wp2
    obtain ⟨W0, hW0⟩ : ∃ W0, (w3.alloc (.cells #[v1] 22)).alloc (.cells #[v2] 36) = W0 := ⟨_, rfl⟩
    obtain ⟨M0, M1, M2, M3⟩ := new2 w3 (.cells #[v1] 22) (.cells #[v2] 36)
    rw [hW0] at M0 M1 M2 M3 ⊢
    clear hW0
    have bt := Lib.hid (boxed_below Y3 M3)
    have hB0 : Below w.heap.size w W0 := hB3.trans (M3.mono hB3.size)
    have hb1 : Boxed W0 w3.heap.size 22 v1 := M1
    have hb2 : Boxed W0 (w3.heap.size + 1) 36 v2 := M2
    obtain ⟨T, hTe⟩ : ∃ T, T = w1.heap.size := ⟨_, rfl⟩
    have hsz3 := HSZ3.out
    rw [← hTe] at bt hsz3 hw1s ⊢
    rw [hsz3] at M0 hb1 hb2 ⊢
    clear hTe HSZ3 hsz3 M1 M2 Y3 MKz MK hB3
    have hlz : cs.length = rs.length := HL.out.symm
    have hzl : (cs.zip rs).length = cs.length := by rw [List.length_zip]; omega
    obtain ⟨Z, hZ⟩ : ∃ Z, Z = W0.heap.size := ⟨_, rfl⟩
    have hZT : Z = T + 3 := by omega
    clear hZ
    refine range_through (by omega) (gf := 120) (lb := #[.pointer (some ⟨T + 1, 0, none⟩), .pointer (some ⟨T + 1 + 1, 0, none⟩)]) rfl (enters_of Tryz.func120 (by kernel_rfl) rfl)
      (bothCC_through (5 - 1) (by omega) (T + 1) (T + 1 + 1) v1 v2 cs rs hlz w R1.out R2.out W0 hB0 hb1.cell hb2.cell) only_t (only_b (by omega) (by omega) (by omega)) (fun _ => rfl)
      (fun pre W => (∃ v, Boxed W T 91 v ∧ OwnG strE W Z v ((strL (pre.map txP)).map strV)) ∧ (Below w.heap.size w W ∧ Z ≤ W.heap.size))
      (fun _ _ _ => False)
      (OwnFrom.and (Own.from (holdsG_own Z T 91 _) _) (OwnFrom.and (ownFrom_below (Nat.le_refl _) (by omega)) (fun _ _ _ _ hs hg _ => Nat.le_trans hs hg.size)))
      (fun _ _ _ _ _ hs _ _ => hs)
      ⟨⟨_, bt.out, OwnG.nil strE W0 Z⟩, hB0, by omega⟩
      (fun (x : CP) a' W => ∃ Bx By, (W.heap[Bx]? = some (Obj.cells #[.string x.1.1, .int .i64 x.1.2] 110 (0, 0)) ∧ W.heap[By]? = some (Obj.cells #[.int .u64 (x.2.1 : Int), .string x.2.2] 71 (0, 0))) ∧
        a' = { tmps := #[v1, v2, undef, undef, .string ⟨#[]⟩, .int .i64 0, .int .i64 0, .pointer (some ⟨T, 0, none⟩), .pointer (some ⟨Bx, 0, none⟩), .pointer (some ⟨By, 0, none⟩), undef, undef, v1, v2, .int .i64 0, .int .i64 0, .bool false, undef, v1, v2,
          .func (.func 120) #[] #[.pointer (some ⟨T + 1, 0, none⟩), .pointer (some ⟨T + 1 + 1, 0, none⟩)],
          .agg #[.string x.1.1, .int .i64 x.1.2], .agg #[.int .u64 (x.2.1 : Int), .string x.2.2], undef, undef, undef, undef, undef, undef, undef, undef, undef, undef, undef, undef, undef], defers := [] })
      ?_ ?_ ?_ ?_ ?_
    · rintro x a' s X Y row ⟨Bx, By, ⟨h4, h5⟩, h6⟩ hg hr
      exact ⟨Bx, By, ⟨cells_kept h4 hg hr, cells_kept h5 hg hr⟩, h6⟩
    · rintro l pre ⟨⟨s, kd⟩, ⟨nm, tx⟩⟩ W K ⟨⟨v, hv, hO⟩, hB, hZs⟩ hx hK
      unfold encCC
      dsimp only
      gi_wp2
      obtain ⟨N0, N1, N2, N3⟩ := new2 W (.cells #[.string s, .int .i64 kd] 110) (.cells #[.int .u64 (nm : Int), .string tx] 71)
      exact hK _ _ (keepsFrom_below N3) (only_below N3) ⟨⟨v, boxed_below hv N3, hO.later N3 (Nat.le_refl _)⟩, hB.trans (N3.mono hB.size), Nat.le_trans hZs N3.size⟩ ⟨_, _, ⟨N1, N2⟩, rfl⟩
    · rintro l pre ⟨⟨s, kd⟩, ⟨nm, tx⟩⟩ a' W ⟨⟨v, hv, hO⟩, hB, hZs⟩ ⟨Bx, By, ⟨hx1, hx2⟩, rfl⟩ hlt hx
      have hce := hE _ (List.of_mem_zip hx).2
      have he : chk ((s, kd), (nm, tx)) = 0 := HP.out _ hx
      have TK := Lib.hid (cell_TextR kd nm hce.1 tx tx.data.toList W (CES.rdS hce) (HT.out.later hB) he)
      have e1 := new_cellC hx1 (i := 1) rfl
      have e2 := new_cellC hx2 (i := 0) rfl
      have e3 := new_cellC hx2 (i := 1) rfl
      have HV := Lib.hid hv
      have HO := Lib.hid hO
      have HB := Lib.hid hB
      have hWs : T < W.heap.size := hv.lt
      have hd : 1 ≤ 5 - 1 - 1 := by omega
      clear hv hO hB hx1 hx2 hce he hx
      gi_wp2_with fail
      refine ⟨trivial, ?_⟩
      gi_at_call 53
      refine (CallsIn.inRound l (callsIn_wide.2 TK.out)).mono ?_
      rintro e w5 ⟨⟨tt, rfl, ht⟩, hb⟩
      have HB5 := Lib.hid hb
      have hv5 := boxed_below HV.out hb
      have hc5 := hv5.cell
      have HV5 := Lib.hid hv5
      have HO5 := Lib.hid (HO.out.later hb (Nat.le_refl _))
      have HT5 := Lib.hid ht
      have hpl : (strL (pre.map txP)).length = pre.length := by simp [strL]
      have hn6 : ((strL (pre.map txP)).length + 1) * 16 ≤ 140737488355328 := by rw [hpl]; omega
      have HOA := Lib.hid (show OwnT (w5.alloc (.cells #[.string tt] 9)) Z v (strL (pre.map txP)) from HO5.out.alloc _)
      have hws5 : W.heap.size ≤ w5.heap.size := hb.size
      have hZW : Z ≤ (w5.alloc (.cells #[.string tt] 9)).heap.size := by simp; omega
      clear hb ht hv5 e1 e2 e3 TK HV HO hpl
      gi_wp2_with (with_reducible refine wplT_appendIn Z v ?hs HOA.out ⟨w5.heap.size, 0, none⟩ tt ?hx (one_str w5 tt) hn6 hZW ?_)
      all_goals (try rfl)
      intro v6 w6 hO6 hsh hg6
      obtain ⟨g6, c6, rfl⟩ := hsh
      obtain ⟨a1, a2, a3, a4, a5⟩ := appended (E := strE) (S := Mine w.heap.size (T + 1) (T + 1 + 1)) HV5.out (by decide) HO5.out hO6 hg6 (fun j hj => ⟨by omega, by omega, by omega⟩) ⟨by omega, by omega, by omega⟩
      have c1 := a1.cell
      have f1 := a1.frozen
      have A2 := Lib.hid a2
      have A3 := Lib.hid a3
      have A4 := Lib.hid a4
      have A5 := Lib.hid a5
      clear a1 a2 a3 a4 a5 hO6 hg6 hc5
      gi_wp2
      refine ⟨(keepsFrom_below HB5.out).trans (A4.out.from _), (only_below HB5.out).trans A5.out, ⟨_, A2.out, ?_⟩, (HB.out.trans (HB5.out.mono HB.out.size)).trans (mine_below A5.out (by have := HB.out.size; omega)), Nat.le_trans hZs (Nat.le_trans hws5 A5.out.size)⟩
      have hss : strL ((pre ++ [((s, kd), (nm, tx))]).map txP) = strL (pre.map txP) ++ [tt] := by
        unfold strL
        rw [List.map_append, List.map_append, HT5.out.eq]
        rfl
      rw [hss]
      exact A3.out
    · rintro D W hD ⟨⟨v, hv, hO⟩, hB, _⟩ hK
      have hc := hv.cell
      have hpl : (strL ((cs.zip rs).map txP)).length = cs.length := by simp [strL]; omega
      have hdat : (strL ((cs.zip rs).map txP)).map (·.data.toList) = (cs.zip rs).map txP := strL_data _
      have hj := lib_Join v (strL ((cs.zip rs).map txP)) W (OwnT.rd hO (by rw [hpl]; omega)) (by rw [hpl]; omega) (by rw [hdat]; have := HSM.out; unfold textR at this; omega)
      rw [hdat] at hj
      obtain ⟨tt, htt⟩ : ∃ tt : ByteArray, tt = ⟨(Lib.join ((cs.zip rs).map txP) [44]).toArray⟩ := ⟨_, rfl⟩
      rw [← htt] at hj
      have HJ := Lib.hid hj
      have HTT := Lib.hid htt
      have HB := Lib.hid hB
      have HD := Lib.hid hK
      clear hv hO hj htt hB hK hdat hpl
      gi_wp2_with fail
      refine ⟨trivial, ?_⟩
      gi_at_call 56
      refine (callsIn_wide.2 HJ.out).mono ?_
      rintro e w5 ⟨rfl, hb⟩
      have HB5 := Lib.hid hb
      have hK5 : w5.heap[D]? = some (.deferred (some [])) := (hb.block D (Array.getElem?_eq_some_iff.1 HD.out).1).trans HD.out
      have HD5 := Lib.hid hK5
      clear hb hK5 hc
      gi_wp2
      refine ⟨by simp, .inl ⟨_, _, rfl, run_takeDeferred HD5.out, ?_⟩⟩
      refine ⟨.tuple #[.string tt, .int .i64 0], by simp [results, Tryz.results55, go_sem], tt, by rw [HX.out]; rfl, ?_, .inr ⟨HX.out, ?_⟩⟩
      · exact (HB.out.trans (HB5.out.mono HB.out.size)).trans (belowK_b (w := w) (Nat.le_refl _) _ D _ _ (by omega) HD5.out rfl rfl)
      · refine ⟨HTT.out, ?_⟩
        have := HSM.out; omega
    · rintro D c k W _ _ h _
      exact h.elim
  · have hne : errRow cs rs ≠ 0 := by omega
    have HX := Lib.hid (show errRow cs rs = x from hx.symm)
    have q : ((x : Int) != 0) = true := by rw [bne_iff_ne]; omega
    have HN := Lib.hid hne
    clear hx hne
    go_enter Tryz.func55, Tryz.ntmps55
    go_wp2_with fail
    refine CA.out.mono ?_
    rintro e w1 ⟨rfl, hb⟩
    have HB1 := Lib.hid hb
    clear hb
    go_wp2
    go_ret2
    exact ⟨_, by rw [HX.out]; rfl, HB1.out, .inl ⟨HN.out, rfl⟩⟩

end Go.Proofs.YtfpidkcdgebnpaaGreatDoor


/-
  row.Read.
-/
namespace Go.Proofs.YtfpidkcdgebnpaaGreatDoor
open Go.RowKit Go.Shelf

attribute [local go_sem] Oper.semAt_some

/-- The library's number that its searches look at. -/
def Mx (w : World) : Prop := ∃ m, w.cell? ⟨Tryz.laysSplitN_ren.g 1, 0, none⟩ = some (.int .i64 m)
theorem Mx.later {w w' : World} (h : Mx w) (hb : Below w.heap.size w w') : Mx w' := by
  obtain ⟨m, hm⟩ := h
  exact ⟨m, (hb.cell (p := ⟨_, 0, none⟩) (World.block_lt_of_cell? w _ hm)).trans hm⟩

theorem rdT_prefix {w : World} {b : Nat} {ss : List ByteArray} {z : Nat × Nat} {cap : Nat} (h : w.heap[b]? = some (.cells (Lib.cellsOf ss cap) 9 z)) (hs : ss.length ≤ 140737488351232) (hc : ss.length ≤ cap) : RdT w (.slice (some ⟨b, 0, none⟩) ss.length cap) ss := by
  refine ⟨⟨_, _, by rw [List.length_map], by rw [List.length_map]; omega, (by intro h; cases h), fun _ => ⟨_, _, rfl⟩⟩, fun i hi j u hu => ?_, fun x hx => ?_, by rw [List.length_map]; exact hs⟩
  · rw [List.length_map] at hi
    rw [getD_map strV ss i hi default] at hu
    obtain rfl : j = 0 := by
      have := (List.getElem?_eq_some_iff.1 hu).1
      simpa [strV] using this
    have hu : Value.string (ss.getD i default) = u := by simpa [strV] using hu
    rw [adr_lit, cell_of_row _ _ _ _ _ z h]
    show (Lib.cellsOf ss cap)[0 + (i * 1 + 0)]? = some u
    rw [show 0 + (i * 1 + 0) = i from by omega, ← hu]
    unfold Lib.cellsOf
    rw [List.getElem?_toArray, List.getElem?_append_left (by simpa using hi), List.getElem?_map, List.getElem?_eq_getElem hi]
    simp [List.getD, hi]
  · obtain ⟨c, _, rfl⟩ := List.mem_map.1 hx
    rfl
theorem strL_of (ss : List ByteArray) : strL (ss.map (·.data.toList)) = ss := by
  unfold strL
  rw [List.map_map]
  have : ((fun l : List UInt8 => (⟨l.toArray⟩ : ByteArray)) ∘ fun x : ByteArray => x.data.toList) = id := by funext s; cases s; rfl
  rw [this, List.map_id]

theorem lib_SplitN (s : ByteArray) (l : List UInt8) (n : Nat) (w : World) (h : RdS s l) (hl : l.length ≤ 100000) (hn : 1 ≤ n) (hn9 : n ≤ 100) (hX : Mx w) :
    Calls Tryz.prog 126 #[.string s, .string ⟨#[44]⟩, .int .i64 ((n + 1 : Nat) : Int)] w fun e w' => ∃ pv ss, e = .returned pv ∧ RdT w' pv ss ∧ ((cutL 44 l).length = n → ss = strL (cutL 44 l)) ∧ ((cutL 44 l).length ≠ n → ss.length ≠ n) ∧ Below w.heap.size w w' := by
  obtain ⟨m, hm⟩ := hX
  have hd : s.data.toList = l := by rw [h.eq]
  have hz : s.size = l.length := by rw [h.eq]; simp [ByteArray.size]
  have c : Calls Tryz.prog 126 #[.string s, .string ⟨#[44]⟩, .int .i64 ((n + 1 : Nat) : Int)] w _ := Any.strings_SplitN Tryz.laysSplitN (by kernel_rfl) s ⟨#[44]⟩ (n + 1) m w (by omega) hm (by decide) (by omega) (by omega)
  refine c.mono ?_
  rintro e w' ⟨rfl, rfl⟩
  obtain ⟨K, hK⟩ : ∃ K, K = min (n + 1) (s.size + 1) := ⟨_, rfl⟩
  rw [← hK]
  have hdat : (Lib.splitB ⟨#[44]⟩ 0 (K - 1) s).map (·.data.toList) = Lib.splitK [44] 0 (K - 1) l := by rw [Lib.splitB_data, hd]
  have hlen := congrArg List.length hdat
  rw [List.length_map, splitK_len] at hlen
  have hcnt := cutL_count 44 l
  have hcl : l.count 44 ≤ l.length := List.count_le_length
  have hb := heap_alloc_new w (.cells (Lib.cellsOf (Lib.splitB ⟨#[44]⟩ 0 (K - 1) s) K) 9)
  refine ⟨_, Lib.splitB ⟨#[44]⟩ 0 (K - 1) s, rfl, rdT_prefix hb (by omega) (by omega), fun he => ?_, fun hne => by omega, (Below.refl _ _).alloc (Nat.le_refl _) _⟩
  have := splitK_more 44 l (K - 1) (by omega)
  rw [this] at hdat
  rw [← hdat, strL_of]

/-- 'append(s, a cell)' in a round. -/
theorem wplE_appendIn {F : Fence} {n : Nat} {w : World} {cs : List CellB} {ops : Array Oper} {Q : Exit → Act → World → Prop} {rest : List Oper} {a : Act} {dst : Option Tmp} {ty : TypeId} {pos : String} {aft : Array Edge} {s x : Operand}
    (base : Nat) (sv : Value) (hs : a.eval s = sv) (ho : OwnE w base sv cs) (ad : Addr) (c : CellB) (hx : a.eval x = .slice (some ad) 1 1)
    (hc : ∀ j z, (cellVs c)[j]? = some z → w.cell? (ad.add j) = some z) (hn : (cs.length + 1) * 24 ≤ 140737488355328) (hbase : base ≤ w.heap.size)
    (h : ∀ v' w', OwnE w' base v' (cs ++ [c]) → (∃ g cap, v' = .slice (some ⟨g, 0, none⟩) (cs.length + 1) cap) → w.grownBy w' sv.ownBlock → wpListIn F n Tryz.prog ops Q rest (a.put dst v') w') :
    wpListIn F n Tryz.prog ops Q (⟨dst, .call ⟨.builtin .append, #[s, x], #[36, 36]⟩, ty, pos, aft, none⟩ :: rest) a w :=
  wplG_appendIn (E := cellE) (vs := cs.map cellVs) cellOk base sv hs ho ad (cellVs c) hx rfl (by intro z hz; simp [cellVs] at hz; rcases hz with rfl | rfl <;> rfl) hc (by rw [List.length_map]; exact hn) (by rw [List.length_map]; omega) hbase
    (fun v' w' h1 h2 h3 => h v' w' (by unfold OwnE; rw [List.map_append]; exact h1) (by rw [List.length_map] at h2; exact h2) h3)
theorem OwnG.putObj {E : Elt} {W : World} {base : Nat} {v : Value} {vs : List (List Value)} (h : OwnG E W base v vs) {l : Nat} {o : Obj} (o' : Obj) (hl : W.heap[l]? = some o) (ho : o.isCells = false) : OwnG E (W.putObj l o') base v vs := ⟨ownsRow_putObj h.1 o' hl ho, h.2⟩
theorem OwnG.aside {E : Elt} {W : World} {base : Nat} {v : Value} {vs : List (List Value)} (h : OwnG E W base v vs) {b : Nat} (hb : b < base) (u : Value) : OwnG E (W.setCell ⟨b, 0, none⟩ u) base v vs :=
  h.grown (grownBy_setCell' W b u) (fun k hk e => by have := (h.lt hk).1; injection e with e; omega)

/-- What row.Read answers. -/
def RdRow (w : World) (cs : List ColB) (l : List UInt8) (e : Ending) (w' : World) : Prop :=
  ∃ tv, e = .returned (.tuple #[tv, .int .i64 (rowE cs l : Nat)]) ∧ Below w.heap.size w w' ∧ RdE w' tv (rowC cs l)

/-- The row's cells lie in no block that was there. -/
def FarR (w : World) (tv : Value) (n : Nat) : Prop := ∀ g, g < w.heap.size → ∀ i, i < n → (adr tv (i * 2)).block ≠ g
theorem farR_nil (w : World) (tv : Value) : FarR w tv 0 := fun _ _ i hi => by omega
theorem OwnE.far {w w' : World} {base : Nat} {v : Value} {cs : List CellB} (h : OwnE w' base v cs) (hb : w.heap.size ≤ base) : FarR w v cs.length := fun g hg i hi => by
  obtain ⟨⟨_, h2⟩, _⟩ := h
  rw [List.length_map] at h2
  rcases h2 with ⟨rfl, hn⟩ | ⟨g', cap, cur, rfl, hbg, _⟩
  · omega
  · have : (adr (.slice (some ⟨g', 0, none⟩) cs.length cap) (i * 2)).block = g' := by rw [adr_lit]
    omega
/-- As RdRow, and where the row lies. -/
def RdRowF (w : World) (cs : List ColB) (l : List UInt8) (e : Ending) (w' : World) : Prop :=
  ∃ tv, e = .returned (.tuple #[tv, .int .i64 (rowE cs l : Nat)]) ∧ Below w.heap.size w w' ∧ RdE w' tv (rowC cs l) ∧ FarR w tv (rowC cs l).length

set_option maxHeartbeats 8000000 in
theorem row_ReadF (v1 : Value) (t : ByteArray) (cs : List ColB) (l : List UInt8) (w : World) (h1 : RdC w v1 cs) (ht : RdS t l) (hC : CS cs) (hl : l.length ≤ 100000) (hL : Lib4 w) (hX : Mx w) :
    Calls Tryz.prog 86 #[v1, .string t] w (RdRowF w cs l) := by
  have hl1 := h1.len
  have R1 := Lib.hid (fun wz (hz : Below w.heap.size w wz) => h1.later hz (Nat.le_refl _))
  have HT := Lib.hid hL
  have HXX := Lib.hid hX
  obtain ⟨x, hx⟩ : ∃ x, x = errS (colsL cs) := ⟨_, rfl⟩
  have N0 := Lib.hid (new2 w (.cells #[.slice none 0 0] 36) (.cells #[.int .i64 0] 26))
  have SC := Lib.hid (fun wz (hz : Below w.heap.size w wz) => (show Calls Tryz.prog 46 #[v1] wz fun e w' => e = .returned (.int .i64 (x : Int)) ∧ Below wz.heap.size wz w' from by
    rw [hx]; exact schema_Check v1 cs wz (R1.out wz hz) hC (HT.out.l3.tabs.later hz)))
  obtain ⟨n, hn⟩ : ∃ n, n = cs.length := ⟨_, rfl⟩
  rw [← hn] at hl1
  have HN := Lib.hid hn
  clear h1 hL hX hn
  by_cases h0 : x = 0
  · have hz8 := errS_zero (show errS (colsL cs) = 0 from by omega)
    rw [colsL_length, ← HN.out] at hz8
    obtain ⟨hn0, hn8, _, _⟩ := hz8
    have SN := Lib.hid (fun wz (hz : Below w.heap.size w wz) => (show Calls Tryz.prog 126 #[.string t, .string ⟨#[44]⟩, .int .i64 ((n : Int) + 1)] wz fun e w' => ∃ pv ss, e = .returned pv ∧ RdT w' pv ss ∧ ((cutL 44 l).length = n → ss = strL (cutL 44 l)) ∧ ((cutL 44 l).length ≠ n → ss.length ≠ n) ∧ Below wz.heap.size wz w' from by
      rw [show (n : Int) + 1 = ((n + 1 : Nat) : Int) from by omega]
      exact lib_SplitN t l n wz ht hl (by omega) (by omega) (HXX.out.later hz)))
    subst h0
    rw [show ((0 : Nat) : Int) = 0 from rfl] at SC
    by_cases hcut : (cutL 44 l).length = n
    · have HC := Lib.hid hcut
      have HE := Lib.hid (show rowE cs l = errQ (partsQ cs l) from by unfold rowE; rw [if_neg (by omega), if_neg (by rw [hcut, HN.out]; simp)])
      clear hx hcut
      refine (callsIn_wide (n := 5)).1 ?_
      refine callsIn_of_wp_marks Tryz.func86 rfl trivial ?_ rfl
      simp only [Tryz.ntmps86, List.size_toArray, List.length_cons, List.length_nil, Nat.reduceAdd, Nat.reduceSub, Array.replicate_succ, Array.replicate_zero, List.push_toArray, List.append_toArray, List.nil_append, List.cons_append]
      gi_wp2_with fail
      refine ⟨trivial, ?_⟩
      gi_at_call 46
      refine (callsIn_wide.2 (SC.out _ N0.out.2.2.2)).mono ?_
      rintro e w1 ⟨rfl, hb⟩
      have B1 := Lib.hid (N0.out.2.2.2.trans (hb.mono N0.out.2.2.2.size))
      have X1 := Lib.hid (show Boxed w1 w.heap.size 36 (.slice none 0 0) from boxed_below N0.out.2.1 hb)
      have X2 := Lib.hid (show Boxed w1 (w.heap.size + 1) 26 (.int .i64 0) from boxed_below N0.out.2.2.1 hb)
      have SN1 := Lib.hid (SN.out _ B1.out)
      clear hb N0 SC SN
      gi_wp2_with fail
      refine ⟨trivial, ?_⟩
      gi_at_call 126
      refine (callsIn_wide.2 SN1.out).mono ?_
      rintro e w2 ⟨pv, ss, rfl, hss, hse, _, hb⟩
      obtain rfl := hse HC.out
      have B2 := Lib.hid (B1.out.trans (hb.mono B1.out.size))
      have Y1 := Lib.hid (boxed_below X1.out hb)
      have Y2 := Lib.hid (boxed_below X2.out hb)
      have hlp := hss.len
      rw [show (strL (cutL 44 l)).length = n from by rw [strL_length, HC.out]] at hlp
      have HS := Lib.hid hss
      have N1 := new1 w2 (.cells #[.slice none 0 0] 36)
      have hB3 : Below w.heap.size w (w2.alloc (.cells #[.slice none 0 0] 36)) := B2.out.trans (N1.2.2.mono B2.out.size)
      have Y3 : Boxed (w2.alloc (.cells #[.slice none 0 0] 36)) w2.heap.size 36 (.slice none 0 0) := N1.2.1
      have Z1 := boxed_below Y1.out N1.2.2
      have Z2 := boxed_below Y2.out N1.2.2
      have Z3 := hss.later N1.2.2 (Nat.le_refl _)
      have hw2s : w.heap.size + 1 < w2.heap.size := Y2.out.lt
      have HSZ3 := Lib.hid N1.1
      have HBW := Lib.hid N1.2.2
      have MKz := Lib.hid (bothCS_make v1 pv cs (strL (cutL 44 l)) _ (R1.out _ hB3) Z3)
      clear hb N1 hss hse SN1 X1 X2 Y1 Y2
      gi_wp2_with fail
      refine ⟨trivial, ?_⟩
      gi_at_call 127
      generalize w2.alloc (.cells #[.slice none 0 0] 36) = w3 at MKz hB3 Y3 HSZ3 Z1 Z2 Z3 HBW ⊢
      refine (callsIn_wide.2 MKz.out).mono ?_
      rintro e w4 ⟨rfl, rfl⟩
      gi_wp2
      obtain ⟨W0, hW0⟩ : ∃ W0, (w3.alloc (.cells #[v1] 22)).alloc (.cells #[pv] 91) = W0 := ⟨_, rfl⟩
      obtain ⟨M0, M1, M2, M3⟩ := new2 w3 (.cells #[v1] 22) (.cells #[pv] 91)
      rw [hW0] at M0 M1 M2 M3 ⊢
      clear hW0
      have bt := Lib.hid (boxed_below Y3 M3)
      have b4 := Lib.hid (boxed_below Z1 M3)
      have b5 := Lib.hid (boxed_below Z2 M3)
      have hB0 : Below w.heap.size w W0 := hB3.trans (M3.mono hB3.size)
      have hb1 : Boxed W0 w3.heap.size 22 v1 := M1
      have hb2 : Boxed W0 (w3.heap.size + 1) 91 pv := M2
      have hsz3 := HSZ3.out
      have HB2w := Lib.hid (show Below w2.heap.size w2 W0 from HBW.out.trans (M3.mono (by omega)))
      rw [hsz3] at M0 hb1 hb2 ⊢
      clear HSZ3 hsz3 M1 M2 M3 Y3 Z1 Z2 Z3 MKz hB3 HBW
      have hlz : cs.length = (strL (cutL 44 l)).length := by rw [strL_length, HC.out, HN.out]
      have hzl : (partsQ cs l).length = n := by unfold partsQ; rw [List.length_zip, ← hlz, HN.out]; omega
      obtain ⟨Z, hZ⟩ : ∃ Z, Z = W0.heap.size := ⟨_, rfl⟩
      have hZT : Z = w2.heap.size + 3 := by omega
      have HZT := Lib.hid hZT
      have hZ1 : w2.heap.size + 1 + 1 < Z := by omega
      have HZW := Lib.hid (show Z ≤ W0.heap.size from by omega)
      have hW0s : W0.heap.size = w2.heap.size + 3 := by omega
      clear hZ hZT M0
      refine range_through (by omega) (gf := 163) (lb := #[.pointer (some ⟨w2.heap.size + 1, 0, none⟩), .pointer (some ⟨w2.heap.size + 1 + 1, 0, none⟩)]) rfl (enters_of Tryz.func163 (by kernel_rfl) rfl)
        (bothCS_through (5 - 1) (by omega) (w2.heap.size + 1) (w2.heap.size + 1 + 1) v1 pv cs (strL (cutL 44 l)) hlz w2 (fun W hW => R1.out W (B2.out.trans (hW.mono B2.out.size))) (fun W hW => HS.out.later hW (Nat.le_refl _)) W0 HB2w.out hb1.cell hb2.cell) only_t (only_b (by omega) (by omega) (by omega)) (fun _ => rfl)
        (fun pre W => (∃ v, Boxed W w2.heap.size 36 v ∧ OwnG cellE W Z v ((cellsQ pre).map cellVs)) ∧ ((Boxed W w.heap.size 36 (.slice none 0 0) ∧ Boxed W (w.heap.size + 1) 26 (.int .i64 0)) ∧ (Below w2.heap.size w2 W ∧ Z ≤ W.heap.size)) ∧ errQ pre = 0)
        (fun c pre W => ((Boxed W w.heap.size 36 (.slice none 0 0) ∧ Boxed W (w.heap.size + 1) 26 (.int .i64 (errQ pre : Nat))) ∧ Below w.heap.size w W) ∧ (c = .ret ∧ errQ pre ≠ 0))
        (OwnFrom.and (Own.from (holdsG_own Z w2.heap.size 36 _) _) (OwnFrom.and (OwnFrom.and (OwnFrom.and (Own.from (boxed_own _ _ _) _) (Own.from (boxed_own _ _ _) _)) (OwnFrom.and (ownFrom_below (Nat.le_refl _) (by omega)) (fun _ _ _ _ hs hg _ => Nat.le_trans hs hg.size))) (ownFrom_pure _ _)))
        (fun c => OwnFrom.and (OwnFrom.and (OwnFrom.and (Own.from (boxed_own _ _ _) _) (Own.from (boxed_own _ _ _) _)) (ownFrom_below (Nat.le_refl _) (by omega))) (ownFrom_pure _ _))
        ⟨⟨_, bt.out, OwnG.nil cellE W0 Z⟩, ⟨⟨b4.out, b5.out⟩, HB2w.out, HZW.out⟩, rfl⟩
        (fun (x : QP) a' W => ∃ Bx, W.heap[Bx]? = some (Obj.cells #[.string x.1.1, .int .i64 x.1.2] 110 (0, 0)) ∧
          a' = { tmps := #[v1, .string t, undef, undef, .pointer (some ⟨w.heap.size, 0, none⟩), .pointer (some ⟨w.heap.size + 1, 0, none⟩), .int .i64 0, pv, .pointer (some ⟨w2.heap.size, 0, none⟩), .pointer (some ⟨Bx, 0, none⟩), .string x.2, undef, undef, v1,
            .int .i64 0, .int .i64 0, .bool false, undef, .string t, v1, .int .i64 n, .int .i64 ((n : Int) + 1), pv, pv, .int .i64 n, v1, .int .i64 n, .bool false, v1, pv,
            .func (.func 163) #[] #[.pointer (some ⟨w2.heap.size + 1, 0, none⟩), .pointer (some ⟨w2.heap.size + 1 + 1, 0, none⟩)],
            .agg #[.string x.1.1, .int .i64 x.1.2], .string x.2, undef, undef, undef, undef, undef, undef, undef, undef, undef, undef, undef, undef, undef, undef, undef], defers := [] })
        ?_ ?_ ?_ ?_ ?_
      · rintro x a' s X Y row ⟨Bx, h4, h6⟩ hg hr
        exact ⟨Bx, cells_kept h4 hg hr, h6⟩
      · rintro l' pre ⟨⟨s, kd⟩, tx⟩ W K ⟨⟨v, hv, hO⟩, ⟨⟨hA4, hA5⟩, hB, hZs⟩, hp⟩ hx hK
        unfold encCS
        dsimp only
        gi_wp2
        obtain ⟨N0, N1, N2⟩ := new1 W (.cells #[.string s, .int .i64 kd] 110)
        exact hK _ _ (keepsFrom_below N2) (only_below N2) ⟨⟨v, boxed_below hv N2, hO.later N2 (Nat.le_refl _)⟩, ⟨⟨boxed_below hA4 N2, boxed_below hA5 N2⟩, hB.trans (N2.mono hB.size), Nat.le_trans hZs N2.size⟩, hp⟩ ⟨_, N1, rfl⟩
      · rintro l' pre ⟨⟨s, kd⟩, tx⟩ a' W ⟨⟨v, hv, hO⟩, ⟨⟨hA4, hA5⟩, hB, hZs⟩, hp⟩ ⟨Bx, hx1, rfl⟩ hlt hx
        have hBw : Below w.heap.size w W := B2.out.trans (hB.mono B2.out.size)
        have hsx : RdS tx tx.data.toList := by
          have hmem := (List.of_mem_zip hx).2
          unfold strL at hmem
          obtain ⟨p, hp9, rfl⟩ := List.mem_map.1 hmem
          exact ⟨rfl, by have := cutL_part 44 l p hp9; simp; omega⟩
        obtain ⟨c, hc⟩ : ∃ c, c = cellO (rdo ((s, kd), tx)) := ⟨_, rfl⟩
        obtain ⟨k, hk⟩ : ∃ k, k = codeO (rdo ((s, kd), tx)) := ⟨_, rfl⟩
        have CR := Lib.hid (show Calls Tryz.prog 85 #[.int .i64 kd, .string tx] W fun e w' => e = .returned (.tuple #[.agg #[.int .u64 (c.1 : Int), .string c.2], .int .i64 (k : Int)]) ∧ Below W.heap.size W w' from by
          refine (cell_Read kd tx tx.data.toList W hsx (HT.out.later hBw)).mono ?_
          rintro e w' ⟨he, hb⟩
          exact ⟨by rw [rdVal_of he, rdVal_co, hc, hk]; rfl, hb⟩)
        have HEQ := Lib.hid (show errQ (pre ++ [((s, kd), tx)]) = k from by rw [errQ_snoc _ _ hp, hk])
        have HCQ := Lib.hid (show cellsQ (pre ++ [((s, kd), tx)]) = cellsQ pre ++ [c] from by unfold cellsQ; rw [List.map_append, hc]; rfl)
        rcases c with ⟨cn, ct⟩
        have e1 := new_cellC hx1 (i := 1) rfl
        have HV := Lib.hid hv
        have HO := Lib.hid hO
        have HB := Lib.hid hB
        have HBw := Lib.hid hBw
        have HA4 := Lib.hid hA4
        have HA5 := Lib.hid hA5
        have hWs : w2.heap.size < W.heap.size := hv.lt
        have hd : 1 ≤ 5 - 1 - 1 := by omega
        have hlt' : pre.length < n := by rw [← hzl]; exact hlt
        clear hv hO hB hBw hA4 hA5 hx1 hsx hc hk hx hp hlt
        by_cases h0 : k = 0
        · subst h0
          rw [show ((0 : Nat) : Int) = 0 from rfl] at CR
          gi_wp2_with fail
          refine ⟨trivial, ?_⟩
          gi_at_call 85
          refine (CallsIn.inRound l' (callsIn_wide.2 CR.out)).mono ?_
          rintro e w5 ⟨rfl, hb⟩
          obtain ⟨N0, N1, N2⟩ := new1 w5 (.cells #[.int .u64 (cn : Int), .string ct] 71)
          have HB5 := Lib.hid (show Below W.heap.size W (w5.alloc (.cells #[.int .u64 (cn : Int), .string ct] 71)) from hb.trans (N2.mono hb.size))
          have hone := one_cellv (w5.alloc (.cells #[.int .u64 (cn : Int), .string ct] 71)) (cn, ct)
          have g1 := new_cellC N1 (i := 0) rfl
          have g2 := new_cellC N1 (i := 1) rfl
          have hws5 : W.heap.size ≤ w5.heap.size := hb.size
          rw [World.size_alloc] at hone
          dsimp only at hone
          have HONE := Lib.hid hone
          have HN0 := Lib.hid N0
          have hv5 : Boxed (w5.alloc (.cells #[.int .u64 (cn : Int), .string ct] 71)) w2.heap.size 36 v := boxed_below HV.out HB5.out
          have hc5 := hv5.cell
          have HV5 := Lib.hid hv5
          have HO5 := Lib.hid (HO.out.later HB5.out (Nat.le_refl _))
          have hpl : (cellsQ pre).length = pre.length := by simp [cellsQ]
          have hn6 : ((cellsQ pre).length + 1) * 24 ≤ 140737488355328 := by rw [hpl]; omega
          have HOA := Lib.hid (show OwnE ((w5.alloc (.cells #[.int .u64 (cn : Int), .string ct] 71)).alloc (.cells #[.int .u64 (cn : Int), .string ct] 71)) Z v (cellsQ pre) from HO5.out.alloc _)
          have hZW : Z ≤ ((w5.alloc (.cells #[.int .u64 (cn : Int), .string ct] 71)).alloc (.cells #[.int .u64 (cn : Int), .string ct] 71)).heap.size := by simp; omega
          clear hb hone N0 N1 N2 hv5 e1 CR HV HO hpl
          gi_wp2_with (with_reducible refine wplE_appendIn Z v ?hs HOA.out ⟨w5.heap.size + 1, 0, none⟩ (cn, ct) ?hx HONE.out hn6 hZW ?_)
          all_goals (try rfl)
          intro v6 w6 hO6 hsh hg6
          obtain ⟨g6, c6, rfl⟩ := hsh
          obtain ⟨a1, a2, a3, a4, a5⟩ := appended (E := cellE) (S := Mine w2.heap.size (w2.heap.size + 1) (w2.heap.size + 1 + 1)) HV5.out (by decide) HO5.out hO6 hg6 (fun j hj => ⟨by omega, by omega, by omega⟩) ⟨by omega, by omega, by omega⟩
          have c1 := a1.cell
          have f1 := a1.frozen
          have A2 := Lib.hid a2
          have A3 := Lib.hid a3
          have A4 := Lib.hid a4
          have A5 := Lib.hid a5
          have B5 := Lib.hid (mine_below a5 (by have := HB5.out.size; omega))
          have Q4 := Lib.hid (boxed_below HA4.out HB5.out)
          have Q5 := Lib.hid (boxed_below HA5.out HB5.out)
          clear a1 a2 a3 a4 a5 hO6 hg6 hc5 g1 g2
          gi_wp2
          refine ⟨(keepsFrom_below HB5.out).trans (A4.out.from _), (only_below HB5.out).trans A5.out, ⟨⟨_, A2.out, ?_⟩, ⟨⟨?_, ?_⟩, ?_, ?_⟩, HEQ.out⟩⟩
          · rw [HCQ.out]
            exact A3.out
          · exact (B5.out.block _ (by omega)).trans Q4.out
          · exact (B5.out.block _ (by omega)).trans Q5.out
          · exact (HB.out.trans (HB5.out.mono HB.out.size)).trans B5.out
          · exact Nat.le_trans hZs (Nat.le_trans HB5.out.size A5.out.size)
        · have q : ((k : Int) != 0) = true := by rw [bne_iff_ne]; omega
          gi_wp2_with fail
          refine ⟨trivial, ?_⟩
          gi_at_call 85
          refine (CallsIn.inRound l' (callsIn_wide.2 CR.out)).mono ?_
          rintro e w5 ⟨rfl, hb⟩
          obtain ⟨N0, N1, N2⟩ := new1 w5 (.cells #[.int .u64 (cn : Int), .string ct] 71)
          have HB5 := Lib.hid (show Below W.heap.size W (w5.alloc (.cells #[.int .u64 (cn : Int), .string ct] 71)) from hb.trans (N2.mono hb.size))
          have hws5 : W.heap.size ≤ w5.heap.size := hb.size
          have y1 := boxed_below HA4.out HB5.out
          have y2 := boxed_below HA5.out HB5.out
          have hc1 := y1.cell
          have hf1 := y1.frozen
          have hc2 := y2.cell
          have hf2 := y2.frozen
          have K4 := Lib.hid ((y1.set (.slice none 0 0)).other (show w.heap.size ≠ w.heap.size + 1 from by omega) (.int .i64 (k : Int)))
          have K5 := Lib.hid ((y2.other (show w.heap.size + 1 ≠ w.heap.size from by omega) (.slice none 0 0)).set (.int .i64 (k : Int)))
          clear hb N0 N1 N2 y1 y2 e1 CR HV HO
          gi_wp2
          refine ⟨(keepsFrom_below HB5.out).trans (((KeepsOthers.setCell _ _ _).trans (KeepsOthers.setCell _ _ _)).from _), ⟨⟨K4.out, ?_⟩, ?_⟩, rfl, by rw [HEQ.out]; exact h0⟩
          · rw [HEQ.out]; exact K5.out
          · exact ((HBw.out.trans (HB5.out.mono HBw.out.size)).setCell (p := ⟨w.heap.size, 0, none⟩) (Nat.le_refl _) _).setCell (p := ⟨w.heap.size + 1, 0, none⟩) (by show w.heap.size ≤ w.heap.size + 1; omega) _
      · rintro D W hD ⟨⟨v, hv, hO⟩, ⟨⟨hA4, hA5⟩, hB, hZs⟩, hp⟩ hK
        have hpl : (cellsQ (cs.zip (strL (cutL 44 l)))).length = n := by
          have : (cs.zip (strL (cutL 44 l))).length = n := hzl
          simp only [cellsQ, List.length_map]; exact this
        obtain ⟨m, hm⟩ : ∃ m, n = m + 1 := ⟨n - 1, by omega⟩
        obtain ⟨g, cap, rfl⟩ : ∃ g cap, v = .slice (some ⟨g, 0, none⟩) (m + 1) cap := by
          have h9 := hO.1
          rw [List.length_map, hpl, hm] at h9
          exact ownsRow_succ h9
        have hc8 := hv.cell
        have hc1 := hA4.cell
        have hf1 := hA4.frozen
        have hc2 := hA5.cell
        have hf2 := hA5.frozen
        have HM := Lib.hid hm
        have HP := Lib.hid hp
        have HO := Lib.hid hO
        have HK := Lib.hid hK
        have HB := Lib.hid (B2.out.trans (hB.mono B2.out.size))
        have P4 := Lib.hid hA4
        have P5 := Lib.hid hA5
        have HPL := Lib.hid hpl
        clear hv hO hA4 hA5 hB hp hpl hm hK
        gi_wp2
        obtain ⟨V, hV⟩ : ∃ V : Value, V = .slice (some ⟨g, 0, none⟩) (m + 1) cap := ⟨_, rfl⟩
        rw [← hV]
        have HO' := HO.out
        rw [← hV] at HO'
        have s1 := (P4.out.set V).other (show w.heap.size ≠ w.heap.size + 1 from by omega) (.int .i64 0)
        have s2 := (P5.out.other (show w.heap.size + 1 ≠ w.heap.size from by omega) V).set (.int .i64 0)
        have hK' := ((KeepsOthers.setCell W ⟨w.heap.size, 0, none⟩ V).trans (KeepsOthers.setCell _ ⟨w.heap.size + 1, 0, none⟩ (.int .i64 0))).same D _ HK.out rfl
        have k4 := cell_kept s1.cell (grownBy_putObj' _ D (.deferred none)) (fun r e => by cases e; exact ⟨_, hK', rfl⟩)
        have k5 := cell_kept s2.cell (grownBy_putObj' _ D (.deferred none)) (fun r e => by cases e; exact ⟨_, hK', rfl⟩)
        have hE0 : rowE cs l = 0 := by rw [HE.out]; exact HP.out
        refine ⟨by simp, .inl ⟨_, _, rfl, run_takeDeferred hK', ?_⟩⟩
        refine ⟨.tuple #[V, .int .i64 0], by simp [results, Tryz.results86, go_sem, k4, k5], V, by rw [hE0]; rfl, ?_, ?_, ?_⟩
        · exact ((HB.out.setCell (p := ⟨w.heap.size, 0, none⟩) (Nat.le_refl _) V).setCell (p := ⟨w.heap.size + 1, 0, none⟩) (by show w.heap.size ≤ w.heap.size + 1; omega) (.int .i64 0)).trans (belowK_b (w := w) (Nat.le_refl _) _ D _ _ (by omega) hK' rfl rfl)
        · have hrow : rowC cs l = cellsQ (cs.zip (strL (cutL 44 l))) := by unfold rowC; rw [if_pos hE0]; rfl
          rw [hrow]
          have h9 := OwnG.putObj (OwnG.aside (OwnG.aside HO' (show w.heap.size < Z from by omega) V) (show w.heap.size + 1 < Z from by omega) (.int .i64 0)) (.deferred none) hK' rfl
          exact OwnE.rd h9 (by rw [HPL.out]; omega)
        · have hrow : rowC cs l = cellsQ (cs.zip (strL (cutL 44 l))) := by unfold rowC; rw [if_pos hE0]; rfl
          rw [hrow]
          exact OwnE.far (base := Z) HO' (by omega)
      · rintro D c k W hD hk ⟨⟨⟨hA4, hA5⟩, hB⟩, rfl, hp⟩ hK
        gi_wp2
        have k4 := cell_kept hA4.cell (grownBy_putObj' _ D (.deferred none)) (fun r e => by cases e; exact ⟨_, hK, rfl⟩)
        have k5 := cell_kept hA5.cell (grownBy_putObj' _ D (.deferred none)) (fun r e => by cases e; exact ⟨_, hK, rfl⟩)
        have hE0 : rowE cs l = errQ ((cs.zip (strL (cutL 44 l))).take k) := by rw [HE.out]; exact errQ_take hp
        refine ⟨by simp, .inl ⟨_, _, rfl, run_takeDeferred hK, ?_⟩⟩
        refine ⟨.tuple #[.slice none 0 0, .int .i64 (errQ ((cs.zip (strL (cutL 44 l))).take k) : Nat)], by simp [results, Tryz.results86, go_sem, k4, k5], _, by rw [hE0], ?_, ?_, ?_⟩
        · exact hB.trans (belowK_b (w := w) (Nat.le_refl _) _ D _ _ (by omega) hK rfl rfl)
        · have hrow : rowC cs l = [] := by unfold rowC; rw [if_neg (by rw [hE0]; exact hp)]
          rw [hrow]; exact RdE.nil _
        · have hrow : rowC cs l = [] := by unfold rowC; rw [if_neg (by rw [hE0]; exact hp)]
          rw [hrow]; exact farR_nil _ _
    · have HE := Lib.hid (show rowE cs l = 6 from by unfold rowE; rw [if_neg (by omega), if_pos (by rw [← HN.out]; exact hcut)])
      have HR := Lib.hid (show rowC cs l = [] from by unfold rowC; rw [if_neg (by rw [HE.out]; decide)])
      have HC := Lib.hid hcut
      clear hx hcut
      go_enter Tryz.func86, Tryz.ntmps86
      go_wp2_with fail
      refine (SC.out _ N0.out.2.2.2).mono ?_
      rintro e w1 ⟨rfl, hb⟩
      have B1 := Lib.hid (N0.out.2.2.2.trans (hb.mono N0.out.2.2.2.size))
      have X1 := Lib.hid (show Boxed w1 w.heap.size 36 (.slice none 0 0) from boxed_below N0.out.2.1 hb)
      have X2 := Lib.hid (show Boxed w1 (w.heap.size + 1) 26 (.int .i64 0) from boxed_below N0.out.2.2.1 hb)
      have SN1 := Lib.hid (SN.out _ B1.out)
      clear hb N0 SC SN
      go_wp2_with fail
      refine SN1.out.mono ?_
      rintro e w2 ⟨pv, ss, rfl, hss, _, hse, hb⟩
      have B2 := Lib.hid (B1.out.trans (hb.mono B1.out.size))
      have y1 := boxed_below X1.out hb
      have y2 := boxed_below X2.out hb
      have hc1 := y1.cell
      have hf1 := y1.frozen
      have hc2 := y2.cell
      have hf2 := y2.frozen
      have hlp := hss.len
      have hne := hse HC.out
      have q1 : ((ss.length : Int) != (n : Int)) = true := by rw [bne_iff_ne]; omega
      have q2 : (ss.length != n) = true := by simpa using hne
      have k4 := ((y1.set (.slice none 0 0)).other (show w.heap.size ≠ w.heap.size + 1 from by omega) (.int .i64 6)).cell
      have k5 := ((y2.other (show w.heap.size + 1 ≠ w.heap.size from by omega) (.slice none 0 0)).set (.int .i64 6)).cell
      have K4 := Lib.hid k4
      have K5 := Lib.hid k5
      clear hb hss hse hne y1 y2 X1 X2 SN1 k4 k5
      go_wp2
      refine bodyPost_ret (v := .tuple #[.slice none 0 0, .int .i64 6]) (by simp [results, Tryz.results86, go_sem, K4.out, K5.out]) rfl ?_
      refine ⟨_, by rw [HE.out]; rfl, ?_, by rw [HR.out]; exact RdE.nil _, by rw [HR.out]; exact farR_nil _ _⟩
      exact (B2.out.setCell (p := ⟨w.heap.size, 0, none⟩) (Nat.le_refl _) _).setCell (p := ⟨w.heap.size + 1, 0, none⟩) (by show w.heap.size ≤ w.heap.size + 1; omega) _
  · have HE := Lib.hid (show rowE cs l = x from by unfold rowE; rw [if_pos (by omega), hx])
    have HR := Lib.hid (show rowC cs l = [] from by unfold rowC; rw [if_neg (by rw [HE.out]; exact h0)])
    have q : ((x : Int) != 0) = true := by rw [bne_iff_ne]; omega
    clear hx
    go_enter Tryz.func86, Tryz.ntmps86
    go_wp2_with fail
    refine (SC.out _ N0.out.2.2.2).mono ?_
    rintro e w1 ⟨rfl, hb⟩
    have B1 := Lib.hid (N0.out.2.2.2.trans (hb.mono N0.out.2.2.2.size))
    have y1 : Boxed w1 w.heap.size 36 (.slice none 0 0) := boxed_below N0.out.2.1 hb
    have y2 : Boxed w1 (w.heap.size + 1) 26 (.int .i64 0) := boxed_below N0.out.2.2.1 hb
    have hc1 := y1.cell
    have hf1 := y1.frozen
    have hc2 := y2.cell
    have hf2 := y2.frozen
    have k4 := ((y1.set (.slice none 0 0)).other (show w.heap.size ≠ w.heap.size + 1 from by omega) (.int .i64 (x : Int))).cell
    have k5 := ((y2.other (show w.heap.size + 1 ≠ w.heap.size from by omega) (.slice none 0 0)).set (.int .i64 (x : Int))).cell
    have K4 := Lib.hid k4
    have K5 := Lib.hid k5
    clear hb y1 y2 k4 k5 N0
    go_wp2
    refine bodyPost_ret (v := .tuple #[.slice none 0 0, .int .i64 (x : Int)]) (by simp [results, Tryz.results86, go_sem, K4.out, K5.out]) rfl ?_
    refine ⟨_, by rw [HE.out], ?_, by rw [HR.out]; exact RdE.nil _, by rw [HR.out]; exact farR_nil _ _⟩
    exact (B1.out.setCell (p := ⟨w.heap.size, 0, none⟩) (Nat.le_refl _) _).setCell (p := ⟨w.heap.size + 1, 0, none⟩) (by show w.heap.size ≤ w.heap.size + 1; omega) _

theorem row_Read (v1 : Value) (t : ByteArray) (cs : List ColB) (l : List UInt8) (w : World) (h1 : RdC w v1 cs) (ht : RdS t l) (hC : CS cs) (hl : l.length ≤ 100000) (hL : Lib4 w) (hX : Mx w) :
    Calls Tryz.prog 86 #[v1, .string t] w (RdRow w cs l) :=
  (row_ReadF v1 t cs l w h1 ht hC hl hL hX).mono fun e w' ⟨tv, a, b, c, _⟩ => ⟨tv, a, b, c⟩

end Go.Proofs.YtfpidkcdgebnpaaGreatDoor


/-
  What CellBack's and CellTexts's frames want of the library's tables and sentinels, as the row lists them.
-/
namespace Go.Proofs.YtfpidkcdgebnpaaGreatDoor
open Go.ChangeShapes Go.WideShapes Go.ChangeAt Go.RowKit Go.Shelf

theorem tab_of_reads {W : World} {name : String} {k : IntKind} {zs : List Int} {g : Nat} {t e : TypeId} {n : Nat}
    (hg : Tryz.prog.globalNamed name = some g) (hty : (Tryz.prog.globals[g]?).map (·.type) = some t) (ht : Tryz.prog.underlying t = some (.array n e)) (he : Tryz.prog.underlying e = some (.int k)) (hce : Tryz.prog.cellsOf e = 1) (hct : Tryz.prog.cellsOf t = n)
    (h : Lib.VarReads Tryz.prog W name (Lib.tabData k zs)) : Lib.TabIs Tryz.prog W name k zs := by
  obtain ⟨g', t', cs, fuel, p, hg', ht', hvar, hd⟩ := h
  obtain rfl := Option.some.inj (hg.symm.trans hg')
  obtain rfl := Option.some.inj (hty.symm.trans ht')
  unfold Lib.TabIs
  rw [hvar, ← Lib.cells_of_tab ht he hce hct hd]

theorem iface_of_reads {W : World} {name : String} {g : Nat} {ti : TypeId} {ms : Array (String × TypeId)} {nm : String} {d : DataW Unit}
    (hg : Tryz.prog.globalNamed name = some g) (hty : (Tryz.prog.globals[g]?).map (·.type) = some ti) (hi : Tryz.prog.underlying ti = some (.interface ms))
    (h : Lib.VarReads Tryz.prog W name (.iface nm d)) : ∃ tp p, W.var? Tryz.prog name = some #[.iface tp p] := by
  obtain ⟨g', t', cs, fuel, p, hg', ht', hvar, hd⟩ := h
  obtain rfl := Option.some.inj (hg.symm.trans hg')
  obtain rfl := Option.some.inj (hty.symm.trans ht')
  obtain ⟨f1, u, v, hcs, _, _⟩ := iface_of_trod hi hd
  refine ⟨u, v, hvar.trans ?_⟩
  obtain ⟨l⟩ := cs
  simp at hcs
  rw [hcs]

theorem pow_eq : (Rows.laid_internal_strconv_uint64pow10 : DataW Unit) = Lib.tabData .u64 Lib.pow10Tab := by kernel_rfl
theorem pow_of {W : World} (h : Lib.VarReads Tryz.prog W "internal/strconv.uint64pow10" Rows.laid_internal_strconv_uint64pow10) : Pow W :=
  tab_of_reads (g := 4) (t := 254) (e := 52) (n := 20) (by kernel_rfl) (by kernel_rfl) (by kernel_rfl) (by kernel_rfl) (by kernel_rfl) (by kernel_rfl) (pow_eq ▸ h)

def debTab : List Int := [0, 1, 56, 2, 57, 49, 28, 3, 61, 58, 42, 50, 38, 29, 17, 4, 62, 47, 59, 36, 45, 43, 51, 22, 53, 39, 33, 30, 24, 18, 12, 5, 63, 55, 48, 27, 60, 41, 37, 16, 46, 35, 44, 21, 52, 32, 23, 11, 54, 26, 40, 15, 34, 20, 31, 10, 25, 14, 19, 9, 13, 8, 7, 6]
theorem deb_eq : (Rows.laid_math_bits_deBruijn64tab : DataW Unit) = Lib.tabData .u8 debTab := by kernel_rfl
theorem deb_of {W : World} (h : Lib.VarReads Tryz.prog W "math/bits.deBruijn64tab" Rows.laid_math_bits_deBruijn64tab) : Deb W := by
  have h1 : Lib.TabIs Tryz.prog W "math/bits.deBruijn64tab" .u8 debTab := tab_of_reads (g := 6) (t := 264) (e := 5) (n := 64) (by kernel_rfl) (by kernel_rfl) (by kernel_rfl) (by kernel_rfl) (by kernel_rfl) (by kernel_rfl) (deb_eq ▸ h)
  have h2 := h1.cell (g := 6) (by kernel_rfl) 15 (by decide)
  exact h2

theorem errs_of {W : World} (h1 : Lib.VarReads Tryz.prog W "strconv.ErrRange" Rows.laid_strconv_ErrRange) (h2 : Lib.VarReads Tryz.prog W "strconv.ErrSyntax" Rows.laid_strconv_ErrSyntax) : Errs W :=
  ⟨iface_of_reads (g := 7) (ti := 140) (by kernel_rfl) (by kernel_rfl) Tryz.underlying140 h2,
   iface_of_reads (g := 8) (ti := 140) (by kernel_rfl) (by kernel_rfl) Tryz.underlying140 h1⟩

/-- All that the package's functions want of the world. -/
theorem lib4_of {W : World} (hT : Tabs W) (hp : Pow W) (hd : Deb W) (he : Errs W) : Lib4 W := ⟨⟨hT, hp, hd⟩, he⟩
end Go.Proofs.YtfpidkcdgebnpaaGreatDoor


/-
  What the frames of layer 6's laws want: the library's number, out of the world's shape; a slice of columns, one of cells, two or three rows that came in.
-/
namespace Go.Proofs.YtfpidkcdgebnpaaGreatDoor
open Go.ChangeShapes Go.WideShapes Go.ChangeAt Go.RowKit Go.Shelf Go.Deep

/-- The library's number, out of the world's shape. -/
theorem mx_of {W : World} (h : W.ShapedOpen Tryz.prog) : Mx W :=
  cell_of_shapedOpen_int (g := Tryz.laysSplitN_ren.g 1) (t := 3) (zero := #[.int .i64 0]) h (of_decide_eq_true (by kernel_rfl)) (by kernel_rfl) rfl (by kernel_rfl) (by kernel_rfl) Tryz.underlying3

section
variable {H : Type} {enc : TypeId × Value → H} {W : World}

/-- A law's frame that hands on the world's shape, beside what the row lists. -/
theorem returns_shaped {a : Assume} {C : Checked} {os : Os} {f : FuncId} {fn : Func} {s : ChangeSpec} {conds : List PathCond} {apart fresh handsOn again : Bool} {X : World → Array Value → Prop}
    (hX : ∀ (w w' : World) (args : Array Value), w.heap = w'.heap → X w args → X w' args)
    (own : ownKnob C.prog.godebug = none) (started : os.Started) (noInit : C.prog.inits.idxOf? f = none) (hfn : C.prog.funcs[f]? = some fn)
    (witness : ∃ (w : World) (tape : Tape) (i : Input), w.os = os ∧ (w.forCall tape i).Shaped C.prog ∧ i.vars = [] ∧ Input.okWide C.prog (w.forCall tape i) .any w.heap.size f i ∧
      ((s.pre enc C.prog fn conds apart (w.forCall tape i).memory i.args ∧ X (w.forCall tape i).memory i.args) ∧ sizedMet enc C.prog fn (OpenSpec.ofChange s) apart (w.forCall tape i).memory i.args) ∧ a.holds C.prog (lone (Frame.enter C.prog f i.args .normal) [] (w.forCall tape i)))
    (contract : ∀ (W : World) (base : Nat) (args : Array Value) (ds gs : List (DataW H)) (before : List MemPlace),
      (∀ (j : Nat) t v, fn.params[j]? = some t → args[j]? = some v → Value.okWide C.prog W .any base t v) →
      DataW.Whole enc C.prog fn.params.toList s.vars apart W args.toList ds gs before →
      (DataW.weightsEach C.prog (fn.params.toList ++ s.plain.varTypes C.prog) (ds ++ gs)).all (· ≤ reachBytes) = true → X W args → W.ShapedOpen C.prog →
      Calls C.prog f args W fun e W' => ∃ v, e = .returned v ∧ s.post enc C.prog fn apart fresh handsOn again W args v W') :
    ReturnsInHanded a C os f .any (fun w args => (s.pre enc C.prog fn conds apart w args ∧ X w args) ∧ sizedMet enc C.prog fn (OpenSpec.ofChange s) apart w args) (s.post enc C.prog fn apart fresh handsOn again) := by
  refine returnsInHanded_of_calls own started noInit witness ?_
  intro w tape i _ hsh _ hok hpre _
  obtain ⟨_, _, _, fn2, hf2, _, _, _, _, hval⟩ := hok
  obtain rfl : fn2 = fn := Option.some.inj (hf2.symm.trans hfn)
  obtain ⟨⟨⟨ds, gs, before, hw, _⟩, hx⟩, hz⟩ := hpre
  refine (contract (w.forCall tape i) w.heap.size i.args ds gs before hval (DataW.Whole.of_heap (w' := w.forCall tape i) (by rfl) hw) (hz.weights hw) (hX _ _ _ (by rfl) hx) hsh).mono fun e W' ⟨v, he, hp⟩ => ?_
  subst he
  exact ChangeSpec.post_blind hp

theorem weights_mem_all5 {P : Program} {e : TypeId} {d : DataW H} {n : Nat} (hn : n ∈ d.weights P e) : ∀ {l : List (DataW H)}, d ∈ l → n ∈ DataW.weightsAll P e l
  | [], h => by simp at h
  | a :: r, h => by
    rw [DataW.weightsAll, List.mem_append]
    rcases List.mem_cons.1 h with rfl | h
    · exact .inl hn
    · exact .inr (weights_mem_all5 hn h)

theorem cells_column : Tryz.prog.cellsOf 110 = 2 := by kernel_rfl

theorem col_part {m : Nat} {cs : List Value} {x : DataW H × List MemPlace} (h : DataW.trod enc Tryz.prog W 0 (fun _ => true) true m 110 cs = some x) :
    ∃ (c : ColB), cs = colV c ∧ x.1 = .agg [.lit (.string c.1.data.toList), .lit (.int .i64 c.2)] ∧ -9223372036854775808 ≤ c.2 ∧ c.2 ≤ 9223372036854775807 := by
  obtain ⟨y0, y1, k, hx, hl, h0, h1⟩ := trod_struct2 Tryz.underlying110 h
  rw [cells_column] at hl
  match cs, hl with
  | [c0, c1], _ =>
    have k9 : Tryz.prog.cellsOf 3 = 1 := by kernel_rfl
    have k8 : Tryz.prog.cellsOf 9 = 1 := by kernel_rfl
    simp [k9, k8] at h0 h1
    obtain ⟨s, e2, e3, _⟩ := DataW.trod_string Tryz.underlying9 h0
    obtain ⟨a, e0, e1, wa⟩ := DataW.trod_int Tryz.underlying3 h1
    simp at e0 e2
    subst e0 e2
    have hb := bd_i64 wa
    exact ⟨(s, a), rfl, by rw [hx]; simp [e1, e3], hb.1, hb.2⟩

theorem cols_open {base : Nat} {v : Value} {d : DataW H} {ps : List MemPlace} {ts : List TypeId} {ds : List (DataW H)} {j : Nat} (hval : Value.okWide Tryz.prog W .any base 22 v)
    (h : DataW.Trod enc Tryz.prog W 0 (fun _ => true) true 22 v d ps) (hz : (DataW.weightsEach Tryz.prog ts ds).all (· ≤ reachBytes) = true) (ht : ts[j]? = some 22) (hd : ds[j]? = some d) : ∃ cs, RdC W v cs ∧ CS cs := by
  have hzd : ∀ n ∈ d.weights Tryz.prog 22, n ≤ reachBytes := fun n hn => by
    have := List.all_eq_true.1 hz _ (DataW.weights_mem_each ht hd n hn)
    simpa using this
  obtain ⟨a0, len, cap, rfl⟩ := okWide_slice Tryz.underlying22 hval
  obtain ⟨fuel, hf⟩ := h
  have hb1 : 1 ≤ Tryz.prog.bytesOf 110 := Nat.le_of_ble_eq_true (by kernel_rfl)
  rcases open_slice Tryz.underlying22 hf with ⟨hcs, _⟩ | ⟨x, l, c, m, n, D, Pl, hcs, _, hl, hm, hmm, hx, hcell⟩
  · simp [Value.cells] at hcs
    obtain ⟨rfl, rfl, rfl⟩ := hcs
    exact ⟨[], RdC.nil W, fun c hc => absurd hc (by simp)⟩
  · simp [Value.cells] at hcs
    obtain ⟨rfl, rfl, rfl⟩ := hcs
    simp only [Prod.mk.injEq] at hx
    obtain ⟨rfl, _⟩ := hx
    simp only [if_true] at hmm
    subst hmm
    have hw : ∀ i, i < len → ∀ k ∈ (D i).weights Tryz.prog 110, k ≤ reachBytes := fun i hi k hk => by
      refine hzd k ?_
      rw [DataW.weights]
      simp only [Tryz.underlying22]
      refine List.mem_cons_of_mem _ (List.mem_append.2 (.inl (weights_mem_all5 hk ?_)))
      exact List.mem_map.2 ⟨i, List.mem_range.2 hi, rfl⟩
    have hs := hzd _ (by rw [DataW.weights]; simp only [Tryz.underlying22]; exact List.mem_cons_self ..)
    simp only [List.length_map, List.length_range, reachBytes] at hs
    have hs2 : len ≤ 140737488351232 := by
      have : (len + (m - len)) * 1 ≤ (len + (m - len)) * Tryz.prog.bytesOf 110 := Nat.mul_le_mul_left _ hb1
      omega
    rw [cells_column] at hcell
    obtain ⟨L, hL⟩ := choose_lt (α := ColB) (p := fun i a => (a.1.size ≤ 140737488351232 ∧ -9223372036854775808 ≤ a.2 ∧ a.2 ≤ 9223372036854775807) ∧ ∀ j u, (colV a)[j]? = some u → W.cell? ((x.add (i * 2)).add j) = some u) (n := len) (fun i hi => by
      obtain ⟨cs', h1, h2⟩ := hcell i (by omega)
      obtain ⟨_, h3, h4⟩ := World.cells?_some h1
      obtain ⟨a, rfl, hwa, hk1, hk2⟩ := col_part h2
      have hsz := hw i hi a.1.data.toList.length (by
        dsimp only at hwa
        rw [hwa]
        simp [DataW.weights, Tryz.underlying110, DataW.weightsEach])
      refine ⟨a, ⟨by simpa [reachBytes] using hsz, hk1, hk2⟩, fun j u hu => ?_⟩
      have hj : j < 2 := by have := (List.getElem?_eq_some_iff.1 hu).1; simpa [colV] using this
      rw [h4 j hj, hu])
    have hlen : ((List.range len).map L).length = len := by simp
    have e : ∀ i, i < len → ((List.range len).map L).getD i default = L i := fun i hi => by simp [List.getD, hi]
    have hsp : 0 < len → ∃ b o, x = ⟨b, o, none⟩ := by
      intro hp
      have h0 := (hL 0 hp).2 0 _ rfl
      obtain ⟨b, o, sp⟩ := x
      cases sp with
      | none => exact ⟨b, o, rfl⟩
      | some s =>
        exfalso
        simp only [Addr.add, if_true, World.cell?] at h0
        split at h0 <;> simp at h0
    refine ⟨(List.range len).map L, ⟨⟨some x, _, by rw [List.length_map, hlen], by rw [List.length_map, hlen]; omega, (by intro h; cases h), fun hp => ?_⟩, ?_, ?_, by rw [List.length_map, hlen]; exact hs2⟩, ?_⟩
    · rw [List.length_map, hlen] at hp
      obtain ⟨b, o, rfl⟩ := hsp hp
      exact ⟨b, o, rfl⟩
    · intro i hi j u hu
      rw [List.length_map, hlen] at hi
      rw [getD_map colV _ i (by rw [hlen]; exact hi) default, e i hi] at hu
      have := (hL i hi).2 j u hu
      obtain ⟨b, o, rfl⟩ := hsp (by omega)
      rw [Addr.add_mid, Addr.add_mid, Nat.add_assoc] at this
      rw [adr_lit]
      exact this
    · intro z hz
      obtain ⟨c, _, rfl⟩ := List.mem_map.1 hz
      rfl
    · intro c hc
      obtain ⟨i, hi, rfl⟩ := List.mem_map.1 hc
      exact (hL i (List.mem_range.1 hi)).1

theorem cell_part2 {m : Nat} {cs : List Value} {x : DataW H × List MemPlace} (h : DataW.trod enc Tryz.prog W 0 (fun _ => true) true m 71 cs = some x) :
    ∃ (c : CellB), cs = cellVs c ∧ x.1 = .agg [.lit (.int .u64 (c.1 : Int)), .lit (.string c.2.data.toList)] ∧ c.1 < 18446744073709551616 := by
  obtain ⟨n, s, h1, h2, h3⟩ := cell_part h
  exact ⟨(n, s), h1, h2, h3⟩

theorem cells_core {fuel : Nat} {v : Value} {d : DataW H} {ps : List MemPlace} (hf : DataW.trod enc Tryz.prog W 0 (fun _ => true) true fuel 36 [v] = some (d, ps)) (hzd : ∀ n ∈ d.weights Tryz.prog 36, n ≤ reachBytes) : ∃ cs, RdE W v cs ∧ CES cs := by
  have hb1 : 1 ≤ Tryz.prog.bytesOf 71 := Nat.le_of_ble_eq_true (by kernel_rfl)
  rcases open_slice Tryz.underlying36 hf with ⟨hcs, _⟩ | ⟨x, len, c, m, n, D, Pl, hcs, _, hl, hm, hmm, hx, hcell⟩
  · obtain rfl : v = .slice none 0 0 := by simpa using hcs
    exact ⟨[], RdE.nil W, fun c hc => absurd hc (by simp)⟩
  · obtain rfl : v = .slice (some x) len c := by simpa using hcs
    simp only [Prod.mk.injEq] at hx
    obtain ⟨rfl, _⟩ := hx
    simp only [if_true] at hmm
    subst hmm
    have hw : ∀ i, i < len → ∀ k ∈ (D i).weights Tryz.prog 71, k ≤ reachBytes := fun i hi k hk => by
      refine hzd k ?_
      rw [DataW.weights]
      simp only [Tryz.underlying36]
      refine List.mem_cons_of_mem _ (List.mem_append.2 (.inl (weights_mem_all5 hk ?_)))
      exact List.mem_map.2 ⟨i, List.mem_range.2 hi, rfl⟩
    have hs := hzd _ (by rw [DataW.weights]; simp only [Tryz.underlying36]; exact List.mem_cons_self ..)
    simp only [List.length_map, List.length_range, reachBytes] at hs
    have hs2 : len ≤ 140737488351232 := by
      have : (len + (m - len)) * 1 ≤ (len + (m - len)) * Tryz.prog.bytesOf 71 := Nat.mul_le_mul_left _ hb1
      omega
    rw [cells_cell] at hcell
    obtain ⟨L, hL⟩ := choose_lt (α := CellB) (p := fun i a => ceS a ∧ ∀ j u, (cellVs a)[j]? = some u → W.cell? ((x.add (i * 2)).add j) = some u) (n := len) (fun i hi => by
      obtain ⟨cs', h1, h2⟩ := hcell i (by omega)
      obtain ⟨_, h3, h4⟩ := World.cells?_some h1
      obtain ⟨a, rfl, hwa, hk1⟩ := cell_part2 h2
      have hsz := hw i hi a.2.data.toList.length (by
        dsimp only at hwa
        rw [hwa]
        simp [DataW.weights, Tryz.underlying71, DataW.weightsEach])
      refine ⟨a, ⟨hk1, by simpa [reachBytes] using hsz⟩, fun j u hu => ?_⟩
      have hj : j < 2 := by have := (List.getElem?_eq_some_iff.1 hu).1; simpa [cellVs] using this
      rw [h4 j hj, hu])
    have hlen : ((List.range len).map L).length = len := by simp
    have e : ∀ i, i < len → ((List.range len).map L).getD i default = L i := fun i hi => by simp [List.getD, hi]
    have hsp : 0 < len → ∃ b o, x = ⟨b, o, none⟩ := by
      intro hp
      have h0 := (hL 0 hp).2 0 _ rfl
      obtain ⟨b, o, sp⟩ := x
      cases sp with
      | none => exact ⟨b, o, rfl⟩
      | some s =>
        exfalso
        simp only [Addr.add, if_true, World.cell?] at h0
        split at h0 <;> simp at h0
    refine ⟨(List.range len).map L, ⟨⟨some x, _, by rw [List.length_map, hlen], by rw [List.length_map, hlen]; omega, (by intro h; cases h), fun hp => ?_⟩, ?_, ?_, by rw [List.length_map, hlen]; exact hs2⟩, ?_⟩
    · rw [List.length_map, hlen] at hp
      obtain ⟨b, o, rfl⟩ := hsp hp
      exact ⟨b, o, rfl⟩
    · intro i hi j u hu
      rw [List.length_map, hlen] at hi
      rw [getD_map cellVs _ i (by rw [hlen]; exact hi) default, e i hi] at hu
      have := (hL i hi).2 j u hu
      obtain ⟨b, o, rfl⟩ := hsp (by omega)
      rw [Addr.add_mid, Addr.add_mid, Nat.add_assoc] at this
      rw [adr_lit]
      exact this
    · intro z hz
      obtain ⟨c, _, rfl⟩ := List.mem_map.1 hz
      rfl
    · intro c hc
      obtain ⟨i, hi, rfl⟩ := List.mem_map.1 hc
      exact (hL i (List.mem_range.1 hi)).1

theorem cells_open {base : Nat} {v : Value} {d : DataW H} {ps : List MemPlace} {ts : List TypeId} {ds : List (DataW H)} {j : Nat} (hval : Value.okWide Tryz.prog W .any base 36 v)
    (h : DataW.Trod enc Tryz.prog W 0 (fun _ => true) true 36 v d ps) (hz : (DataW.weightsEach Tryz.prog ts ds).all (· ≤ reachBytes) = true) (ht : ts[j]? = some 36) (hd : ds[j]? = some d) : ∃ cs, RdE W v cs ∧ CES cs := by
  have hzd : ∀ n ∈ d.weights Tryz.prog 36, n ≤ reachBytes := fun n hn => by
    have := List.all_eq_true.1 hz _ (DataW.weights_mem_each ht hd n hn)
    simpa using this
  obtain ⟨a0, len, cap, rfl⟩ := okWide_slice Tryz.underlying36 hval
  obtain ⟨fuel, hf⟩ := h
  exact cells_core (v := .slice a0 len cap) hf hzd
end

end Go.Proofs.YtfpidkcdgebnpaaGreatDoor


/-
  What the frames of layer 6's last laws want: two rows that came in, and three.
-/
namespace Go.Proofs.YtfpidkcdgebnpaaGreatDoor
open Go.ChangeShapes Go.WideShapes Go.ChangeAt Go.RowKit Go.Shelf Go.Deep

section
variable {H : Type} {enc : TypeId × Value → H} {W : World}

theorem cells_exact {v : Value} {l : List Value} (hl : 1 < l.length) (h : v.cells.toList = l) : v = .agg l.toArray := by
  have h' : v.cells = l.toArray := Array.toList_inj.1 (by simpa using h)
  cases v <;> simp [Value.cells] at h'
  all_goals first | (subst h'; rfl) | (rw [h']) | (subst h'; simp at hl)

theorem weights_agg {ds : List (DataW H)} {d : DataW H} {t e : TypeId} {n k : Nat} (ht : Tryz.prog.underlying t = some (.array n e)) (hd : d ∈ ds) (hk : k ∈ d.weights Tryz.prog e) : k ∈ (DataW.agg ds).weights Tryz.prog t := by
  rw [DataW.weights]
  simp only [ht]
  exact weights_mem_all5 hk hd

end

end Go.Proofs.YtfpidkcdgebnpaaGreatDoor


/-
  Slices of pairs that came in, one, two, or three.
-/
namespace Go.Proofs.YtfpidkcdgebnpaaGreatDoor
open Go.ChangeShapes Go.WideShapes Go.ChangeAt Go.RowKit Go.Shelf Go.Deep

section
variable {H : Type} {enc : TypeId × Value → H} {W : World}

theorem cells_pair : Tryz.prog.cellsOf 51 = 2 := by kernel_rfl

theorem pair_part {m : Nat} {cs : List Value} {x : DataW H × List MemPlace} (h : DataW.trod enc Tryz.prog W 0 (fun _ => true) true m 51 cs = some x) (hw : ∀ n ∈ x.1.weights Tryz.prog 51, n ≤ reachBytes) :
    ∃ t : TriB, cs = triV t ∧ RdE W t.1 t.2.1 ∧ CES t.2.1 ∧ inW t.2.2 := by
  obtain ⟨y0, y1, k, hx, hl, h0, h1⟩ := trod_struct2 Tryz.underlying51 h
  rw [cells_pair] at hl
  match cs, hl with
  | [c0, c1], _ =>
    have k9 : Tryz.prog.cellsOf 2 = 1 := by kernel_rfl
    have k8 : Tryz.prog.cellsOf 36 = 1 := by kernel_rfl
    simp [k9, k8] at h0 h1
    obtain ⟨a, e0, e1, wa⟩ := DataW.trod_int Tryz.underlying2 h1
    simp at e0
    subst e0
    have hb := bd_i64 wa
    obtain ⟨r, hr, hc⟩ := cells_core (d := y0.1) (ps := y0.2) h0 (fun n hn => hw n (by
      rw [hx]
      simp only [DataW.weights, Tryz.underlying51]
      simp [DataW.weightsEach, hn]))
    exact ⟨(c0, (r, a)), rfl, hr, hc, hb⟩

theorem pairs_core {fuel : Nat} {v : Value} {d : DataW H} {pl : List MemPlace} (hf : DataW.trod enc Tryz.prog W 0 (fun _ => true) true fuel 23 [v] = some (d, pl)) (hzd : ∀ n ∈ d.weights Tryz.prog 23, n ≤ reachBytes) : ∃ ps, RdP W v ps ∧ PSO ps ∧ ps.length * 32 ≤ 140737488351232 := by
  have hb1 : 1 ≤ Tryz.prog.bytesOf 51 := Nat.le_of_ble_eq_true (by kernel_rfl)
  rcases open_slice Tryz.underlying23 hf with ⟨hcs, _⟩ | ⟨x, len, c, m, n, D, Pl, hcs, _, hl, hm, hmm, hx, hcell⟩
  · obtain rfl : v = .slice none 0 0 := by simpa using hcs
    exact ⟨[], RdP.nil W, fun c hc => absurd hc (by simp), by simp⟩
  · obtain rfl : v = .slice (some x) len c := by simpa using hcs
    simp only [Prod.mk.injEq] at hx
    obtain ⟨rfl, _⟩ := hx
    simp only [if_true] at hmm
    subst hmm
    have hw : ∀ i, i < len → ∀ k ∈ (D i).weights Tryz.prog 51, k ≤ reachBytes := fun i hi k hk => by
      refine hzd k ?_
      rw [DataW.weights]
      simp only [Tryz.underlying23]
      refine List.mem_cons_of_mem _ (List.mem_append.2 (.inl (weights_mem_all5 hk ?_)))
      exact List.mem_map.2 ⟨i, List.mem_range.2 hi, rfl⟩
    have hs := hzd _ (by rw [DataW.weights]; simp only [Tryz.underlying23]; exact List.mem_cons_self ..)
    simp only [List.length_map, List.length_range, reachBytes] at hs
    have hs2 : len ≤ 140737488351232 := by
      have : (len + (m - len)) * 1 ≤ (len + (m - len)) * Tryz.prog.bytesOf 51 := Nat.mul_le_mul_left _ hb1
      omega
    have hby : Tryz.prog.bytesOf 51 = 32 := by kernel_rfl
    rw [hby] at hs
    rw [cells_pair] at hcell
    obtain ⟨L, hL⟩ := choose_lt (α := TriB) (p := fun i a => (RdE W a.1 a.2.1 ∧ CES a.2.1 ∧ inW a.2.2) ∧ ∀ j u, (triV a)[j]? = some u → W.cell? ((x.add (i * 2)).add j) = some u) (n := len) (fun i hi => by
      obtain ⟨cs', h1, h2⟩ := hcell i (by omega)
      obtain ⟨_, h3, h4⟩ := World.cells?_some h1
      obtain ⟨a, rfl, hr⟩ := pair_part h2 (hw i hi)
      refine ⟨a, hr, fun j u hu => ?_⟩
      have hj : j < 2 := by have := (List.getElem?_eq_some_iff.1 hu).1; simpa [triV] using this
      rw [h4 j hj, hu])
    have hlen : ((List.range len).map L).length = len := by simp
    have e : ∀ i, i < len → ((List.range len).map L).getD i default = L i := fun i hi => by simp [List.getD, hi]
    have hsp : 0 < len → ∃ b o, x = ⟨b, o, none⟩ := by
      intro hp
      have h0 := (hL 0 hp).2 0 _ rfl
      obtain ⟨b, o, sp⟩ := x
      cases sp with
      | none => exact ⟨b, o, rfl⟩
      | some s =>
        exfalso
        simp only [Addr.add, if_true, World.cell?] at h0
        split at h0 <;> simp at h0
    have hmem : ∀ t ∈ (List.range len).map L, RdE W t.1 t.2.1 ∧ CES t.2.1 ∧ inW t.2.2 := by
      intro t ht
      obtain ⟨i, hi, rfl⟩ := List.mem_map.1 ht
      exact (hL i (List.mem_range.1 hi)).1
    refine ⟨((List.range len).map L).map (·.2), ⟨(List.range len).map L, rfl, ⟨⟨some x, _, by rw [List.length_map, hlen], by rw [List.length_map, hlen]; omega, (by intro h; cases h), fun hp => ?_⟩, ?_, ?_, by rw [List.length_map, hlen]; exact hs2⟩, fun t ht => (hmem t ht).1⟩, ?_, by simp; omega⟩
    · rw [List.length_map, hlen] at hp
      obtain ⟨b, o, rfl⟩ := hsp hp
      exact ⟨b, o, rfl⟩
    · intro i hi j u hu
      rw [List.length_map, hlen] at hi
      rw [getD_map triV _ i (by rw [hlen]; exact hi) default, e i hi] at hu
      have := (hL i hi).2 j u hu
      obtain ⟨b, o, rfl⟩ := hsp (by omega)
      rw [Addr.add_mid, Addr.add_mid, Nat.add_assoc] at this
      rw [adr_lit]
      exact this
    · intro z hz
      obtain ⟨t, _, rfl⟩ := List.mem_map.1 hz
      rfl
    · intro p hp
      obtain ⟨t, ht, rfl⟩ := List.mem_map.1 hp
      exact (hmem t ht).2

theorem pairs_open {base : Nat} {v : Value} {d : DataW H} {pl : List MemPlace} {ts : List TypeId} {ds : List (DataW H)} {j : Nat} (hval : Value.okWide Tryz.prog W .any base 23 v)
    (h : DataW.Trod enc Tryz.prog W 0 (fun _ => true) true 23 v d pl) (hz : (DataW.weightsEach Tryz.prog ts ds).all (· ≤ reachBytes) = true) (ht : ts[j]? = some 23) (hd : ds[j]? = some d) : ∃ ps, RdP W v ps ∧ PSO ps ∧ ps.length * 32 ≤ 140737488351232 := by
  have hzd : ∀ n ∈ d.weights Tryz.prog 23, n ≤ reachBytes := fun n hn => by
    have := List.all_eq_true.1 hz _ (DataW.weights_mem_each ht hd n hn)
    simpa using this
  obtain ⟨a0, len, cap, rfl⟩ := okWide_slice Tryz.underlying23 hval
  obtain ⟨fuel, hf⟩ := h
  exact pairs_core hf hzd

theorem pairs2_open {v : Value} {d : DataW H} {pl : List MemPlace} {ts : List TypeId} {ds : List (DataW H)} {j : Nat}
    (h : DataW.Trod enc Tryz.prog W 0 (fun _ => true) true 35 v d pl) (hz : (DataW.weightsEach Tryz.prog ts ds).all (· ≤ reachBytes) = true) (ht : ts[j]? = some 35) (hd : ds[j]? = some d) :
    ∃ (x0 x1 : Value) (l0 l1 : List PairB), v = .agg #[x0, x1] ∧ (RdP W x0 l0 ∧ PSO l0 ∧ l0.length * 32 ≤ 140737488351232) ∧ (RdP W x1 l1 ∧ PSO l1 ∧ l1.length * 32 ≤ 140737488351232) := by
  have hzd : ∀ n ∈ d.weights Tryz.prog 35, n ≤ reachBytes := fun n hn => by
    have := List.all_eq_true.1 hz _ (DataW.weights_mem_each ht hd n hn)
    simpa using this
  obtain ⟨fuel, hf⟩ := h
  obtain ⟨xs, m, rfl, hx, hl, hn, hi⟩ := DataW.trod_array Tryz.underlying35 hf
  have c6 : Tryz.prog.cellsOf 35 = 2 := by kernel_rfl
  have c1 : Tryz.prog.cellsOf 23 = 1 := by kernel_rfl
  rw [c6] at hl
  obtain ⟨c0, c1', hcs⟩ : ∃ c0 c1, v.cells.toList = [c0, c1] := by
    match hq : v.cells.toList, (hl : _) with
    | [c0, c1], _ => exact ⟨c0, c1, rfl⟩
  obtain ⟨x0, x1, rfl⟩ : ∃ x0 x1, xs = [x0, x1] := by
    match xs, hn with
    | [x0, x1], _ => exact ⟨x0, x1, rfl⟩
  rw [hcs, c1] at hi
  have h0 := hi 0 (by omega)
  have h1 := hi 1 (by omega)
  simp only [Nat.zero_mul, Nat.one_mul, List.drop_zero, List.take_succ_cons, List.take_zero, List.drop_succ_cons, List.getElem?_cons_zero, List.getElem?_cons_succ] at h0 h1
  simp only [List.map_cons, List.map_nil, Prod.mk.injEq] at hx
  obtain ⟨rfl, _⟩ := hx
  obtain ⟨l0, r0⟩ := pairs_core (d := x0.1) (pl := x0.2) h0 (fun n hn => hzd n (weights_agg Tryz.underlying35 (by simp) hn))
  obtain ⟨l1, r1⟩ := pairs_core (d := x1.1) (pl := x1.2) h1 (fun n hn => hzd n (weights_agg Tryz.underlying35 (by simp) hn))
  exact ⟨_, _, l0, l1, cells_exact (by simp) hcs, r0, r1⟩

theorem pairs3_open {v : Value} {d : DataW H} {pl : List MemPlace} {ts : List TypeId} {ds : List (DataW H)} {j : Nat}
    (h : DataW.Trod enc Tryz.prog W 0 (fun _ => true) true 55 v d pl) (hz : (DataW.weightsEach Tryz.prog ts ds).all (· ≤ reachBytes) = true) (ht : ts[j]? = some 55) (hd : ds[j]? = some d) :
    ∃ (x0 x1 x2 : Value) (l0 l1 l2 : List PairB), v = .agg #[x0, x1, x2] ∧ (RdP W x0 l0 ∧ PSO l0 ∧ l0.length * 32 ≤ 140737488351232) ∧ (RdP W x1 l1 ∧ PSO l1 ∧ l1.length * 32 ≤ 140737488351232) ∧ (RdP W x2 l2 ∧ PSO l2 ∧ l2.length * 32 ≤ 140737488351232) := by
  have hzd : ∀ n ∈ d.weights Tryz.prog 55, n ≤ reachBytes := fun n hn => by
    have := List.all_eq_true.1 hz _ (DataW.weights_mem_each ht hd n hn)
    simpa using this
  obtain ⟨fuel, hf⟩ := h
  obtain ⟨xs, m, rfl, hx, hl, hn, hi⟩ := DataW.trod_array Tryz.underlying55 hf
  have c6 : Tryz.prog.cellsOf 55 = 3 := by kernel_rfl
  have c1 : Tryz.prog.cellsOf 23 = 1 := by kernel_rfl
  rw [c6] at hl
  obtain ⟨c0, c1', c2, hcs⟩ : ∃ c0 c1 c2, v.cells.toList = [c0, c1, c2] := by
    match hq : v.cells.toList, (hl : _) with
    | [c0, c1, c2], _ => exact ⟨c0, c1, c2, rfl⟩
  obtain ⟨x0, x1, x2, rfl⟩ : ∃ x0 x1 x2, xs = [x0, x1, x2] := by
    match xs, hn with
    | [x0, x1, x2], _ => exact ⟨x0, x1, x2, rfl⟩
  rw [hcs, c1] at hi
  have h0 := hi 0 (by omega)
  have h1 := hi 1 (by omega)
  have h2 := hi 2 (by omega)
  simp only [Nat.zero_mul, Nat.one_mul, List.drop_zero, List.take_succ_cons, List.take_zero, List.drop_succ_cons, List.getElem?_cons_zero, List.getElem?_cons_succ] at h0 h1 h2
  simp only [List.map_cons, List.map_nil, Prod.mk.injEq] at hx
  obtain ⟨rfl, _⟩ := hx
  obtain ⟨l0, r0⟩ := pairs_core (d := x0.1) (pl := x0.2) h0 (fun n hn => hzd n (weights_agg Tryz.underlying55 (by simp) hn))
  obtain ⟨l1, r1⟩ := pairs_core (d := x1.1) (pl := x1.2) h1 (fun n hn => hzd n (weights_agg Tryz.underlying55 (by simp) hn))
  obtain ⟨l2, r2⟩ := pairs_core (d := x2.1) (pl := x2.2) h2 (fun n hn => hzd n (weights_agg Tryz.underlying55 (by simp) hn))
  exact ⟨_, _, _, l0, l1, l2, cells_exact (by simp) hcs, r0, r1, r2⟩
end

end Go.Proofs.YtfpidkcdgebnpaaGreatDoor

