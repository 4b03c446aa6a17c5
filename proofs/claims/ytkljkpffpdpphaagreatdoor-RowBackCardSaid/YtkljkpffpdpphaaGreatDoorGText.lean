/-
  'append' in the body of a loop over a function: strings, cells.
-/
import Derived.Test.YtkljkpffpdpphaaGreatDoorRowCheck
import Derived.Maps.AppendAt
import Derived.Test.YtkljkpffpdpphaaGreatDoorGRowL
import Derived.Shelf.Strings.OnBuilder
set_option linter.unusedVariables false
set_option linter.unusedSimpArgs false
set_option maxRecDepth 1000000
namespace Go.Proofs.YtkljkpffpdpphaaGreatDoor
open Go.RowKit Go.Shelf

theorem wplG_appendIn {E : Elt} (hE : E.Ok) {F : Fence} {n : Nat} {w : World} {vs : List (List Value)} {ops : Array Oper} {Q : Exit → Act → World → Prop} {rest : List Oper} {a : Act} {dst : Option Tmp} {ty : TypeId} {pos : String} {aft : Array Edge} {s x : Operand}
    (base : Nat) (sv : Value) (hs : a.eval s = sv) (ho : OwnG E w base sv vs) (ad : Addr) (u : List Value) (hx : a.eval x = .slice (some ad) 1 1) (hu : u.length = E.n) (h1 : ∀ z ∈ u, z.oneCell' = true)
    (hc : ∀ j z, u[j]? = some z → w.cell? (ad.add j) = some z) (hn : (vs.length + 1) * E.bytes ≤ 140737488355328) (hn2 : vs.length + 1 ≤ 140737488355328) (hbase : base ≤ w.heap.size)
    (h : ∀ v' w', OwnG E w' base v' (vs ++ [u]) → (∃ g cap, v' = .slice (some ⟨g, 0, none⟩) (vs.length + 1) cap) → w.grownBy w' sv.ownBlock → wpListIn F n Tryz.prog ops Q rest (a.put dst v') w') :
    wpListIn F n Tryz.prog ops Q (⟨dst, .call ⟨.builtin .append, #[s, x], #[E.S, E.S]⟩, ty, pos, aft, none⟩ :: rest) a w := by
  obtain ⟨i0, hi, hz0, hz1, hz2⟩ := info_parts hE.info
  refine wpListIn_append_own w rfl s x E.S rfl base E.T i0 E.zero E.n E.bytes hE.hS hi hz0 hz1 hz2 hE.hz hE.hn sv vs.length vs.flatten hs ho.1 ad 1 1 u hx (by rw [hu]; omega) hc h1 (by unfold maxLen; omega) hn hbase ?_
  intro v' w' h1' h2 _
  refine h v' w' ⟨?_, ?_, ?_⟩ (ownsRow_succ h1') h2
  · rw [List.length_append, List.flatten_append, List.flatten_singleton]; exact h1'
  · intro y hy
    rcases List.mem_append.1 hy with hy | hy
    · exact ho.2.1 y hy
    · rw [List.mem_singleton.1 hy]; exact hu
  · intro y hy
    rcases List.mem_append.1 hy with hy | hy
    · exact ho.2.2 y hy
    · rw [List.mem_singleton.1 hy]; exact h1

/-- What a box that holds a slice of the call's own owes behind an append, and the store back. -/
theorem appended {E : Elt} {W w1 : World} {base B : Nat} {t : TypeId} {v v' : Value} {vs us : List (List Value)} {tmp : Obj} {S : Nat → Prop}
    (hv : Boxed W B t v) (hte : t ≠ E.T) (ho : OwnG E W base v vs) (ho' : OwnG E w1 base v' us) (hgrow : (W.alloc tmp).grownBy w1 v.ownBlock) (hS : ∀ j, base ≤ j → S j) (hSB : S B) :
    Boxed w1 B t v ∧ Boxed (w1.setCell ⟨B, 0, none⟩ v') B t v' ∧ OwnG E (w1.setCell ⟨B, 0, none⟩ v') base v' us ∧ KeepsOthers W (w1.setCell ⟨B, 0, none⟩ v') ∧ Only S W (w1.setCell ⟨B, 0, none⟩ v') := by
  have hv1 : Boxed w1 B t v := (hv.alloc tmp).kept hgrow (hv.not_row hte ho.1)
  refine ⟨hv1, hv1.set v', ⟨ho'.1.kept (grownBy_setCell' w1 B v') (.inr (hv1.not_row hte ho'.1).symm), ho'.2⟩, ?_, ?_⟩
  · refine ((KeepsOthers.alloc W tmp).trans (KeepsOthers.of_grownBy hgrow fun j o ej hj => ?_)).trans (KeepsOthers.setCell _ _ _)
    rcases (ho.1.alloc tmp).2 with ⟨rfl, _⟩ | ⟨g, cap, cur, rfl, _, hgb, _⟩
    · simp [Value.ownBlock] at ej
    · obtain rfl : g = j := by simpa [Value.ownBlock] using ej
      rw [hgb] at hj; cases hj; rfl
  · have h1 : Only S W (W.alloc tmp) := (Only.refl S W).alloc tmp
    have h2 : Only S (W.alloc tmp) w1 := ⟨hgrow.os, hgrow.tape, hgrow.output, hgrow.size, fun j hj hn => hgrow.block j hj (fun e => hn (hS j (World.ownsRow.lt ho.1 j e.symm).1))⟩
    exact (h1.trans h2).setCell (p := ⟨B, 0, none⟩) hSB v'

/-- 'The box holds a slice of the call's own that is f s' speaks of cells alone. -/
theorem holdsG_own {β : Type} {E : Elt} (base B : Nat) (t : TypeId) (f : β → List (List Value)) : Go.Own (fun s W => ∃ v, Boxed W B t v ∧ OwnG E W base v (f s)) :=
  holdsRow_own (β := β) base B t E.T E.n (fun s => (f s).length) (fun s => (f s).flatten) (fun s _ => (∀ x ∈ f s, x.length = E.n) ∧ ∀ x ∈ f s, ∀ u ∈ x, u.oneCell' = true)
end Go.Proofs.YtkljkpffpdpphaaGreatDoor


/-
  row.Text.
-/
namespace Go.Proofs.YtkljkpffpdpphaaGreatDoor
open Go.RowKit Go.Shelf

attribute [local go_sem] Oper.semAt_some

theorem joinX : Builder.Extra Tryz.prog Tryz.laysJoin_ren := {
  sizeBuilder := by kernel_rfl
  liesBuilder := by kernel_rfl
  t5 := Tryz.underlying5
  a5 := Tryz.isAgg5
  z5 := Tryz.sizeOf5
  v5 := Tryz.zeroValue5
  infoByte := by kernel_rfl
  cellsByte := by kernel_rfl
  sizeByte := by kernel_rfl
  neB5 := by decide }

theorem lib_Join (v : Value) (ss : List ByteArray) (w : World) (h : RdT w v ss) (hp : 0 < ss.length) (hl : (Lib.join (ss.map (·.data.toList)) [44]).length ≤ 100000) :
    Calls Tryz.prog 32 #[v, .string ⟨#[44]⟩] w fun e w' => e = .returned (.string ⟨(Lib.join (ss.map (·.data.toList)) [44]).toArray⟩) ∧ Below w.heap.size w w' := by
  have hsm := h.small
  obtain ⟨ao, cap, hv, hcap, hnil, hsome⟩ := RdG.shape h
  have hl1 : (ss.map strV).length = ss.length := by simp
  rw [hl1] at hv hcap hsome
  obtain ⟨bk, o6, rfl⟩ := hsome hp
  subst hv
  have hcells : ∀ (j : Nat) x, ss[j]? = some x → w.cell? ⟨bk, o6 + j, none⟩ = some (.string x) := by
    intro j x hj
    have hjl := (List.getElem?_eq_some_iff.1 hj).1
    have := RdG.cells h j (by rw [List.length_map]; exact hjl) 0 (.string x) (by
      rw [getD_map strV _ j hjl default]
      have e : ss.getD j default = x := by simp only [List.getD, hj, Option.getD_some]
      rw [e]; rfl)
    rw [adr_lit, show o6 + (j * strE.n + 0) = o6 + j from by show o6 + (j * 1 + 0) = o6 + j; omega] at this
    exact this
  exact Any.strings_Join Tryz.laysJoin joinX bk o6 cap ss ⟨#[44]⟩ w hcells (World.block_lt_of_cell? w _ (hcells 0 _ (List.getElem?_eq_getElem hp))) (by omega) hcap (by
    have : (Lib.join (ss.map (·.data.toList)) [44]).length ≤ 140737488355328 := by omega
    exact this)

/-- 'append(s, a string)' in a round. -/
theorem wplT_appendIn {F : Fence} {n : Nat} {w : World} {ss : List ByteArray} {ops : Array Oper} {Q : Exit → Act → World → Prop} {rest : List Oper} {a : Act} {dst : Option Tmp} {ty : TypeId} {pos : String} {aft : Array Edge} {s x : Operand}
    (base : Nat) (sv : Value) (hs : a.eval s = sv) (ho : OwnT w base sv ss) (ad : Addr) (c : ByteArray) (hx : a.eval x = .slice (some ad) 1 1)
    (hc : ∀ j z, (strV c)[j]? = some z → w.cell? (ad.add j) = some z) (hn : (ss.length + 1) * 16 ≤ 140737488355328) (hbase : base ≤ w.heap.size)
    (h : ∀ v' w', OwnT w' base v' (ss ++ [c]) → (∃ g cap, v' = .slice (some ⟨g, 0, none⟩) (ss.length + 1) cap) → w.grownBy w' sv.ownBlock → wpListIn F n Tryz.prog ops Q rest (a.put dst v') w') :
    wpListIn F n Tryz.prog ops Q (⟨dst, .call ⟨.builtin .append, #[s, x], #[59, 59]⟩, ty, pos, aft, none⟩ :: rest) a w :=
  wplG_appendIn (E := strE) (vs := ss.map strV) strOk base sv hs ho ad (strV c) hx rfl (by intro z hz; simp [strV] at hz; rw [hz]; rfl) hc (by rw [List.length_map]; exact hn) (by rw [List.length_map]; omega) hbase
    (fun v' w' h1 h2 h3 => h v' w' (by unfold OwnT; rw [List.map_append]; exact h1) (by rw [List.length_map] at h2; exact h2) h3)

/-- A cell's text. -/
theorem cell_TextR (kind : Int) (num : Nat) (hnum : num < 18446744073709551616) (s : ByteArray) (l : List UInt8) (w : World) (h : RdS s l) (hT : Lib3 w) (he : checkC kind num l = 0) :
    Calls Tryz.prog 31 #[.int .i64 kind, cellV num s] w fun e w' => (∃ t, e = .returned (.tuple #[.string t, .int .i64 0]) ∧ RdS t (textK kind num l)) ∧ Below w.heap.size w w' := by
  obtain ⟨hk, _, _, _, _, h5⟩ := check_zero he
  unfold textK
  by_cases h34 : kind = 3 ∨ kind = 4
  · rw [if_pos h34]
    exact cell_TextB kind h34 num s l w h hT.tabs he (by omega)
  · rw [if_neg h34]
    exact cell_TextN kind (by omega) num hnum s l w h hT he

/-- What row.Text answers. -/
def TxR (w : World) (cs : List ColB) (rs : List CellB) (e : Ending) (w' : World) : Prop :=
  ∃ t, e = .returned (.tuple #[.string t, .int .i64 (errRow cs rs : Nat)]) ∧ Below w.heap.size w w' ∧ ((errRow cs rs ≠ 0 ∧ t = ⟨#[]⟩) ∨ (errRow cs rs = 0 ∧ RdS t (textR cs rs)))

set_option maxHeartbeats 8000000 in
theorem row_Text (v1 v2 : Value) (cs : List ColB) (rs : List CellB) (w : World) (h1 : RdC w v1 cs) (h2 : RdE w v2 rs) (hC : CS cs) (hE : CES rs) (hT : Lib3 w) :
    Calls Tryz.prog 18 #[v1, v2] w (TxR w cs rs) := by
  have R1 := Lib.hid (fun wz (hz : Below w.heap.size w wz) => h1.later hz (Nat.le_refl _))
  have R2 := Lib.hid (fun wz (hz : Below w.heap.size w wz) => h2.later hz (Nat.le_refl _))
  have HT := Lib.hid hT
  obtain ⟨x, hx⟩ : ∃ x, x = errRow cs rs := ⟨_, rfl⟩
  have CA := Lib.hid (show Calls Tryz.prog 10 #[v1, v2] w fun e w' => e = .returned (.int .i64 (x : Int)) ∧ Below w.heap.size w w' from by
    rw [hx]; exact row_Check v1 v2 cs rs w h1 h2 hC hE hT.tabs)
  clear h1 h2 hT
  by_cases h0 : x = 0
  · have hxl := errRow_len (show errRow cs rs = 0 from by omega)
    have hz8 := errS_zero hxl.1
    rw [colsL_length] at hz8
    have HX := Lib.hid (show errRow cs rs = 0 from by omega)
    have HL := Lib.hid hxl.2.1
    have HP := Lib.hid (errP_zero hxl.2.2)
    have HSM := Lib.hid (textR_small hE hxl.2.2 hz8.2.1)
    have hc0 := hz8.1
    have hc8 := hz8.2.1
    subst h0
    rw [show ((0 : Nat) : Int) = 0 from rfl] at CA
    have MK := Lib.hid (fun wz (hz : Below w.heap.size w wz) => bothCC_make v1 v2 cs rs wz (R1.out wz hz) (R2.out wz hz))
    clear hx hxl hz8
    refine (callsIn_wide (n := 5)).1 ?_
    refine callsIn_of_wp_marks Tryz.func18 rfl trivial ?_ rfl
    simp only [Tryz.ntmps18, List.size_toArray, List.length_cons, List.length_nil, Nat.reduceAdd, Nat.reduceSub, Array.replicate_succ, Array.replicate_zero, List.push_toArray, List.append_toArray, List.nil_append, List.cons_append]
    gi_wp2_with fail
    refine ⟨trivial, ?_⟩
    gi_at_call 10
    refine (callsIn_wide.2 CA.out).mono ?_
    rintro e w1 ⟨rfl, hb⟩
    have B1 := Lib.hid hb
    have N1 := new1 w1 (.cells #[.slice none 0 0] 59)
    have hB3 : Below w.heap.size w (w1.alloc (.cells #[.slice none 0 0] 59)) := hb.trans (N1.2.2.mono hb.size)
    have Y3 : Boxed (w1.alloc (.cells #[.slice none 0 0] 59)) w1.heap.size 59 (.slice none 0 0) := N1.2.1
    have hw1s : w.heap.size ≤ w1.heap.size := hb.size
    have HSZ3 := Lib.hid N1.1
    have MKz := Lib.hid (MK.out _ hB3)
    clear hb N1 CA
    gi_wp2_with fail
    refine ⟨trivial, ?_⟩
    gi_at_call 30
    generalize w1.alloc (.cells #[.slice none 0 0] 59) = w3 at MKz hB3 Y3 HSZ3 ⊢
    refine (callsIn_wide.2 MKz.out).mono ?_
    rintro e w4 ⟨rfl, rfl⟩
    gi_wp2
    obtain ⟨W0, hW0⟩ : ∃ W0, (w3.alloc (.cells #[v1] 22)).alloc (.cells #[v2] 23) = W0 := ⟨_, rfl⟩
    obtain ⟨M0, M1, M2, M3⟩ := new2 w3 (.cells #[v1] 22) (.cells #[v2] 23)
    rw [hW0] at M0 M1 M2 M3 ⊢
    clear hW0
    have bt := Lib.hid (boxed_below Y3 M3)
    have hB0 : Below w.heap.size w W0 := hB3.trans (M3.mono hB3.size)
    have hb1 : Boxed W0 w3.heap.size 22 v1 := M1
    have hb2 : Boxed W0 (w3.heap.size + 1) 23 v2 := M2
    obtain ⟨T, hTe⟩ : ∃ T, T = w1.heap.size := ⟨_, rfl⟩
    have hsz3 := HSZ3.out
    rw [← hTe] at bt hsz3 hw1s ⊢
    rw [hsz3] at M0 hb1 hb2 ⊢
    clear hTe HSZ3 hsz3 M1 M2 Y3 MKz MK hB3
    have hlz : cs.length = rs.length := HL.out.symm
    have hzl : (cs.zip rs).length = cs.length := by rw [List.length_zip]; omega
    obtain ⟨Z, hZ⟩ : ∃ Z, Z = W0.heap.size := ⟨_, rfl⟩
    have hZT : Z = T + 3 := by omega
    clear hZ
    refine range_through (by omega) (gf := 51) (lb := #[.pointer (some ⟨T + 1, 0, none⟩), .pointer (some ⟨T + 1 + 1, 0, none⟩)]) rfl (enters_of Tryz.func51 (by kernel_rfl) rfl)
      (bothCC_through (5 - 1) (by omega) (T + 1) (T + 1 + 1) v1 v2 cs rs hlz w R1.out R2.out W0 hB0 hb1.cell hb2.cell) only_t (only_b (by omega) (by omega) (by omega)) (fun _ => rfl)
      (fun pre W => (∃ v, Boxed W T 59 v ∧ OwnG strE W Z v ((strL (pre.map txP)).map strV)) ∧ (Below w.heap.size w W ∧ Z ≤ W.heap.size))
      (fun _ _ _ => False)
      (OwnFrom.and (Own.from (holdsG_own Z T 59 _) _) (OwnFrom.and (ownFrom_below (Nat.le_refl _) (by omega)) (fun _ _ _ _ hs hg _ => Nat.le_trans hs hg.size)))
      (fun _ _ _ _ _ hs _ _ => hs)
      ⟨⟨_, bt.out, OwnG.nil strE W0 Z⟩, hB0, by omega⟩
      (fun (x : CP) a' W => ∃ Bx By, (W.heap[Bx]? = some (Obj.cells #[.string x.1.1, .int .i64 x.1.2] 54 (0, 0)) ∧ W.heap[By]? = some (Obj.cells #[.int .u64 (x.2.1 : Int), .string x.2.2] 45 (0, 0))) ∧
        a' = { tmps := #[v1, v2, undef, undef, .string ⟨#[]⟩, .int .i64 0, .int .i64 0, .pointer (some ⟨T, 0, none⟩), .pointer (some ⟨Bx, 0, none⟩), .pointer (some ⟨By, 0, none⟩), undef, undef, v1, v2, .int .i64 0, .int .i64 0, .bool false, undef, v1, v2,
          .func (.func 51) #[] #[.pointer (some ⟨T + 1, 0, none⟩), .pointer (some ⟨T + 1 + 1, 0, none⟩)],
          .agg #[.string x.1.1, .int .i64 x.1.2], .agg #[.int .u64 (x.2.1 : Int), .string x.2.2], undef, undef, undef, undef, undef, undef, undef, undef, undef, undef, undef, undef, undef], defers := [] })
      ?_ ?_ ?_ ?_ ?_
    · rintro x a' s X Y row ⟨Bx, By, ⟨h4, h5⟩, h6⟩ hg hr
      exact ⟨Bx, By, ⟨cells_kept h4 hg hr, cells_kept h5 hg hr⟩, h6⟩
    · rintro l pre ⟨⟨s, kd⟩, ⟨nm, tx⟩⟩ W K ⟨⟨v, hv, hO⟩, hB, hZs⟩ hx hK
      unfold encCC
      dsimp only
      gi_wp2
      obtain ⟨N0, N1, N2, N3⟩ := new2 W (.cells #[.string s, .int .i64 kd] 54) (.cells #[.int .u64 (nm : Int), .string tx] 45)
      exact hK _ _ (keepsFrom_below N3) (only_below N3) ⟨⟨v, boxed_below hv N3, hO.later N3 (Nat.le_refl _)⟩, hB.trans (N3.mono hB.size), Nat.le_trans hZs N3.size⟩ ⟨_, _, ⟨N1, N2⟩, rfl⟩
    · rintro l pre ⟨⟨s, kd⟩, ⟨nm, tx⟩⟩ a' W ⟨⟨v, hv, hO⟩, hB, hZs⟩ ⟨Bx, By, ⟨hx1, hx2⟩, rfl⟩ hlt hx
      have hce := hE _ (List.of_mem_zip hx).2
      have he : chk ((s, kd), (nm, tx)) = 0 := HP.out _ hx
      have TK := Lib.hid (cell_TextR kd nm hce.1 tx tx.data.toList W (CES.rdS hce) (HT.out.later hB) he)
      have e1 := new_cellC hx1 (i := 1) rfl
      have e2 := new_cellC hx2 (i := 0) rfl
      have e3 := new_cellC hx2 (i := 1) rfl
      have HV := Lib.hid hv
      have HO := Lib.hid hO
      have HB := Lib.hid hB
      have hWs : T < W.heap.size := hv.lt
      have hd : 1 ≤ 5 - 1 - 1 := by omega
      clear hv hO hB hx1 hx2 hce he hx
      gi_wp2_with fail
      refine ⟨trivial, ?_⟩
      gi_at_call 31
      refine (CallsIn.inRound l (callsIn_wide.2 TK.out)).mono ?_
      rintro e w5 ⟨⟨tt, rfl, ht⟩, hb⟩
      have HB5 := Lib.hid hb
      have hv5 := boxed_below HV.out hb
      have hc5 := hv5.cell
      have HV5 := Lib.hid hv5
      have HO5 := Lib.hid (HO.out.later hb (Nat.le_refl _))
      have HT5 := Lib.hid ht
      have hpl : (strL (pre.map txP)).length = pre.length := by simp [strL]
      have hn6 : ((strL (pre.map txP)).length + 1) * 16 ≤ 140737488355328 := by rw [hpl]; omega
      have HOA := Lib.hid (show OwnT (w5.alloc (.cells #[.string tt] 9)) Z v (strL (pre.map txP)) from HO5.out.alloc _)
      have hws5 : W.heap.size ≤ w5.heap.size := hb.size
      have hZW : Z ≤ (w5.alloc (.cells #[.string tt] 9)).heap.size := by simp; omega
      clear hb ht hv5 e1 e2 e3 TK HV HO hpl
      gi_wp2_with (with_reducible refine wplT_appendIn Z v ?hs HOA.out ⟨w5.heap.size, 0, none⟩ tt ?hx (one_str w5 tt) hn6 hZW ?_)
      all_goals (try rfl)
      intro v6 w6 hO6 hsh hg6
      obtain ⟨g6, c6, rfl⟩ := hsh
      obtain ⟨a1, a2, a3, a4, a5⟩ := appended (E := strE) (S := Mine w.heap.size (T + 1) (T + 1 + 1)) HV5.out (by decide) HO5.out hO6 hg6 (fun j hj => ⟨by omega, by omega, by omega⟩) ⟨by omega, by omega, by omega⟩
      have c1 := a1.cell
      have f1 := a1.frozen
      have A2 := Lib.hid a2
      have A3 := Lib.hid a3
      have A4 := Lib.hid a4
      have A5 := Lib.hid a5
      clear a1 a2 a3 a4 a5 hO6 hg6 hc5
      gi_wp2
      refine ⟨(keepsFrom_below HB5.out).trans (A4.out.from _), (only_below HB5.out).trans A5.out, ⟨_, A2.out, ?_⟩, (HB.out.trans (HB5.out.mono HB.out.size)).trans (mine_below A5.out (by have := HB.out.size; omega)), Nat.le_trans hZs (Nat.le_trans hws5 A5.out.size)⟩
      have hss : strL ((pre ++ [((s, kd), (nm, tx))]).map txP) = strL (pre.map txP) ++ [tt] := by
        unfold strL
        rw [List.map_append, List.map_append, HT5.out.eq]
        rfl
      rw [hss]
      exact A3.out
    · rintro D W hD ⟨⟨v, hv, hO⟩, hB, _⟩ hK
      have hc := hv.cell
      have hpl : (strL ((cs.zip rs).map txP)).length = cs.length := by simp [strL]; omega
      have hdat : (strL ((cs.zip rs).map txP)).map (·.data.toList) = (cs.zip rs).map txP := strL_data _
      have hj := lib_Join v (strL ((cs.zip rs).map txP)) W (OwnT.rd hO (by rw [hpl]; omega)) (by rw [hpl]; omega) (by rw [hdat]; have := HSM.out; unfold textR at this; omega)
      rw [hdat] at hj
      obtain ⟨tt, htt⟩ : ∃ tt : ByteArray, tt = ⟨(Lib.join ((cs.zip rs).map txP) [44]).toArray⟩ := ⟨_, rfl⟩
      rw [← htt] at hj
      have HJ := Lib.hid hj
      have HTT := Lib.hid htt
      have HB := Lib.hid hB
      have HD := Lib.hid hK
      clear hv hO hj htt hB hK hdat hpl
      gi_wp2_with fail
      refine ⟨trivial, ?_⟩
      gi_at_call 32
      refine (callsIn_wide.2 HJ.out).mono ?_
      rintro e w5 ⟨rfl, hb⟩
      have HB5 := Lib.hid hb
      have hK5 : w5.heap[D]? = some (.deferred (some [])) := (hb.block D (Array.getElem?_eq_some_iff.1 HD.out).1).trans HD.out
      have HD5 := Lib.hid hK5
      clear hb hK5 hc
      gi_wp2
      refine ⟨by simp, .inl ⟨_, _, rfl, run_takeDeferred HD5.out, ?_⟩⟩
      refine ⟨.tuple #[.string tt, .int .i64 0], by simp [results, Tryz.results18, go_sem], tt, by rw [HX.out]; rfl, ?_, .inr ⟨HX.out, ?_⟩⟩
      · exact (HB.out.trans (HB5.out.mono HB.out.size)).trans (belowK_b (w := w) (Nat.le_refl _) _ D _ _ (by omega) HD5.out rfl rfl)
      · refine ⟨HTT.out, ?_⟩
        have := HSM.out; omega
    · rintro D c k W _ _ h _
      exact h.elim
  · have hne : errRow cs rs ≠ 0 := by omega
    have HX := Lib.hid (show errRow cs rs = x from hx.symm)
    have q : ((x : Int) != 0) = true := by rw [bne_iff_ne]; omega
    have HN := Lib.hid hne
    clear hx hne
    go_enter Tryz.func18, Tryz.ntmps18
    go_wp2_with fail
    refine CA.out.mono ?_
    rintro e w1 ⟨rfl, hb⟩
    have HB1 := Lib.hid hb
    clear hb
    go_wp2
    go_ret2
    exact ⟨_, by rw [HX.out]; rfl, HB1.out, .inl ⟨HN.out, rfl⟩⟩

end Go.Proofs.YtkljkpffpdpphaaGreatDoor

