/-
  Layer 5's law: its example, and whether columns are too many.
-/
import Derived.Test.YtdegeifklchjaaaDoorSchParse
import Derived.Test.YtdegeifklchjaaaDoorSchWrite
import Derived.Test.YtdegeifklchjaaaDoorSchRefRead
import Derived.Test.YtdegeifklchjaaaDoorSchRefParse
import Derived.Test.YtdegeifklchjaaaDoorSchRead
import Derived.Test.YtdegeifklchjaaaDoorSchSame
import Derived.Test.YtdegeifklchjaaaDoorLawKit
import Derived.Lib.LaidU8T
import Derived.PinnedBridge
import Derived.Lay
import Derived.Handed
import Derived.OpenVars
import Derived.ShapedOpen
import Derived.Shelf.Vars
import Derived.Lib.SmallJoins
import Derived.Test.YtdegeifklchjaaaDoorTie
import Derived.Test.YtdegeifklchjaaaDoorCards
import Derived.LaidOnce
import Derived.SevenTiedAt
set_option linter.unusedVariables false
set_option linter.unusedSimpArgs false
set_option maxRecDepth 1000000
namespace Go.Proofs.YtdegeifklchjaaaDoor
open Go.RowKit Go.Shelf

/-- The example's text. -/
def exT : List UInt8 := [105, 100, 58, 105, 110, 116, 44, 110, 97, 109, 101, 58, 116, 101, 120, 116]
def exC : List Col := [([105, 100], 0), ([110, 97, 109, 101], 4)]
theorem exC_fine : errS exC = 0 := by decide +kernel
theorem exC_bytes : wrS exC = [2, 2, 105, 100, 0, 4, 110, 97, 109, 101, 4] := by decide +kernel
theorem exT_parts : prParts (cutL 44 exT) = some exC := by
  have e : cutL 44 exT = [[105, 100, 58, 105, 110, 116], [110, 97, 109, 101, 58, 116, 101, 120, 116]] := by decide +kernel
  rw [e]
  have h1 : prPart [105, 100, 58, 105, 110, 116] = some ([105, 100], 0) := by
    rw [prPart_cut, show Lib.cut [105, 100, 58, 105, 110, 116] [58] = ([105, 100], [105, 110, 116], true) by decide +kernel]
    dsimp only
    rw [kindI_eq]; rfl
  have h2 : prPart [110, 97, 109, 101, 58, 116, 101, 120, 116] = some ([110, 97, 109, 101], 4) := by
    rw [prPart_cut, show Lib.cut [110, 97, 109, 101, 58, 116, 101, 120, 116] [58] = ([110, 97, 109, 101], [116, 101, 120, 116], true) by decide +kernel]
    dsimp only
    rw [kindI_eq]; rfl
  rw [prParts, h1]; dsimp only
  rw [prParts, h2]; dsimp only
  rfl
theorem exT_pr : prS exT = (exC, 0) := by
  unfold prS
  rw [exT_parts]
  exact if_pos exC_fine

set_option maxHeartbeats 4000000 in
theorem law05_alive (w : World) (hT : Tabs w) (hX : Mx w) :
    Calls Tryd.prog 8 #[] w fun e w' => e = .returned (.bool true) ∧ Below w.heap.size w w' := by
  have hS : RdS ({ data := #[105, 100, 58, 105, 110, 116, 44, 110, 97, 109, 101, 58, 116, 101, 120, 116] } : ByteArray) exT := ⟨rfl, by unfold exT; simp⟩
  have HP := Lib.hid (schema_Parse _ exT w hS (by unfold exT; simp) hT hX)
  have HT := Lib.hid hT
  clear hS hX hT
  go_enter Tryd.func8, Tryd.ntmps8
  go_wp2_with fail
  refine HP.out.mono ?_
  rintro e w1 ⟨hb1, tv, cs, rfl, hO, hC, hl8, hcs⟩
  rw [exT_pr] at hcs
  rw [exT_pr]
  dsimp only at hcs ⊢
  have HW := schema_Write tv cs w1 (hO.rd (by omega)) hC (HT.out.later hb1)
  rw [hcs] at HW
  have HW := Lib.hid HW
  have HB1 := Lib.hid hb1
  clear hb1 hO hC hl8 hcs HP HT
  go_wp2_with fail
  refine HW.out.mono ?_
  rintro e w2 ⟨bv, rfl, hb2, hres⟩
  rw [exC_fine] at hres
  rw [exC_fine]
  rw [exC_bytes] at hres
  rcases hres with ⟨h, _⟩ | ⟨_, hO⟩
  · exact absurd rfl h
  have HB2 := Lib.hid (HB1.out.trans (hb2.mono HB1.out.size))
  have hR := hO.rd (by decide)
  have HR := Lib.hid hR
  clear hb2 hO HW
  have hstr := HR.out.str
  go_wp2
  go_ret
  exact ⟨rfl, HB2.out⟩

set_option maxHeartbeats 4000000 in
theorem law05_great (v : Value) (cs : List ColB) (w : World) (h : RdC w v cs) (hC : CS cs) :
    Calls Tryd.prog 9 #[v] w fun e w' => ∃ b, e = .returned (.bool b) ∧ Below w.heap.size w w' := by
  have hlen := h.len
  have hsm := h.small
  have HH := Lib.hid h
  obtain ⟨n, hn⟩ : ∃ n, n = cs.length := ⟨_, rfl⟩
  rw [← hn] at hlen hsm
  have HN := Lib.hid hn
  clear h hn
  go_enter Tryd.func9, Tryd.ntmps9
  go_wp2
  go_loopw [3, 8] (fun a i wr => ∃ (k : Nat) (x : Int), k ≤ n ∧ i = .int .i64 k ∧ a = .int .i64 x ∧ Hid (Below w.heap.size w wr)) (fun _ i _ => n - (intOf i).toNat)
  case atStart => exact ⟨0, 0, by omega, rfl, rfl, Lib.hid (Below.refl _ _)⟩
  case round =>
    obtain ⟨k, x, hk, rfl, rfl, HB⟩ := hrel
    by_cases hlt : k < n
    · have hr := HH.out.later HB.out (Nat.le_refl _)
      have hl2 : k < cs.length := by rw [← HN.out]; exact hlt
      obtain ⟨b, o, hidx, hcell, hblk⟩ := hr.get hl2
      obtain ⟨hc0, hc1⟩ := hcell _ hr
      obtain ⟨hs1, hk1, hk2⟩ := hC.get hl2
      rcases hcg : cs.getD k default with ⟨s, kd⟩
      rw [hcg] at hc0 hc1 hs1 hk1 hk2
      dsimp only at hc0 hc1 hs1 hk1 hk2
      have HB1 := Lib.hid (HB.out.alloc HB.out.size (.cells #[.string s, .int .i64 kd] 51))
      clear hr hcell hcg hl2 hblk
      go_wp2
      go_roundw
      case rel => exact ⟨k + 1, _, by omega, by go_num, rfl, HB1⟩
      case measure => simp [intOf]; omega
    · obtain rfl : k = n := by omega
      clear hlt
      go_wp2
      go_ret
      exact ⟨_, rfl, HB.out⟩

end Go.Proofs.YtdegeifklchjaaaDoor


/-
  SchemaReads: the law's own walk.
-/
namespace Go.Proofs.YtdegeifklchjaaaDoor
open Go.RowKit Go.Shelf

theorem colL_inj : ∀ {a b : ColB}, colL a = colL b → a = b
  | (a, x), (b, y), h => by
    unfold colL at h
    injection h with h1 h2
    dsimp only at h1 h2
    subst h2
    have e : a = b := by
      apply ByteArray.ext
      exact Array.toList_inj.1 h1
    rw [e]
theorem colsL_inj : ∀ {cs ds : List ColB}, colsL cs = colsL ds → cs = ds
  | [], [], _ => rfl
  | [], _ :: _, h => by simp [colsL] at h
  | _ :: _, [], h => by simp [colsL] at h
  | a :: r, b :: s, h => by
    unfold colsL at h
    rw [List.map_cons, List.map_cons] at h
    injection h with h1 h2
    rw [colL_inj h1, colsL_inj (cs := r) (ds := s) h2]

set_option maxHeartbeats 8000000 in
theorem schemaReads_walk (b : Value) (l : List UInt8) (t : ByteArray) (m : List UInt8) (w : World) (hR : Rd w b l) (hS : RdS t m) (hT : Tabs w) (hX : Mx w) :
    Calls Tryd.prog 4 #[b, .string t] w fun e w' => e = .returned (.bool true) ∧ Below w.heap.size w w' := by
  have hrl := hR.len
  have hsl := hS.len
  have HR := Lib.hid hR
  have HS := Lib.hid hS
  have HT := Lib.hid hT
  have HX := Lib.hid hX
  have hrs := hR.small
  have hss := hS.small
  clear hR hS hT hX
  go_enter Tryd.func4, Tryd.ntmps4
  go_wp2_with fail
  refine (law05_alive w HT.out HX.out).mono ?_
  rintro e w1 ⟨rfl, hb⟩
  have HB := Lib.hid hb
  clear hb
  by_cases hgo : l.length ≤ 2000 ∧ m.length ≤ 2000
  · obtain ⟨g1, g2⟩ := hgo
    have d1 : decide ((2000 : Int) < (l.length : Int)) = false := decide_eq_false (by omega)
    have d2 : decide ((2000 : Int) < (m.length : Int)) = false := decide_eq_false (by omega)
    go_wp2_with fail
    refine (schema_Read b l w1 (HR.out.later HB.out (Nat.le_refl _)) (HT.out.later HB.out)).mono ?_
    rintro e w2 ⟨hb, tv, cs, rfl, hO, hC, hl8, hcs⟩
    have HB2 := Lib.hid (HB.out.trans (hb.mono HB.out.size))
    have H1 := Lib.hid (hO.rd (by omega))
    have C1 := Lib.hid hcs
    clear hb hO hC hl8 hcs
    obtain ⟨n1, hn1⟩ : ∃ n1 : Int, n1 = ((rdTake l).2.1 : Int) := ⟨_, rfl⟩
    obtain ⟨e1, he1⟩ : ∃ e1 : Int, e1 = (readE l : Int) := ⟨_, rfl⟩
    rw [← hn1, ← he1]
    go_wp2_with fail
    refine (ref_Read05 b l w2 (HR.out.later HB2.out (Nat.le_refl _))).mono ?_
    rintro e w3 ⟨hb, uv, ds, rfl, hO, hC, hl8, hcs⟩
    rw [← hn1, ← he1]
    have HB3 := Lib.hid (HB2.out.trans (hb.mono HB2.out.size))
    have H1 := Lib.hid (H1.out.later hb (Nat.le_refl _))
    have H2 := Lib.hid (hO.rd (by omega))
    have E1 := Lib.hid (show decide (cs = ds) = true from decide_eq_true (colsL_inj (C1.out.trans hcs.symm)))
    clear hb hO hC hl8 hcs hn1 he1
    go_wp2_with fail
    refine (schema_Parse t m w3 HS.out (by omega) (HT.out.later HB3.out) (HX.out.later HB3.out (Nat.le_refl _))).mono ?_
    rintro e w4 ⟨hb, xv, xs, rfl, hO, hC, hl8, hcs⟩
    have HB4 := Lib.hid (HB3.out.trans (hb.mono HB3.out.size))
    have H1 := Lib.hid (H1.out.later hb (Nat.le_refl _))
    have H2 := Lib.hid (H2.out.later hb (Nat.le_refl _))
    have H3 := Lib.hid (hO.rd (by omega))
    have C3 := Lib.hid hcs
    clear hb hO hC hl8 hcs
    obtain ⟨e2, he2⟩ : ∃ e2 : Int, e2 = ((prS m).2 : Int) := ⟨_, rfl⟩
    rw [← he2]
    go_wp2_with fail
    refine (ref_Parse05 t m w4 HS.out (by omega)).mono ?_
    rintro e w5 ⟨hb, yv, ys, rfl, hO, hC, hl8, hcs⟩
    rw [← he2]
    have HB5 := Lib.hid (HB4.out.trans (hb.mono HB4.out.size))
    have H1 := Lib.hid (H1.out.later hb (Nat.le_refl _))
    have H2 := Lib.hid (H2.out.later hb (Nat.le_refl _))
    have H3 := Lib.hid (H3.out.later hb (Nat.le_refl _))
    have H4 := Lib.hid (hO.rd (by omega))
    have E2 := Lib.hid (show decide (xs = ys) = true from decide_eq_true (colsL_inj (C3.out.trans hcs.symm)))
    clear hb hO hC hl8 hcs he2
    go_wp2_with fail
    refine (ref_Same _ _ cs ds w5 H1.out H2.out).mono ?_
    rintro e w6 ⟨rfl, hb⟩
    rw [E1.out]
    have HB6 := Lib.hid (HB5.out.trans (hb.mono HB5.out.size))
    have H3 := Lib.hid (H3.out.later hb (Nat.le_refl _))
    have H4 := Lib.hid (H4.out.later hb (Nat.le_refl _))
    clear hb
    go_wp2_with fail
    refine (ref_Same _ _ xs ys w6 H3.out H4.out).mono ?_
    rintro e w7 ⟨rfl, hb⟩
    rw [E2.out]
    have HB7 := Lib.hid (HB6.out.trans (hb.mono HB6.out.size))
    clear hb
    go_wp2
    go_ret
    exact ⟨rfl, HB7.out⟩
  · have HF := Lib.hid (fun wz (hz : Below w.heap.size w wz) (hz2 : True) => (law05_alive wz (HT.out.later hz) (HX.out.later hz (Nat.le_refl _))))
    by_cases g1 : l.length ≤ 2000
    · have g2 : ¬ m.length ≤ 2000 := fun h => hgo ⟨g1, h⟩
      have d1 : decide ((2000 : Int) < (l.length : Int)) = false := decide_eq_false (by omega)
      have d2 : decide ((2000 : Int) < (m.length : Int)) = true := decide_eq_true (by omega)
      clear hgo
      go_wp2_with fail
      refine (HF.out w1 HB.out trivial).mono ?_
      rintro e w2 ⟨rfl, hb⟩
      have HB2 := Lib.hid (HB.out.trans (hb.mono HB.out.size))
      clear hb
      go_wp2
      go_ret
      exact ⟨rfl, HB2.out⟩
    · have d1 : decide ((2000 : Int) < (l.length : Int)) = true := decide_eq_true (by omega)
      clear hgo
      go_wp2_with fail
      refine (HF.out w1 HB.out trivial).mono ?_
      rintro e w2 ⟨rfl, hb⟩
      have HB2 := Lib.hid (HB.out.trans (hb.mono HB.out.size))
      clear hb
      go_wp2
      go_ret
      exact ⟨rfl, HB2.out⟩

end Go.Proofs.YtdegeifklchjaaaDoor


/-
  What the frames of layer 5's laws want: the library's tables, as the row lists them; the library's number, out of the world's shape; a string, a slice of columns that came in.
-/
namespace Go.Proofs.YtdegeifklchjaaaDoor
open Go.ChangeShapes Go.WideShapes Go.ChangeAt Go.RowKit Go.Shelf

theorem u8Extra : U8Extra Tryd.prog Tryd.laysValid_ren := ⟨by kernel_rfl, by kernel_rfl, by kernel_rfl, by kernel_rfl, by kernel_rfl, by kernel_rfl, by kernel_rfl⟩
theorem accept_eq : (Rows.laid_unicode_utf8_acceptRanges : DataW Unit) = Lib.acceptData := by kernel_rfl
/-- The tables, out of what the row lists. -/
theorem tabs_of {W : World} (h1 : Lib.VarReads Tryd.prog W "unicode/utf8.first" Rows.laid_unicode_utf8_first) (h2 : Lib.VarReads Tryd.prog W "unicode/utf8.acceptRanges" Rows.laid_unicode_utf8_acceptRanges) : Tabs W :=
  utf8Tabs_of_readsT (U8Types.of196 Tryd.laysValid) u8Extra (Pinned.utf8First_eq ▸ h1) (accept_eq ▸ h2)
/-- The library's number, out of the world's shape. -/
theorem mx_of {W : World} (h : W.ShapedOpen Tryd.prog) : Mx W :=
  cell_of_shapedOpen_int (g := Tryd.laysSplit_ren.g 1) (t := 3) (zero := #[.int .i64 0]) h (of_decide_eq_true (by kernel_rfl)) (by kernel_rfl) rfl (by kernel_rfl) (by kernel_rfl) Tryd.underlying3

section
variable {H : Type} {enc : TypeId × Value → H} {W : World}

theorem str_open {base : Nat} {v : Value} {d : DataW H} {ps : List MemPlace} {ts : List TypeId} {ds : List (DataW H)} {j : Nat} (hval : Value.okWide Tryd.prog W .any base 9 v)
    (h : DataW.Trod enc Tryd.prog W 0 (fun _ => true) true 9 v d ps) (hz : (DataW.weightsEach Tryd.prog ts ds).all (· ≤ reachBytes) = true) (ht : ts[j]? = some 9) (hd : ds[j]? = some d) : ∃ (s : ByteArray) (l : List UInt8), v = .string s ∧ RdS s l := by
  obtain ⟨s, rfl, rfl, rfl, hs⟩ := Go.ChangeMaps.open_string Tryd.underlying9 hval h
  have := sized_string hz ht hd
  exact ⟨s, _, rfl, ⟨rfl, by simpa [reachBytes] using this⟩⟩

/-- A law's frame that hands on the world's shape, beside what the row lists. -/
theorem returns_shaped {a : Assume} {C : Checked} {os : Os} {f : FuncId} {fn : Func} {s : ChangeSpec} {conds : List PathCond} {apart fresh handsOn again : Bool} {X : World → Array Value → Prop}
    (hX : ∀ (w w' : World) (args : Array Value), w.heap = w'.heap → X w args → X w' args)
    (own : ownKnob C.prog.godebug = none) (started : os.Started) (noInit : C.prog.inits.idxOf? f = none) (hfn : C.prog.funcs[f]? = some fn)
    (witness : ∃ (w : World) (tape : Tape) (i : Input), w.os = os ∧ (w.forCall tape i).Shaped C.prog ∧ i.vars = [] ∧ Input.okWide C.prog (w.forCall tape i) .any w.heap.size f i ∧
      ((s.pre enc C.prog fn conds apart (w.forCall tape i).memory i.args ∧ X (w.forCall tape i).memory i.args) ∧ sizedMet enc C.prog fn (OpenSpec.ofChange s) apart (w.forCall tape i).memory i.args) ∧ a.holds C.prog (lone (Frame.enter C.prog f i.args .normal) [] (w.forCall tape i)))
    (contract : ∀ (W : World) (base : Nat) (args : Array Value) (ds gs : List (DataW H)) (before : List MemPlace),
      (∀ (j : Nat) t v, fn.params[j]? = some t → args[j]? = some v → Value.okWide C.prog W .any base t v) →
      DataW.Whole enc C.prog fn.params.toList s.vars apart W args.toList ds gs before →
      (DataW.weightsEach C.prog (fn.params.toList ++ s.plain.varTypes C.prog) (ds ++ gs)).all (· ≤ reachBytes) = true → X W args → W.ShapedOpen C.prog →
      Calls C.prog f args W fun e W' => ∃ v, e = .returned v ∧ s.post enc C.prog fn apart fresh handsOn again W args v W') :
    ReturnsInHanded a C os f .any (fun w args => (s.pre enc C.prog fn conds apart w args ∧ X w args) ∧ sizedMet enc C.prog fn (OpenSpec.ofChange s) apart w args) (s.post enc C.prog fn apart fresh handsOn again) := by
  refine returnsInHanded_of_calls own started noInit witness ?_
  intro w tape i _ hsh _ hok hpre _
  obtain ⟨_, _, _, fn2, hf2, _, _, _, _, hval⟩ := hok
  obtain rfl : fn2 = fn := Option.some.inj (hf2.symm.trans hfn)
  obtain ⟨⟨⟨ds, gs, before, hw, _⟩, hx⟩, hz⟩ := hpre
  refine (contract (w.forCall tape i) w.heap.size i.args ds gs before hval (DataW.Whole.of_heap (w' := w.forCall tape i) (by rfl) hw) (hz.weights hw) (hX _ _ _ (by rfl) hx) hsh).mono fun e W' ⟨v, he, hp⟩ => ?_
  subst he
  exact ChangeSpec.post_blind hp
end

end Go.Proofs.YtdegeifklchjaaaDoor


/-
  SchemaReads: of any bytes the schema is the document's, or where and why there is none; of any text the schema, or why there is none. For every input.
-/
namespace Go.Proofs.YtdegeifklchjaaaDoor.schemaReads
open Go.ChangeShapes Go.WideShapes Go.ChangeAt Go.RowKit

set_option maxRecDepth 1000000 in
theorem lifted (os : Os) (started : os.Started) (H : Type) (enc : TypeId × Value → H) :
    ReturnsInHanded {} Tryd.checked os 4 .any (fun w args => (Rows.schemaReadsSpec.pre enc Tryd.prog Tryd.f4 [] false w args ∧ laidMetH Tryd.prog Rows.schemaReadsRow.laid w) ∧ sizedMet enc Tryd.prog Tryd.f4 (OpenSpec.ofChange Rows.schemaReadsSpec) false w args)
      (Rows.schemaReadsSpec.post enc Tryd.prog Tryd.f4 false true false false) := by
  refine returns_shaped (C := Tryd.checked) (X := fun w _ => laidMetH Tryd.prog Rows.schemaReadsRow.laid w) (fun _ _ _ hh h => h.of_heap hh) own started (by kernel_rfl) Tryd.func4
    (ChangeSpec.witness_shaped (enc := enc) (C := Tryd.checked) (os := os) (X := fun w _ => laidMetH Tryd.prog Rows.schemaReadsRow.laid w) false (World.laidAll Tryd.prog os Rows.schemaReadsRow.laid) #[.slice none 0 0, .string ⟨#[]⟩] 8 (World.laidAll_os _ _ _)
      (World.shaped_of_ZipB (by kernel_rfl) (by kernel_rfl)) (by kernel_rfl) (by kernel_rfl) (by kernel_rfl)
      (by rw [MakeChecks.laidMetH_plain _ _ _ (by kernel_rfl)]; exact laidMet_laidAll _ (by kernel_rfl) (by kernel_rfl))) ?_
  intro W base args ds gs before hval0 hW hsz0 hL0 hsh
  have hL := hL0
  rw [MakeChecks.laidMetH_plain _ _ _ (by kernel_rfl)] at hL
  have hT : Tabs W := tabs_of (Lib.laidMet.reads hL (.tail _ (.head _))) (Lib.laidMet.reads hL (.head _))
  have hX := mx_of hsh
  have hsz : (DataW.weightsEach Tryd.prog (Tryd.f4.params.toList ++ Rows.schemaReadsSpec.plain.varTypes Tryd.prog) (ds ++ gs)).all (· ≤ reachBytes) = true := hsz0
  have hval : ∀ (j : Nat) t v, Tryd.f4.params[j]? = some t → args[j]? = some v → Value.okWide Tryd.prog W .any base t v := hval0
  have hW' := hW
  obtain ⟨p, q, hA0, hV, rfl, hfz, hnd⟩ := hW
  have hA : DataW.TrodAll enc Tryd.prog W 0 (fun _ => true) true Tryd.f4.params.toList args.toList ds p := hA0
  rw [Tryd.params4] at hA hval hsz
  obtain ⟨v0, vs0, d0, ds0, p0, q0, hargs, rfl, rfl, h0, r0⟩ := trodAll_cons hA
  obtain ⟨v1, vs1, d1, ds1, p1, q1, rfl, rfl, rfl, h1, r1⟩ := trodAll_cons r0
  obtain ⟨rfl, rfl, rfl⟩ := trodAll_nil r1
  obtain rfl : args = #[v0, v1] := by cases args; simp_all
  obtain ⟨rfl, rfl⟩ := trodVars_none hV
  have k0 := h0
  have lt0 : ∀ x ∈ p0, x.block < W.heap.size := by obtain ⟨m, hm⟩ := k0; exact DataW.trod_lt m _ _ _ hm
  obtain ⟨l0, w0⟩ := rd_open (hval 0 25 v0 rfl rfl) h0 hsz (j := 0) rfl rfl
  have k1 := h1
  have lt1 : ∀ x ∈ p1, x.block < W.heap.size := by obtain ⟨m, hm⟩ := k1; exact DataW.trod_lt m _ _ _ hm
  obtain ⟨s1, l1, rfl, hs1⟩ := str_open (hval 1 9 v1 rfl rfl) h1 hsz (j := 1) rfl rfl
  clear hA0 hval0 hsz0
  refine (schemaReads_walk v0 l0 s1 l1 W w0 hs1 hT hX).mono fun e W' ⟨he, bel⟩ => ?_
  subst he
  exact ⟨_, rfl, _, _, _, [], _, [], hW', trodAll_mk1 (shut_bool Tryd.underlying4 _), (trodAll_cons_mk (Below.trod laidOut (by kernel_rfl) (of_decide_eq_true (by kernel_rfl)) k0 bel lt0) (trodAll_cons_mk (Below.trod laidOut (by kernel_rfl) (of_decide_eq_true (by kernel_rfl)) k1 bel lt1) trodAll_mk0)), rfl, bel.frame _, fun h => by cases h⟩

theorem over : Rows.schemaReadsRow.holds Tryd.pinned (OpenSpec.ofChange Rows.schemaReadsSpec) :=
  OpenClaim.holds_of_wide 4 Tryd.f4 rfl rfl rfl rfl rfl rfl rfl ⟨rfl, rfl, rfl, rfl, rfl⟩ rfl rfl rfl rfl rfl (by kernel_rfl) Tryd.func4 (by kernel_rfl)
    (of_decide_eq_true (by kernel_rfl)) (by unfold Func.isWrapper; first | (rw [if_pos (by decide +kernel)]; kernel_rfl) | (rw [if_neg (by decide +kernel)]; exact ⟨rfl, rfl⟩))
    (fun os started H enc _ => lifted os started H enc)

theorem proved : Rows.SchemaReadsCardSaid :=
  Claim7.holds_tied_plain_at .later [] _ _ _ _ over (fun _ h => by cases h) (by kernel_rfl) (fun _ h => by cases h) schemaReads_row_tie rfl ⟨rfl, rfl⟩ (by kernel_rfl) rfl
    (fun f fn hf hfn => by
      obtain rfl : f = 4 := Option.some.inj ((show Tryd.prog.funcNamed "deckle/decklelaw05.SchemaReads" = some 4 by kernel_rfl).symm.trans hf) |>.symm
      obtain rfl : fn = Tryd.f4 := (Option.some.inj (Tryd.func4.symm.trans hfn)).symm
      exact ⟨by kernel_rfl, fun j t ht => by
        rw [Tryd.params4] at ht
        have hm : t ∈ [25, 9] := by simpa using Array.mem_of_getElem? ht
        have hall : ([25, 9].all fun u => !Tryd.prog.wantsStandIn u) = true := by kernel_rfl
        exact (show Tryd.prog.wantsStandIn t = false by simpa using List.all_eq_true.1 hall t hm)⟩)
    (by kernel_rfl)
#print axioms proved
end Go.Proofs.YtdegeifklchjaaaDoor.schemaReads

