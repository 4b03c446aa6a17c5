/-
  ReaderBack: numbers and bytes that were put, one behind the other, are taken; without the last byte it ends at the last one of them: the function that reads.
-/
import Derived.Test.YtojjfocnkdijpaaReaderMath
import Derived.Test.YtojjfocnkdijpaaReaderAlive
import Derived.Test.YtojjfocnkdijpaaOrdR
import Derived.Test.YtojjfocnkdijpaaDeep
set_option linter.unusedVariables false
set_option linter.unusedSimpArgs false
namespace Go.Proofs.Ytojjfocnkdijpaa
open Go.RowKit

theorem Rd.only {S : Nat → Prop} {w w' : World} {v : Value} {l : List UInt8} (h : Rd w v l) (hO : Only S w w') (hS : ∀ i, i < l.length → ¬ S (adr v i).block) : Rd w' v l :=
  h.same fun i hi => hO.block _ (h.block hi) (hS i hi)
theorem RdI.only {S : Nat → Prop} {k : IntKind} {w w' : World} {v : Value} {l : List Int} (h : RdI k w v l) (hO : Only S w w') (hS : ∀ i, i < l.length → ¬ S (adr v i).block) : RdI k w' v l :=
  ⟨h.shape, fun i hi => (World.cell?_of_block (hO.block _ (h.block hi) (hS i hi))).trans (h.cells i hi), h.wf, h.small⟩
theorem RdL.only {S : Nat → Prop} {w w' : World} {v : Value} {us : Nat → Value} {ls : List (List UInt8)} (h : RdL w v us ls) (hO : Only S w w') (hS : ∀ i, i < ls.length → ¬ S (adr v i).block) (hU : ∀ j, j < ls.length → ∀ i, i < (ls.getD j []).length → ¬ S (adr (us j) i).block) : RdL w' v us ls :=
  ⟨h.shape, fun i hi => (World.cell?_of_block (hO.block _ (h.block hi) (hS i hi))).trans (h.cells i hi), fun j hj => (h.rds j hj).only hO (hU j hj), h.small⟩
theorem own_lt {w : World} {base : Nat} {v : Value} {l : List UInt8} (h : Own w base v l) {i : Nat} (hi : i < l.length) : base ≤ (adr v i).block := by
  obtain ⟨h0, h2⟩ := h
  rcases h2 with ⟨rfl, hn⟩ | ⟨g, cap, cur, rfl, hbg, _⟩
  · omega
  · simp only [adr, Addr.add]; split <;> exact hbg
theorem Only.keep' {S : Nat → Prop} {w w' : World} {j : Nat} {o : Obj} (hO : Only S w.drew w') (hj : w.heap[j]? = some o) (h : w.drew.heap[j]? = some o → w'.heap[j]? = some o) : w'.heap[j]? = some o := h hj
theorem way_only (S : Nat → Prop) : OrdR.Way (Only S) := ⟨fun w => Only.refl S w, fun _ _ _ h k => h.trans k⟩

instance (S : Nat → Prop) (w : World) : Nonempty (OrdR.GW (Only S) w) := ⟨⟨w, Only.refl S w⟩⟩

theorem zig_bound {x : Int} (h : (Lit.int .i64 x).wf = true) : zig x < 2 ^ 64 := by
  have := bd_i64 h
  exact zig_lt x this.1 this.2

/-- Where the reading ends, of the first n bytes of all. -/
def BackEnd (l : List Int) (t : List (List UInt8)) (n k x : Nat) : Prop :=
  (n = (pieces l t).flatten.length ∧ k = n ∧ x = 0) ∨ (x = 5 ∧ ∃ j, j < (pieces l t).length ∧ k = stOf (pieces l t) j ∧ k ≤ n ∧ n < stOf (pieces l t) (j + 1))

set_option maxHeartbeats 2000000 in
set_option maxRecDepth 20000 in
theorem back1 (lb gb tb g n : Nat) (vl vt v : Value) (us : Nat → Value) (l : List Int) (t : List (List UInt8)) (w : World)
    (hl : w.heap[lb]? = some (.cells #[vl] 47 (0, 0))) (hg : w.heap[gb]? = some (.cells #[.bool true] 4 (0, 0))) (ht : w.heap[tb]? = some (.cells #[vt] 48 (0, 0)))
    (hL : RdI .i64 w vl l) (hT : RdL w vt us t) (h300 : ∀ j, j < t.length → (t.getD j []).length ≤ 300) (hn : n ≤ (pieces l t).flatten.length) (hd : lb ≠ g ∧ gb ≠ g ∧ tb ≠ g ∧ lb ≠ gb ∧ tb ≠ gb)
    (hbL : ∀ i, i < l.length → (adr vl i).block ≠ g ∧ (adr vl i).block ≠ gb) (hbT : ∀ i, i < t.length → (adr vt i).block ≠ g ∧ (adr vt i).block ≠ gb) (hbU : ∀ j, j < t.length → ∀ i, i < (t.getD j []).length → (adr (us j) i).block ≠ g ∧ (adr (us j) i).block ≠ gb)
    (hbv : ∀ i, i < ((pieces l t).flatten.take n).length → (adr v i).block ≠ gb) (hR : Rdr w g v ((pieces l t).flatten.take n) 0) :
    Calls Try.prog 27 (#[.pointer (some ⟨g, 0, none⟩)] ++ #[.pointer (some ⟨lb, 0, none⟩), .pointer (some ⟨gb, 0, none⟩), .pointer (some ⟨tb, 0, none⟩)]) w fun e w' =>
      Only (fun j => j = g ∨ j = gb) w w' ∧ w'.heap[gb]? = some (.cells #[.bool true] 4 (0, 0)) ∧ ∃ k x, Went g v ((pieces l t).flatten.take n) k x e w' ∧ BackEnd l t n k x := by
  obtain ⟨d1, d2, d3, d4, d5⟩ := hd
  have hlen := hL.len Try.underlying47
  have hidx := hL.idx Try.underlying47 (by kernel_rfl)
  have hlen2 := hT.len
  have hidx2 := hT.idx
  have hsm := hL.small
  have hsm2 := hT.small
  have hway := way_only (fun j => j = g ∨ j = gb)
  have L0 := cell_of_one hl
  have HLB := Lib.hid hl
  have HTB := Lib.hid ht
  have HG0 := Lib.hid hg
  have HL := Lib.hid hL
  have HT := Lib.hid hT
  have H300 := Lib.hid h300
  have hpl := Lib.hid (pieces_length l t)
  have hst0 := Lib.hid (stOf_zero (pieces l t))
  clear hl ht hg hL hT h300
  go_enter Try.func27, Try.ntmps27
  go_wp2
  go_loopw [11] (fun i wr => ∃ j : Nat, j ≤ l.length ∧ i = .int .i64 j ∧ Hid (stOf (pieces l t) j ≤ n) ∧ Hid (Rdr wr g v ((pieces l t).flatten.take n) (stOf (pieces l t) j)) ∧ Hid (wr.heap[gb]? = some (.cells #[.bool true] 4 (0, 0))) ∧ Hid (Only (fun j => j = g ∨ j = gb) w wr)) (fun i _ => l.length - (intOf i).toNat)
  case atStart => exact ⟨0, by omega, rfl, Lib.hid (by rw [hst0.out]; omega), Lib.hid (by rw [hst0.out]; exact hR), HG0, Lib.hid (Only.refl _ _)⟩
  case round =>
    obtain ⟨j, hj, rfl, HJ, HR, HG, HO⟩ := hrel
    have G0 := cell_of_one HG.out
    have G1 := free_of_one HG.out
    by_cases hlt : j < l.length
    · have hc := (HL.out.only HO.out (fun i hi => by have := hbL i hi; omega)).cells j hlt
      have hx := zig_bound (HL.out.mem hlt)
      have hjp : j < (pieces l t).length := by have := hpl.out; omega
      have hpc : (pieces l t).getD j [] = encU (zig (atI l j)) := pieces_num hlt
      have HX := Lib.hid (show atI l j = atI l j from rfl)
      by_cases hst : stOf (pieces l t) (j + 1) ≤ n
      · have hp := rdU_piece (most := 18446744073709551615) hx (by omega) hjp hpc hst
        have HP := Lib.hid hp
        have hzz := zag_zig (atI l j)
        clear hp hpc hx
        generalize atI l j = X at *
        go_wp2_with fail
        refine (reader_Int _ _ _ _ _ HR.out).mono ?_
        rintro e w1 h
        rw [HP.out] at h
        obtain ⟨rfl, hg1, hR1⟩ := h.ok rfl
        dsimp only at hR1 ⊢
        rw [hzz]
        have hgd1 := hg1.keep HG.out d2
        have g0 := cell_of_one hgd1
        have g1 := free_of_one hgd1
        have HR2 := Lib.hid (hR1.setVar (p := ⟨gb, 0, none⟩) d2 hbv (.bool true))
        have HG2 := Lib.hid (one_setCell (u := .bool true) hgd1)
        have HO2 := Lib.hid ((HO.out.grown hg1 (.inl rfl)).setCell (p := ⟨gb, 0, none⟩) (.inr rfl) (.bool true))
        have HS := Lib.hid hst
        clear h hg1 hR1 hgd1 hst G0 G1 hzz
        go_wp2
        go_roundw
        case rel => exact ⟨j + 1, by omega, by go_num, HS, HR2, HG2, HO2⟩
        case measure => simp [intOf]; omega
      · have hp := rdU_short (most := 18446744073709551615) hx hjp hpc HJ.out (by omega)
        have HP := Lib.hid hp
        have HN := Lib.hid (show n < stOf (pieces l t) (j + 1) by omega)
        clear hp hpc hx hst
        generalize atI l j = X at *
        go_wp2_with fail
        refine (reader_Int _ _ _ _ _ HR.out).mono ?_
        rintro e w1 h
        rw [HP.out] at h
        obtain ⟨rfl, hg1, hR1⟩ := h.no (by simp)
        have HG2 := Lib.hid (hg1.keep HG.out d2)
        have HO2 := Lib.hid (HO.out.grown hg1 (.inl rfl))
        clear h hg1
        go_wp2
        exact ⟨rfl, HO2.out, HG2.out, _, _, .inr ⟨by decide, rfl, hR1⟩, .inr ⟨rfl, j, hjp, rfl, HJ.out, HN.out⟩⟩
    · obtain rfl : j = l.length := by omega
      have ht2 := HO.out.keep HTB.out (by omega)
      have T0 := cell_of_one ht2
      clear ht2
      go_wp2_with fail
      go_loopw [25] (fun i wr2 => ∃ j : Nat, j ≤ t.length ∧ i = .int .i64 j ∧ Hid (stOf (pieces l t) (l.length + j) ≤ n) ∧ Hid (Rdr wr2 g v ((pieces l t).flatten.take n) (stOf (pieces l t) (l.length + j))) ∧ Hid (wr2.heap[gb]? = some (.cells #[.bool true] 4 (0, 0))) ∧ Hid (Only (fun j => j = g ∨ j = gb) w wr2)) (fun i _ => t.length - (intOf i).toNat)
      case atStart => exact ⟨0, by omega, rfl, HJ, HR, HG, HO⟩
      case round =>
        clear HR HG HO HJ T0 G0 G1
        obtain ⟨j, hj, rfl, HJ, HR, HG, HO⟩ := hrel
        have G0 := cell_of_one HG.out
        have G1 := free_of_one HG.out
        by_cases hlt : j < t.length
        · have hT1 := HT.out.only HO.out (fun i hi => by have := hbT i hi; omega) (fun j hj i hi => by have := hbU j hj i hi; omega)
          have hc := hT1.cells j hlt
          have h3 := H300.out j hlt
          have hu := hT1.rds j hlt
          obtain ⟨b, hb⟩ : ∃ b, b = t.getD j [] := ⟨_, rfl⟩
          have hbu := hbU j hlt
          rw [← hb] at h3 hu hbu
          have hus : ∀ x : OrdR.GW (Only (fun j => j = g ∨ j = gb)) wr.drew, (convert 22 9 (us j)).run Try.prog x.val = .ok (.string ⟨b.toArray⟩) x.val := fun x => (hu.drew.only x.grew (fun i hi => by have := hbu i hi; omega)).str
          have hjp : l.length + j < (pieces l t).length := by have := hpl.out; omega
          have hpc : (pieces l t).getD (l.length + j) [] = encB b := by rw [hb]; exact pieces_bytes hlt
          have hbb : b.length < 2 ^ 63 := by omega
          have HB := Lib.hid hb
          clear hb hT1
          by_cases hst : stOf (pieces l t) (l.length + j + 1) ≤ n
          · have hp := rdB_piece (most := 300) hbb (by omega) hjp hpc hst
            have HP := Lib.hid hp
            clear hp hpc hbb
            go_wp2_with fail
            refine OrdR.wp_region_ord hway [(0, true), (1, false), (2, false), (5, false), (6, false), (3, true), (4, false), (7, false), (8, false), (9, true)] (by kernel_rfl) rfl (by kernel_rfl) (by kernel_rfl) (fun _ _ _ d _ h => by cases d <;> exact h) ?_
            refine OrdR.ord_loud rfl (by kernel_rfl) (fun K hK => ?_)
            go_big_op
            refine hK _ _ (hway.refl _) ?_
            clear hK K
            refine OrdR.ord_still rfl rfl (by kernel_rfl) (fun K hK => ?_)
            go_big_quiet_op
            refine hK _ ?_; clear hK K
            refine OrdR.ord_still rfl rfl (by kernel_rfl) (fun K hK => ?_)
            go_big_quiet_op
            refine hK _ ?_; clear hK K
            refine OrdR.ord_still rfl rfl (by kernel_rfl) (fun K hK => ?_)
            go_big_quiet_op
            refine hK _ ?_; clear hK K
            refine OrdR.ord_still rfl rfl (by kernel_rfl) (fun K hK => ?_)
            go_big_quiet_op
            refine hK _ ?_; clear hK K
            refine OrdR.ord_loud rfl (by kernel_rfl) (fun K hK => ?_)
            go_big_op
            refine (reader_Bytes _ _ _ _ _ HR.out.drew 300 (by decide)).mono ?_
            rintro e w1 ⟨vb, h, ho⟩
            rw [HP.out] at h ho
            obtain ⟨rfl, hg1, hR1⟩ := h.ok rfl
            have hO1 : Only (fun j => j = g ∨ j = gb) wr.drew w1 := (Only.refl _ _).grown hg1 (.inl rfl)
            have hob : Own w1 wr.drew.heap.size vb b := ho rfl
            have hrb : Rd w1 vb b := hob.rd (by omega)
            have hsb : ∀ x : OrdR.GW (Only (fun j => j = g ∨ j = gb)) w1, (convert 22 9 vb).run Try.prog x.val = .ok (.string ⟨b.toArray⟩) x.val := fun x => (hrb.only x.grew (fun i hi hS => by have := own_lt hob hi; have h1 := HR.out.lt; have h2 : gb < wr.heap.size := (Array.getElem?_eq_some_iff.1 HG.out).1; simp only [World.drew] at this; omega)).str
            have hgd1 : w1.heap[gb]? = some (.cells #[.bool true] 4 (0, 0)) := hO1.keep' HG.out (fun h => hg1.keep h (by omega))
            have G0 := cell_of_one hgd1
            have G1 := free_of_one hgd1
            refine hK _ _ hO1 ?_
            clear hK K
            refine OrdR.ord_still rfl rfl (by kernel_rfl) (fun K hK => ?_)
            go_big_quiet_op
            refine hK _ ?_; clear hK K
            refine OrdR.ord_still rfl rfl (by kernel_rfl) (fun K hK => ?_)
            go_big_quiet_op
            refine hK _ ?_; clear hK K
            refine OrdR.ord_still rfl rfl (by kernel_rfl) (fun K hK => ?_)
            go_big_quiet_op
            refine hK _ ?_; clear hK K
            refine OrdR.ord_loud rfl (by kernel_rfl) (fun K hK => ?_)
            go_big_op
            refine hK _ _ ((Only.refl _ _).setCell (p := ⟨gb, 0, none⟩) (.inr rfl) _) ?_
            clear hK K
            refine OrdR.ord_nil ?_
            have HR2 := Lib.hid (hR1.setVar (p := ⟨gb, 0, none⟩) d2 hbv (.bool true))
            have HG2 := Lib.hid (one_setCell (u := .bool true) hgd1)
            have HO2 := Lib.hid (((HO.out.drew).grown hg1 (.inl rfl)).setCell (p := ⟨gb, 0, none⟩) (.inr rfl) (.bool true))
            have HS := Lib.hid hst
            clear hR1 hgd1 hst G0 G1 hsb hrb hus hO1 ho hob h hg1
            go_wp2
            go_roundw
            case rel => exact ⟨j + 1, by omega, by go_num, HS, HR2, HG2, HO2⟩
            case measure => simp [intOf]; omega
          · have hp := rdB_short (most := 300) hbb (by omega) hjp hpc HJ.out (by omega)
            have HP := Lib.hid hp
            have HN := Lib.hid (show n < stOf (pieces l t) (l.length + j + 1) by omega)
            clear hp hpc hbb hst
            go_wp2_with fail
            refine OrdR.wp_region_ord hway [(0, true), (1, false), (2, false), (5, false), (6, false), (3, true), (4, false), (7, false), (8, false), (9, true)] (by kernel_rfl) rfl (by kernel_rfl) (by kernel_rfl) (fun _ _ _ d _ h => by cases d <;> exact h) ?_
            refine OrdR.ord_loud rfl (by kernel_rfl) (fun K hK => ?_)
            go_big_op
            refine hK _ _ (hway.refl _) ?_
            clear hK K
            refine OrdR.ord_still rfl rfl (by kernel_rfl) (fun K hK => ?_)
            go_big_quiet_op
            refine hK _ ?_; clear hK K
            refine OrdR.ord_still rfl rfl (by kernel_rfl) (fun K hK => ?_)
            go_big_quiet_op
            refine hK _ ?_; clear hK K
            refine OrdR.ord_still rfl rfl (by kernel_rfl) (fun K hK => ?_)
            go_big_quiet_op
            refine hK _ ?_; clear hK K
            refine OrdR.ord_still rfl rfl (by kernel_rfl) (fun K hK => ?_)
            go_big_quiet_op
            refine hK _ ?_; clear hK K
            refine OrdR.ord_loud rfl (by kernel_rfl) (fun K hK => ?_)
            go_big_op
            refine (reader_Bytes _ _ _ _ _ HR.out.drew 300 (by decide)).mono ?_
            rintro e w1 ⟨vb, h, ho⟩
            rw [HP.out] at h
            obtain ⟨rfl, hg1, hE1⟩ := h.no (by simp)
            have HG2 := Lib.hid (hg1.keep (w := wr.drew) HG.out d2)
            have HO2 := Lib.hid ((HO.out.drew).grown hg1 (.inl rfl))
            clear h hg1
            go_wp2
            exact ⟨rfl, HO2.out, HG2.out, _, _, .inr ⟨by decide, rfl, hE1⟩, .inr ⟨rfl, l.length + j, hjp, rfl, HJ.out, HN.out⟩⟩
        · obtain rfl : j = t.length := by omega
          have hall : stOf (pieces l t) (l.length + t.length) = (pieces l t).flatten.length := by rw [← hpl.out]; exact stOf_all _
          have HA := Lib.hid hall
          clear hall
          go_wp2
          go_end0
          have h1 := HA.out
          have h2 := HJ.out
          refine ⟨HO.out, HG.out, _, 0, .inl ⟨rfl, rfl, HR.out⟩, .inl ⟨by omega, by omega, rfl⟩⟩

end Go.Proofs.Ytojjfocnkdijpaa
