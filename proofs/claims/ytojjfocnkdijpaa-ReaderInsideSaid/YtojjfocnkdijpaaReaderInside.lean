/-
  ReaderInside: a Run within another one ends by itself, and not the outer one; where each ended is within its bytes. For every input.
-/
import Derived.Test.YtojjfocnkdijpaaReaderAlive
import Derived.Test.YtojjfocnkdijpaaNums
set_option linter.unusedVariables false
set_option linter.unusedSimpArgs false
namespace Go.Proofs.Ytojjfocnkdijpaa
open Go.RowKit

/-- Where the inner one ends, and why. -/
def insK (n ln : Nat) : Nat := if n % 10 ≤ ln then n % 10 else ln
def insX (n ee ln : Nat) : Nat := if n % 10 ≤ ln then 1 + ee % 17 else 5

set_option maxHeartbeats 1000000 in
set_option maxRecDepth 20000 in
theorem inside2 (nb eb g nn ee : Nat) (v : Value) (l : List UInt8) (w : World) (hn : w.heap[nb]? = some (.cells #[.int .u8 (nn : Int)] 5 (0, 0))) (he : w.heap[eb]? = some (.cells #[.int .u8 (ee : Int)] 5 (0, 0)))
    (hnn : nn < 256) (hee : ee < 256) (hd : nb ≠ g ∧ eb ≠ g) (hR : Rdr w g v l 0) :
    Calls Try.prog 29 (#[.pointer (some ⟨g, 0, none⟩)] ++ #[.pointer (some ⟨nb, 0, none⟩), .pointer (some ⟨eb, 0, none⟩)]) w fun e w' =>
      Only (fun j => j = g) w w' ∧ Went g v l (insK nn l.length) (insX nn ee l.length) e w' := by
  obtain ⟨d1, d2⟩ := hd
  have hsm := hR.rd.small
  have n0 := cell_of_one hn
  have HN := Lib.hid hn
  have HE := Lib.hid he
  obtain ⟨kk, hkk⟩ : ∃ kk, kk = nn % 10 := ⟨_, rfl⟩
  have hmod : (nn : Int) % 10 = (kk : Int) := by omega
  have hk10 : kk < 10 := by omega
  have HKK := Lib.hid hkk
  clear hn he hkk
  go_enter Try.func29, Try.ntmps29
  go_wp2
  go_loopw [6] (fun i wr => ∃ j : Nat, j ≤ kk ∧ j ≤ l.length ∧ i = .int .u8 j ∧ Hid (Rdr wr g v l j) ∧ Hid (Only (fun j => j = g) w wr)) (fun i _ => kk - (intOf i).toNat)
  case atStart => exact ⟨0, by omega, by omega, rfl, Lib.hid hR, Lib.hid (Only.refl _ _)⟩
  case round =>
    obtain ⟨j, hj, hjl, rfl, HR, HO⟩ := hrel
    by_cases hlt : j < kk
    · by_cases hl : j < l.length
      · go_wp2_with fail
        refine (reader_Byte _ _ _ _ _ HR.out).mono ?_
        rintro e w1 h
        obtain ⟨rfl, hg1, hR1⟩ := h.ok (if_pos hl)
        rw [if_pos hl] at hR1
        have HR1 := Lib.hid hR1
        clear h hR1
        go_wp2
        go_roundw
        case rel => exact ⟨_, _, _, _, _, ⟨j + 1, by omega, by omega, rfl, HR1, Lib.hid (HO.out.grown hg1 rfl)⟩, by rw [hmod, show ((j + 1 : Nat) : Int) = (j : Int) + 1 from by omega]⟩
        case measure => simp [intOf]; omega
      · obtain rfl : j = l.length := by omega
        go_wp2_with fail
        refine (reader_Byte _ _ _ _ _ HR.out).mono ?_
        rintro e w1 h
        obtain ⟨rfl, hg1, hR1⟩ := h.no (by rw [if_neg hl]; decide)
        rw [if_neg hl, if_neg hl] at hR1
        simp only [if_neg hl]
        have HR1 := Lib.hid hR1
        clear h hR1
        go_wp2
        have e1 : insK nn l.length = l.length := if_neg (by have := HKK.out; omega)
        have e2 : insX nn ee l.length = 5 := if_neg (by have := HKK.out; omega)
        rw [e1, e2]
        exact ⟨rfl, HO.out.grown hg1 rfl, .inr ⟨by decide, rfl, HR1.out⟩⟩
    · obtain rfl : j = kk := by omega
      have he2 := HO.out.keep HE.out (by exact d2)
      have e0 := cell_of_one he2
      obtain ⟨m, hm0⟩ : ∃ m, m = 1 + ee % 17 := ⟨_, rfl⟩
      have hm : (1 + (ee : Int) % 17) = (m : Int) := by omega
      have hm1 : m < 256 := by omega
      have hm2 : m ≠ 0 := by omega
      have HM := Lib.hid hm0
      clear hm0 he2
      go_wp2_with fail
      refine (reader_Must _ _ _ _ _ HR.out false m).mono ?_
      rintro e w1 h
      obtain ⟨rfl, hg1, hE1⟩ := h.no (by simpa using hm2)
      clear h
      go_wp2
      have e1 : insK nn l.length = j := by unfold insK; rw [← HKK.out, if_pos hjl]
      have e2 : insX nn ee l.length = m := by unfold insX; rw [← HKK.out, if_pos hjl, HM.out]
      rw [e1, e2]
      exact ⟨rfl, HO.out.grown hg1 rfl, .inr ⟨hm2, rfl, hE1⟩⟩

theorem enters_inside2 (args : Array Value) (u : World) : (callFunc 29 args).run Try.prog u = .ok (.enter 29 args) u := enters_fn Try.func29 (by kernel_rfl) rfl args u
theorem enters_inside1 (args : Array Value) (u : World) : (callFunc 28 args).run Try.prog u = .ok (.enter 28 args) u := enters_fn Try.func28 (by kernel_rfl) rfl args u

set_option maxHeartbeats 2000000 in
set_option maxRecDepth 20000 in
theorem inside1 (bb nb eb ib xb wb ab g nn ee : Nat) (v v2 : Value) (l l2 : List UInt8) (w : World)
    (hb : w.heap[bb]? = some (.cells #[v2] 22 (0, 0))) (hn : w.heap[nb]? = some (.cells #[.int .u8 (nn : Int)] 5 (0, 0))) (he : w.heap[eb]? = some (.cells #[.int .u8 (ee : Int)] 5 (0, 0)))
    (hi : w.heap[ib]? = some (.cells #[.int .i64 0] 3 (0, 0))) (hx : w.heap[xb]? = some (.cells #[.int .i64 0] 28 (0, 0))) (hw : w.heap[wb]? = some (.cells #[.bool false] 4 (0, 0))) (ha : w.heap[ab]? = some (.cells #[v] 22 (0, 0)))
    (hnn : nn < 256) (hee : ee < 256) (hd : (ib < g ∧ xb < g ∧ wb < g ∧ ab < g ∧ nb < g ∧ eb < g) ∧ ib ≠ xb ∧ ib ≠ wb ∧ xb ≠ wb ∧ ab ≠ ib ∧ ab ≠ xb ∧ ab ≠ wb) (hv : ∀ i, i < l.length → (adr v i).block ≠ ib ∧ (adr v i).block ≠ xb ∧ (adr v i).block ≠ wb) (h2 : Rd w v2 l2) (hR : Rdr w g v l 0) :
    Calls Try.prog 28 (#[.pointer (some ⟨g, 0, none⟩)] ++ #[.pointer (some ⟨bb, 0, none⟩), .pointer (some ⟨nb, 0, none⟩), .pointer (some ⟨eb, 0, none⟩), .pointer (some ⟨ib, 0, none⟩), .pointer (some ⟨xb, 0, none⟩), .pointer (some ⟨wb, 0, none⟩), .pointer (some ⟨ab, 0, none⟩)]) w fun e w' =>
      Only (fun j => j = g ∨ j = ib ∨ j = xb ∨ j = wb) w w' ∧ w'.heap[ib]? = some (.cells #[.int .i64 (insK nn l2.length : Nat)] 3 (0, 0)) ∧ w'.heap[xb]? = some (.cells #[.int .i64 (insX nn ee l2.length : Nat)] 28 (0, 0)) ∧ w'.heap[wb]? = some (.cells #[.bool true] 4 (0, 0)) ∧
      Went g v l l.length 0 e w' := by
  have hmf : ∀ (fn : Fn) (first cap : Array Value) (w : World), (Instr.makeFunc fn first cap).run Try.prog w = .ok (.func fn first cap) w := fun _ _ _ _ => rfl
  obtain ⟨⟨g1, g2, g3, g4, g5, g6⟩, d1, d2, d3, d4, d5, d6⟩ := hd
  have hgl := hR.lt
  have hsm := hR.rd.small
  have b0 := cell_of_one hb
  have HN := Lib.hid hn
  have HE := Lib.hid he
  have HI := Lib.hid hi
  have HX := Lib.hid hx
  have HW := Lib.hid hw
  have HA := Lib.hid ha
  clear hb hn he hi hx hw ha
  go_enter Try.func28, Try.ntmps28
  go_wp2_with fail
  refine (reader_Run 29 enters_inside2 _ _ _ _ h2 (fun g k x a => k = insK nn l2.length ∧ x = insX nn ee l2.length ∧ Below w.heap.size w a) ?hP ?hf).mono ?_
  case hP =>
    rintro g k x a b ⟨rfl, rfl, ha⟩ hbb
    exact ⟨rfl, rfl, ha.trans hbb⟩
  case hf =>
    intro g2 u hg hb3 hR2
    refine (inside2 nb eb g2 nn ee _ _ u ((hb3.block _ (by omega)).trans HN.out) ((hb3.block _ (by omega)).trans HE.out) hnn hee (by omega) hR2).mono ?_
    rintro e w4 ⟨hO, hW⟩
    exact ⟨_, _, hO.kept (fun j hj => by omega), ⟨rfl, rfl, hb3.trans (hO.toBelow (fun j hj => by omega) hb3.size)⟩, hW⟩
  rintro e w1 ⟨gi, k, x, hk, hg, ⟨rfl, rfl, hb1⟩, hsh, rfl⟩
  have hx0 : insX nn ee l2.length ≠ 0 := by unfold insX; split <;> omega
  rw [show told l2 (insK nn l2.length) (insX nn ee l2.length) = insX nn ee l2.length from if_neg hx0]
  obtain ⟨K, hK⟩ : ∃ K, K = insK nn l2.length := ⟨_, rfl⟩
  obtain ⟨X, hX⟩ : ∃ X, X = insX nn ee l2.length := ⟨_, rfl⟩
  rw [← hK, ← hX]
  have HKK := Lib.hid hK
  have HXX := Lib.hid hX
  clear hK hX hx0 hk hsh b0 h2
  have hi1 := (hb1.block _ (by omega)).trans HI.out
  have hx1 := (hb1.block _ (by omega)).trans HX.out
  have hw1 := (hb1.block _ (by omega)).trans HW.out
  have ha1 := (hb1.block _ (by omega)).trans HA.out
  have hR1 := hR.later hb1 (Nat.le_refl _)
  have i0 := cell_of_one hi1
  have i1 := free_of_one hi1
  have x0 := cell_of_one hx1
  have x1 := free_of_one hx1
  have w0 := cell_of_one hw1
  have w2 := free_of_one hw1
  -- the world behind the three stores
  have ne1 : xb ≠ ib := fun h => d1 h.symm
  have ne2 : wb ≠ ib := fun h => d2 h.symm
  have ne3 : wb ≠ xb := fun h => d3 h.symm
  have hR5 := ((hR1.setVar (p := ⟨ib, 0, none⟩) (by show ib ≠ g; omega) (fun i hi => (hv i hi).1) (.int .i64 (K : Nat))).setVar (p := ⟨xb, 0, none⟩) (by show xb ≠ g; omega) (fun i hi => (hv i hi).2.1) (.int .i64 (X : Nat))).setVar (p := ⟨wb, 0, none⟩) (by show wb ≠ g; omega) (fun i hi => (hv i hi).2.2) (.bool true)
  have hO5 : Only (fun j => j = g ∨ j = ib ∨ j = xb ∨ j = wb) w (((w1.setCell ⟨ib, 0, none⟩ (.int .i64 (K : Nat))).setCell ⟨xb, 0, none⟩ (.int .i64 (X : Nat))).setCell ⟨wb, 0, none⟩ (.bool true)) :=
    ((((Only.refl _ w).below hb1 (Nat.le_refl _)).setCell (p := ⟨ib, 0, none⟩) (.inr (.inl rfl)) _).setCell (p := ⟨xb, 0, none⟩) (.inr (.inr (.inl rfl))) _).setCell (p := ⟨wb, 0, none⟩) (.inr (.inr (.inr rfl))) _
  have hi5 := (Below.heap_setCell ((w1.setCell ⟨ib, 0, none⟩ (.int .i64 (K : Nat))).setCell ⟨xb, 0, none⟩ (.int .i64 (X : Nat))) ⟨wb, 0, none⟩ (.bool true) ib d2).trans ((Below.heap_setCell (w1.setCell ⟨ib, 0, none⟩ (.int .i64 (K : Nat))) ⟨xb, 0, none⟩ (.int .i64 (X : Nat)) ib d1).trans (one_setCell (u := .int .i64 (K : Nat)) hi1))
  have hx5 := (Below.heap_setCell ((w1.setCell ⟨ib, 0, none⟩ (.int .i64 (K : Nat))).setCell ⟨xb, 0, none⟩ (.int .i64 (X : Nat))) ⟨wb, 0, none⟩ (.bool true) xb d3).trans (one_setCell (u := .int .i64 (X : Nat)) ((Below.heap_setCell w1 ⟨ib, 0, none⟩ (.int .i64 (K : Nat)) xb ne1).trans hx1))
  have hw5 := one_setCell (u := .bool true) ((Below.heap_setCell (w1.setCell ⟨ib, 0, none⟩ (.int .i64 (K : Nat))) ⟨xb, 0, none⟩ (.int .i64 (X : Nat)) wb ne3).trans ((Below.heap_setCell w1 ⟨ib, 0, none⟩ (.int .i64 (K : Nat)) wb ne2).trans hw1))
  have ha5 := (Below.heap_setCell ((w1.setCell ⟨ib, 0, none⟩ (.int .i64 (K : Nat))).setCell ⟨xb, 0, none⟩ (.int .i64 (X : Nat))) ⟨wb, 0, none⟩ (.bool true) ab d6).trans ((Below.heap_setCell (w1.setCell ⟨ib, 0, none⟩ (.int .i64 (K : Nat))) ⟨xb, 0, none⟩ (.int .i64 (X : Nat)) ab d5).trans ((Below.heap_setCell w1 ⟨ib, 0, none⟩ (.int .i64 (K : Nat)) ab d4).trans ha1))
  have HR := Lib.hid hR5
  have HO := Lib.hid hO5
  have HI5 := Lib.hid hi5
  have HX5 := Lib.hid hx5
  have HW5 := Lib.hid hw5
  have HA5 := Lib.hid ha5
  clear hR5 hO5 hi5 hx5 hw5 ha5 hi1 hx1 hw1 ha1 hR1 hR HN HE HI HX HW HA hb1
  go_wp2
  generalize ((w1.setCell ⟨ib, 0, none⟩ (.int .i64 (K : Nat))).setCell ⟨xb, 0, none⟩ (.int .i64 (X : Nat))).setCell ⟨wb, 0, none⟩ (.bool true) = w5 at HR HO HI5 HX5 HW5 HA5 ⊢
  clear i0 i1 x0 x1 w0 w2
  go_loopw [] (fun wr => ∃ j : Nat, Hid (Rdr wr g v l j) ∧ Hid (Only (fun j => j = g) w5 wr)) (fun wr => l.length - placeOf wr g v l)
  case atStart => exact ⟨0, HR, Lib.hid (Only.refl _ _)⟩
  case round =>
    obtain ⟨j, HRr, HOr⟩ := hrel
    by_cases hlt : j < l.length
    · have hgt : 0 < ((l.length - j : Nat) : Int) := by omega
      have hpl := Lib.hid (placeOf_eq HRr.out)
      go_wp2_with fail
      refine (reader_Left _ _ _ _ _ HRr.out).mono ?_
      rintro e w2 ⟨rfl, hb2⟩
      have hR2 := HRr.out.later hb2 (Nat.le_refl _)
      go_wp2_with fail
      refine (reader_Byte _ _ _ _ _ hR2).mono ?_
      rintro e w3 h
      obtain ⟨rfl, hg3, hRA⟩ := h.ok (if_pos hlt)
      rw [if_pos hlt] at hRA
      simp only [if_pos hlt]
      have hO3 := (HOr.out.below hb2 (Nat.le_refl _)).grown hg3 rfl
      have ha3 := hO3.keep HA5.out (by omega)
      have hlen := hRA.rd.len
      have hAd := hRA.drew
      have ha0 : ∀ x : Ord.GW w3.drew, x.val.cell? ⟨ab, 0, none⟩ = some v := fun x => cell_of_one ((x.grew.block _ (Array.getElem?_eq_some_iff.1 (show w3.drew.heap[ab]? = _ from ha3)).1).trans ha3)
      have hcmp : decide ((l.length : Int) < (j : Int) + 1) = false := decide_eq_false (by omega)
      clear h hR2 ha3 hb2 hg3
      go_wp2_with fail
      refine Ord.wp_region_ord [(0, false), (2, false), (3, false), (1, true), (4, false)] (by kernel_rfl) rfl (by kernel_rfl) (by kernel_rfl) (fun _ _ _ d _ h => by cases d <;> exact h) ?_
      refine Ord.ord_still rfl rfl (by kernel_rfl) (fun K hK => ?_)
      go_big_quiet_op
      refine hK _ ?_; clear hK K
      refine Ord.ord_still rfl rfl (by kernel_rfl) (fun K hK => ?_)
      go_big_quiet_op
      refine hK _ ?_; clear hK K
      refine Ord.ord_still rfl rfl (by kernel_rfl) (fun K hK => ?_)
      go_big_quiet_op
      refine hK _ ?_; clear hK K
      refine Ord.ord_loud rfl (by kernel_rfl) (fun K hK => ?_)
      go_big_op
      refine (reader_At _ _ _ _ _ hRA.drew).mono ?_
      rintro e w3 ⟨rfl, hb3⟩
      refine hK _ _ hb3 ?_
      clear hK K
      refine Ord.ord_still rfl rfl (by kernel_rfl) (fun K hK => ?_)
      go_big_quiet_op
      refine hK _ ?_; clear hK K
      refine Ord.ord_nil ?_
      have HR4 := Lib.hid (hRA.drew.later hb3 (Nat.le_refl _))
      have HO4 := Lib.hid ((hO3.drew).below hb3 (Nat.le_refl _))
      clear ha0 hRA hAd hO3 hb3
      go_wp2
      go_roundw
      case rel => exact ⟨j + 1, HR4, HO4⟩
      case measure => rw [hpl.out, placeOf_eq HR4.out]; omega
    · obtain rfl : j = l.length := by have := HRr.out.le; omega
      go_wp2_with fail
      refine (reader_Left _ _ _ _ _ HRr.out).mono ?_
      rintro e w2 ⟨rfl, hb2⟩
      have hR2 := HRr.out.later hb2 (Nat.le_refl _)
      have hz : ((l.length - l.length : Nat) : Int) = 0 := by omega
      have h1 := (HO.out.trans (HOr.out.mono (fun j hj => .inl hj))).below hb2 (Nat.le_refl _)
      have hO6 := HOr.out.below hb2 (Nat.le_refl _)
      have hi6 := hO6.keep HI5.out (by omega)
      have hx6 := hO6.keep HX5.out (by omega)
      have hw6 := hO6.keep HW5.out (by omega)
      have H1 := Lib.hid h1
      have H2 := Lib.hid hi6
      have H3 := Lib.hid hx6
      have H4 := Lib.hid hw6
      have H5 := Lib.hid hR2
      clear h1 hi6 hx6 hw6 hR2 hO6 hb2
      go_wp2
      go_end0
      rw [← HKK.out, ← HXX.out]
      exact ⟨H1.out, H2.out, H3.out, H4.out, .inl ⟨rfl, rfl, H5.out⟩⟩

end Go.Proofs.Ytojjfocnkdijpaa
