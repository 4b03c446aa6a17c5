/-
  ReaderInside: the law's walk. For every input.
-/
import Derived.Test.YtojjfocnkdijpaaReaderInside
set_option linter.unusedVariables false
set_option linter.unusedSimpArgs false
namespace Go.Proofs.Ytojjfocnkdijpaa
open Go.RowKit

set_option maxHeartbeats 4000000 in
set_option maxRecDepth 20000 in
theorem readerInside_walk (v : Value) (l : List UInt8) (v2 : Value) (l2 : List UInt8) (a20 a21 : Int) (w : World) (h : Rd w v l) (h2 : Rd w v2 l2) (hn : 0 ≤ a20 ∧ a20 ≤ 255) (he : 0 ≤ a21 ∧ a21 ≤ 255) :
    Calls Try.prog 6 #[v, v2, .agg #[.int .u8 a20, .int .u8 a21]] w fun e w' => e = .returned (.bool true) ∧ Below w.heap.size w w' := by
  have hmf : ∀ (fn : Fn) (first cap : Array Value) (w : World), (Instr.makeFunc fn first cap).run Try.prog w = .ok (.func fn first cap) w := fun _ _ _ _ => rfl
  obtain ⟨nn, rfl⟩ := Int.eq_ofNat_of_zero_le hn.1
  obtain ⟨ee, rfl⟩ := Int.eq_ofNat_of_zero_le he.1
  have hnn : nn < 256 := by omega
  have hee : ee < 256 := by omega
  have hlen := h.len
  have hlen2 := h2.len
  have hbl : ∀ i, i < l.length → (adr v i).block < w.heap.size := fun i hi => h.block hi
  have hbl2 : ∀ i, i < l2.length → (adr v2 i).block < w.heap.size := fun i hi => h2.block hi
  obtain ⟨ao, c, hv, _⟩ := id h.shape
  obtain ⟨ao2, c2, hv2, _⟩ := id h2.shape
  subst hv hv2
  have hfin : ∀ (nb eb : Nat) (w0 : World), Below w.heap.size w w0 → w0.heap[w.heap.size]? = some (.cells #[.slice ao l.length c] 22 (0, 0)) → w0.heap[w.heap.size + 1]? = some (.cells #[.slice ao2 l2.length c2] 22 (0, 0)) →
    w0.heap[nb]? = some (.cells #[.int .u8 (nn : Int)] 5 (0, 0)) → w0.heap[eb]? = some (.cells #[.int .u8 (ee : Int)] 5 (0, 0)) → w.heap.size ≤ nb → w.heap.size ≤ eb → True := fun _ _ _ _ _ _ _ _ _ _ => trivial
  obtain ⟨kk, hkk⟩ : ∃ kk, kk = nn % 10 := ⟨_, rfl⟩
  obtain ⟨m, hm⟩ : ∃ m, m = 1 + ee % 17 := ⟨_, rfl⟩
  have hmod : (nn : Int) % 10 = (kk : Int) := by omega
  have hmm : 1 + (ee : Int) % 17 = (m : Int) := by omega
  have hm1 : m < 256 := by omega
  have hk1 : kk < 10 := by omega
  have HKK := Lib.hid hkk
  have HM := Lib.hid hm
  obtain ⟨N1, I1, B1⟩ := news [.cells #[.slice ao l.length c] 22, .cells #[.slice ao2 l2.length c2] 22, .cells #[.int .u8 (nn : Int), .int .u8 (ee : Int)] 52, .cells #[.int .u8 (nn : Int)] 5, .cells #[.int .u8 (ee : Int)] 5] w
  obtain ⟨N2, I2, B2⟩ := news [.cells #[.slice ao l.length c] 22, .cells #[.slice ao2 l2.length c2] 22, .cells #[.int .u8 (nn : Int), .int .u8 (ee : Int)] 52, .cells #[.int .u8 (ee : Int)] 5, .cells #[.int .u8 (nn : Int)] 5] w
  have X1 := Lib.hid (And.intro N1 (And.intro (I1 0 _ rfl) (And.intro (I1 1 _ rfl) (And.intro (I1 3 _ rfl) (And.intro (I1 4 _ rfl) B1)))))
  have X2 := Lib.hid (And.intro N2 (And.intro (I2 0 _ rfl) (And.intro (I2 1 _ rfl) (And.intro (I2 4 _ rfl) (And.intro (I2 3 _ rfl) B2)))))
  clear N1 I1 B1 N2 I2 B2 hn he hkk hm hfin
  go_enter Try.func6, Try.ntmps6
  go_wp2
  go_region
  · obtain ⟨hs0, hA0, hB0, hN0, hE0, hb0⟩ := X1.out
    simp only [List.foldl_cons, List.foldl_nil, List.length_cons, List.length_nil, Nat.reduceAdd, Nat.add_zero] at hs0 hA0 hB0 hN0 hE0 hb0
    obtain ⟨w0, hw0⟩ : ∃ w0, w0 = (((((w.alloc (.cells #[.slice ao l.length c] 22)).alloc (.cells #[.slice ao2 l2.length c2] 22)).alloc (.cells #[.int .u8 (nn : Int), .int .u8 (ee : Int)] 52)).alloc (.cells #[.int .u8 (nn : Int)] 5)).alloc (.cells #[.int .u8 (ee : Int)] 5)).drew := ⟨_, rfl⟩
    replace hs0 : w0.heap.size = w.heap.size + 5 := by rw [hw0]; exact hs0
    replace hA0 : w0.heap[w.heap.size]? = some (.cells #[.slice ao l.length c] 22 (0, 0)) := by rw [hw0]; exact hA0
    replace hB0 : w0.heap[w.heap.size + 1]? = some (.cells #[.slice ao2 l2.length c2] 22 (0, 0)) := by rw [hw0]; exact hB0
    replace hN0 : w0.heap[w.heap.size + 3]? = some (.cells #[.int .u8 (nn : Int)] 5 (0, 0)) := by rw [hw0]; exact hN0
    replace hE0 : w0.heap[w.heap.size + 4]? = some (.cells #[.int .u8 (ee : Int)] 5 (0, 0)) := by rw [hw0]; exact hE0
    replace hb0 : Below w.heap.size w w0 := by rw [hw0]; exact hb0.drew
    rw [← hw0]
    clear hw0 X1 X2
    obtain ⟨nb, hnb⟩ : ∃ nb, nb = w.heap.size + 3 := ⟨_, rfl⟩
    obtain ⟨eb, heb⟩ : ∃ eb, eb = w.heap.size + 4 := ⟨_, rfl⟩
    rw [← hnb] at hN0
    rw [← heb] at hE0
    rw [show w.heap.size + 1 + 1 + 1 + 1 = eb from by omega, show w.heap.size + 1 + 1 + 1 = nb from by omega]
    have hnl : w.heap.size + 3 ≤ nb ∧ nb < w.heap.size + 5 := by omega
    have hel : w.heap.size + 3 ≤ eb ∧ eb < w.heap.size + 5 := by omega
    have hne : nb ≠ eb := by omega
    clear hnb heb
    go_wp2_with fail
    refine (law03_alive _).mono ?_
    rintro e w1 ⟨rfl, hb1⟩
    have hA1 := (hb1.block _ (by omega)).trans hA0
    have hB1 := (hb1.block _ (by omega)).trans hB0
    have hN1 := (hb1.block _ (by omega)).trans hN0
    have hE1 := (hb1.block _ (by omega)).trans hE0
    have hbw := hb0.trans (hb1.mono (by omega))
    have hs1 := hb1.size
    have A0 := cell_of_one hA1
    have B0 := cell_of_one hB1
    by_cases h500 : 500 < l.length
    · go_wp2_with fail
      refine (law03_alive _).mono ?_
      rintro e w2 ⟨rfl, hb2⟩
      go_wp2
      go_ret
      exact ⟨rfl, hbw.trans (hb2.mono (by omega))⟩
    · by_cases h501 : 500 < l2.length
      · go_wp2_with fail
        refine (law03_alive _).mono ?_
        rintro e w2 ⟨rfl, hb2⟩
        go_wp2
        go_ret
        exact ⟨rfl, hbw.trans (hb2.mono (by omega))⟩
      · clear hA0 hB0 hN0 hE0 hb0 hb1
        have HA := Lib.hid hA1
        have HB := Lib.hid hB1
        have HN := Lib.hid hN1
        have HE := Lib.hid hE1
        clear hA1 hB1 hN1 hE1
        have hl1 : w.heap.size < w1.heap.size := by omega
        have hl2 : w.heap.size < w1.heap.size + 1 := by omega
        have hl3 : w.heap.size < w1.heap.size + 1 + 1 := by omega
        go_wp2_with fail
        obtain ⟨hs2, hI2, hX2, hW2, hb2⟩ := new3 w1 (.cells #[.int .i64 0] 3) (.cells #[.int .i64 0] 28) (.cells #[.bool false] 4)
        generalize hw2 : ((w1.alloc (.cells #[.int .i64 0] 3)).alloc (.cells #[.int .i64 0] 28)).alloc (.cells #[.bool false] 4) = w2 at hs2 hI2 hX2 hW2 hb2 ⊢
        clear hw2 A0 B0
        have hA2 := (hb2.block _ (by omega)).trans HA.out
        have hB2 := (hb2.block _ (by omega)).trans HB.out
        have hN2 := (hb2.block _ (by omega)).trans HN.out
        have hE2 := (hb2.block _ (by omega)).trans HE.out
        have hbz := hbw.trans (hb2.mono (by omega))
        have h3 := h.later hbz (Nat.le_refl _)
        have h4 := h2.later hbz (Nat.le_refl _)
        refine (reader_Run 28 enters_inside1 _ _ _ _ h3 (fun g k x a => k = l.length ∧ x = 0 ∧ Only (fun j => (j = w1.heap.size ∨ j = w1.heap.size + 1 ∨ j = w1.heap.size + 2) ∨ w2.heap.size ≤ j) w2 a ∧ a.heap[w1.heap.size]? = some (.cells #[.int .i64 (insK nn l2.length : Nat)] 3 (0, 0)) ∧
          a.heap[w1.heap.size + 1]? = some (.cells #[.int .i64 (insX nn ee l2.length : Nat)] 28 (0, 0)) ∧ a.heap[w1.heap.size + 2]? = some (.cells #[.bool true] 4 (0, 0))) ?hP ?hf).mono ?_
        case hP =>
          rintro g k x a b ⟨rfl, rfl, ha, hc, hd, hf⟩ hbb
          exact ⟨rfl, rfl, ha.trans ⟨hbb.os, hbb.tape, hbb.output, hbb.size, fun j h1 h2 => hbb.block j (by omega)⟩, (hbb.block _ (by omega)).trans hc, (hbb.block _ (by omega)).trans hd, (hbb.block _ (by omega)).trans hf⟩
        case hf =>
          intro g w3 hg hb3 hR
          refine (inside1 (w.heap.size + 1) nb eb w1.heap.size (w1.heap.size + 1) (w1.heap.size + 2) w.heap.size g nn ee _ _ l l2 w3 ((hb3.block _ (by omega)).trans hB2) ((hb3.block _ (by omega)).trans hN2) ((hb3.block _ (by omega)).trans hE2)
            ((hb3.block _ (by omega)).trans hI2) ((hb3.block _ (by omega)).trans hX2) ((hb3.block _ (by omega)).trans hW2) ((hb3.block _ (by omega)).trans hA2) hnn hee (by omega) (fun i hi => by have := hbl i hi; omega) (h4.later hb3 (Nat.le_refl _)) hR).mono ?_
          rintro e w4 ⟨hO, hI4, hX4, hW4, hW⟩
          exact ⟨l.length, 0, hO.kept (fun j hj => by omega), ⟨rfl, rfl, ((Only.refl _ _).below hb3 (Nat.le_refl _)).trans (hO.mono (fun j hj => by omega)), hI4, hX4, hW4⟩, hW⟩
        rintro e w5 ⟨g, k, x, hk, hg, ⟨rfl, rfl, hO, hI5, hX5, hW5⟩, hsh, rfl⟩
        rw [show told l l.length 0 = 0 from by simp [told]]
        have A0 := cell_of_one (hO.keep hA2 (by omega))
        have B0 := cell_of_one (hO.keep hB2 (by omega))
        have N0 := cell_of_one (hO.keep hN2 (by omega))
        have E0 := cell_of_one (hO.keep hE2 (by omega))
        have hfin := Lib.hid (hbz.trans (hO.toBelow (B := w.heap.size) (fun j hj => by omega) (by omega)))
        by_cases hkl : kk ≤ l2.length
        · have e1 : insK nn l2.length = kk := by unfold insK; rw [← HKK.out, if_pos hkl]
          have e2 : insX nn ee l2.length = m := by unfold insX; rw [← HKK.out, if_pos hkl, HM.out]
          rw [e1] at hI5
          rw [e2] at hX5
          have I0 := cell_of_one hI5
          have X0 := cell_of_one hX5
          have W0 := cell_of_one hW5
          clear e1 e2 hI5 hX5 hW5 hO hA2 hB2 hN2 hE2 hI2 hX2 hW2 hsh HA HB HN HE hbz hbw hb2 h3 h4
          go_wp2
          go_ret
          exact ⟨rfl, hfin.out⟩
        · have e1 : insK nn l2.length = l2.length := if_neg (by have := HKK.out; omega)
          have e2 : insX nn ee l2.length = 5 := if_neg (by have := HKK.out; omega)
          rw [e1] at hI5
          rw [e2] at hX5
          have I0 := cell_of_one hI5
          have X0 := cell_of_one hX5
          have W0 := cell_of_one hW5
          clear e1 e2 hI5 hX5 hW5 hO hA2 hB2 hN2 hE2 hI2 hX2 hW2 hsh HA HB HN HE hbz hbw hb2 h3 h4
          go_wp2
          go_ret
          exact ⟨rfl, hfin.out⟩
  · obtain ⟨hs0, hA0, hB0, hN0, hE0, hb0⟩ := X2.out
    simp only [List.foldl_cons, List.foldl_nil, List.length_cons, List.length_nil, Nat.reduceAdd, Nat.add_zero] at hs0 hA0 hB0 hN0 hE0 hb0
    obtain ⟨w0, hw0⟩ : ∃ w0, w0 = (((((w.alloc (.cells #[.slice ao l.length c] 22)).alloc (.cells #[.slice ao2 l2.length c2] 22)).alloc (.cells #[.int .u8 (nn : Int), .int .u8 (ee : Int)] 52)).alloc (.cells #[.int .u8 (ee : Int)] 5)).alloc (.cells #[.int .u8 (nn : Int)] 5)).drew := ⟨_, rfl⟩
    replace hs0 : w0.heap.size = w.heap.size + 5 := by rw [hw0]; exact hs0
    replace hA0 : w0.heap[w.heap.size]? = some (.cells #[.slice ao l.length c] 22 (0, 0)) := by rw [hw0]; exact hA0
    replace hB0 : w0.heap[w.heap.size + 1]? = some (.cells #[.slice ao2 l2.length c2] 22 (0, 0)) := by rw [hw0]; exact hB0
    replace hN0 : w0.heap[w.heap.size + 4]? = some (.cells #[.int .u8 (nn : Int)] 5 (0, 0)) := by rw [hw0]; exact hN0
    replace hE0 : w0.heap[w.heap.size + 3]? = some (.cells #[.int .u8 (ee : Int)] 5 (0, 0)) := by rw [hw0]; exact hE0
    replace hb0 : Below w.heap.size w w0 := by rw [hw0]; exact hb0.drew
    rw [← hw0]
    clear hw0 X1 X2
    obtain ⟨nb, hnb⟩ : ∃ nb, nb = w.heap.size + 4 := ⟨_, rfl⟩
    obtain ⟨eb, heb⟩ : ∃ eb, eb = w.heap.size + 3 := ⟨_, rfl⟩
    rw [← hnb] at hN0
    rw [← heb] at hE0
    rw [show w.heap.size + 1 + 1 + 1 + 1 = nb from by omega, show w.heap.size + 1 + 1 + 1 = eb from by omega]
    have hnl : w.heap.size + 3 ≤ nb ∧ nb < w.heap.size + 5 := by omega
    have hel : w.heap.size + 3 ≤ eb ∧ eb < w.heap.size + 5 := by omega
    have hne : nb ≠ eb := by omega
    clear hnb heb
    go_wp2_with fail
    refine (law03_alive _).mono ?_
    rintro e w1 ⟨rfl, hb1⟩
    have hA1 := (hb1.block _ (by omega)).trans hA0
    have hB1 := (hb1.block _ (by omega)).trans hB0
    have hN1 := (hb1.block _ (by omega)).trans hN0
    have hE1 := (hb1.block _ (by omega)).trans hE0
    have hbw := hb0.trans (hb1.mono (by omega))
    have hs1 := hb1.size
    have A0 := cell_of_one hA1
    have B0 := cell_of_one hB1
    by_cases h500 : 500 < l.length
    · go_wp2_with fail
      refine (law03_alive _).mono ?_
      rintro e w2 ⟨rfl, hb2⟩
      go_wp2
      go_ret
      exact ⟨rfl, hbw.trans (hb2.mono (by omega))⟩
    · by_cases h501 : 500 < l2.length
      · go_wp2_with fail
        refine (law03_alive _).mono ?_
        rintro e w2 ⟨rfl, hb2⟩
        go_wp2
        go_ret
        exact ⟨rfl, hbw.trans (hb2.mono (by omega))⟩
      · clear hA0 hB0 hN0 hE0 hb0 hb1
        have HA := Lib.hid hA1
        have HB := Lib.hid hB1
        have HN := Lib.hid hN1
        have HE := Lib.hid hE1
        clear hA1 hB1 hN1 hE1
        have hl1 : w.heap.size < w1.heap.size := by omega
        have hl2 : w.heap.size < w1.heap.size + 1 := by omega
        have hl3 : w.heap.size < w1.heap.size + 1 + 1 := by omega
        go_wp2_with fail
        obtain ⟨hs2, hI2, hX2, hW2, hb2⟩ := new3 w1 (.cells #[.int .i64 0] 3) (.cells #[.int .i64 0] 28) (.cells #[.bool false] 4)
        generalize hw2 : ((w1.alloc (.cells #[.int .i64 0] 3)).alloc (.cells #[.int .i64 0] 28)).alloc (.cells #[.bool false] 4) = w2 at hs2 hI2 hX2 hW2 hb2 ⊢
        clear hw2 A0 B0
        have hA2 := (hb2.block _ (by omega)).trans HA.out
        have hB2 := (hb2.block _ (by omega)).trans HB.out
        have hN2 := (hb2.block _ (by omega)).trans HN.out
        have hE2 := (hb2.block _ (by omega)).trans HE.out
        have hbz := hbw.trans (hb2.mono (by omega))
        have h3 := h.later hbz (Nat.le_refl _)
        have h4 := h2.later hbz (Nat.le_refl _)
        refine (reader_Run 28 enters_inside1 _ _ _ _ h3 (fun g k x a => k = l.length ∧ x = 0 ∧ Only (fun j => (j = w1.heap.size ∨ j = w1.heap.size + 1 ∨ j = w1.heap.size + 2) ∨ w2.heap.size ≤ j) w2 a ∧ a.heap[w1.heap.size]? = some (.cells #[.int .i64 (insK nn l2.length : Nat)] 3 (0, 0)) ∧
          a.heap[w1.heap.size + 1]? = some (.cells #[.int .i64 (insX nn ee l2.length : Nat)] 28 (0, 0)) ∧ a.heap[w1.heap.size + 2]? = some (.cells #[.bool true] 4 (0, 0))) ?hP ?hf).mono ?_
        case hP =>
          rintro g k x a b ⟨rfl, rfl, ha, hc, hd, hf⟩ hbb
          exact ⟨rfl, rfl, ha.trans ⟨hbb.os, hbb.tape, hbb.output, hbb.size, fun j h1 h2 => hbb.block j (by omega)⟩, (hbb.block _ (by omega)).trans hc, (hbb.block _ (by omega)).trans hd, (hbb.block _ (by omega)).trans hf⟩
        case hf =>
          intro g w3 hg hb3 hR
          refine (inside1 (w.heap.size + 1) nb eb w1.heap.size (w1.heap.size + 1) (w1.heap.size + 2) w.heap.size g nn ee _ _ l l2 w3 ((hb3.block _ (by omega)).trans hB2) ((hb3.block _ (by omega)).trans hN2) ((hb3.block _ (by omega)).trans hE2)
            ((hb3.block _ (by omega)).trans hI2) ((hb3.block _ (by omega)).trans hX2) ((hb3.block _ (by omega)).trans hW2) ((hb3.block _ (by omega)).trans hA2) hnn hee (by omega) (fun i hi => by have := hbl i hi; omega) (h4.later hb3 (Nat.le_refl _)) hR).mono ?_
          rintro e w4 ⟨hO, hI4, hX4, hW4, hW⟩
          exact ⟨l.length, 0, hO.kept (fun j hj => by omega), ⟨rfl, rfl, ((Only.refl _ _).below hb3 (Nat.le_refl _)).trans (hO.mono (fun j hj => by omega)), hI4, hX4, hW4⟩, hW⟩
        rintro e w5 ⟨g, k, x, hk, hg, ⟨rfl, rfl, hO, hI5, hX5, hW5⟩, hsh, rfl⟩
        rw [show told l l.length 0 = 0 from by simp [told]]
        have A0 := cell_of_one (hO.keep hA2 (by omega))
        have B0 := cell_of_one (hO.keep hB2 (by omega))
        have N0 := cell_of_one (hO.keep hN2 (by omega))
        have E0 := cell_of_one (hO.keep hE2 (by omega))
        have hfin := Lib.hid (hbz.trans (hO.toBelow (B := w.heap.size) (fun j hj => by omega) (by omega)))
        by_cases hkl : kk ≤ l2.length
        · have e1 : insK nn l2.length = kk := by unfold insK; rw [← HKK.out, if_pos hkl]
          have e2 : insX nn ee l2.length = m := by unfold insX; rw [← HKK.out, if_pos hkl, HM.out]
          rw [e1] at hI5
          rw [e2] at hX5
          have I0 := cell_of_one hI5
          have X0 := cell_of_one hX5
          have W0 := cell_of_one hW5
          clear e1 e2 hI5 hX5 hW5 hO hA2 hB2 hN2 hE2 hI2 hX2 hW2 hsh HA HB HN HE hbz hbw hb2 h3 h4
          go_wp2
          go_ret
          exact ⟨rfl, hfin.out⟩
        · have e1 : insK nn l2.length = l2.length := if_neg (by have := HKK.out; omega)
          have e2 : insX nn ee l2.length = 5 := if_neg (by have := HKK.out; omega)
          rw [e1] at hI5
          rw [e2] at hX5
          have I0 := cell_of_one hI5
          have X0 := cell_of_one hX5
          have W0 := cell_of_one hW5
          clear e1 e2 hI5 hX5 hW5 hO hA2 hB2 hN2 hE2 hI2 hX2 hW2 hsh HA HB HN HE hbz hbw hb2 h3 h4
          go_wp2
          go_ret
          exact ⟨rfl, hfin.out⟩

end Go.Proofs.Ytojjfocnkdijpaa
