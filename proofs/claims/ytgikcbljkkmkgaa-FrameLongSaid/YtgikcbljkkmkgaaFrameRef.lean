/-
  The walks of the document's own answers for layer 11: Write, Size, Next.
-/
import Derived.Test.YtgikcbljkkmkgaaFrame
import Derived.Test.YtgikcbljkkmkgaaWireRef2
set_option linter.unusedVariables false
set_option linter.unusedSimpArgs false
set_option maxRecDepth 1000000
namespace Go.Proofs.Ytgikcbljkkmkgaa
open Go.RowKit

set_option maxHeartbeats 1000000 in
theorem ref_Write11 (k : Int) (v : Value) (l : List UInt8) (w : World) (h : Rd w v l) :
    Calls Try.prog 11 #[.int .i64 k, v] w (RetW w (wrF k l)) := by
  have hlen := h.len
  have hsm := h.small
  by_cases h1 : k < 0
  · have hr : wrF k l = ([], 10) := by unfold wrF; rw [if_pos (.inl h1)]
    have HR := Lib.hid hr
    clear hr
    go_enter Try.func11, Try.ntmps11
    go_wp2
    go_ret2
    exact RetW.none HR.out rfl
  · by_cases h2 : 2 < k
    · have hr : wrF k l = ([], 10) := by unfold wrF; rw [if_pos (.inr h2)]
      have HR := Lib.hid hr
      clear hr
      go_enter Try.func11, Try.ntmps11
      go_wp2
      go_ret2
      exact RetW.none HR.out rfl
    · obtain ⟨n, rfl⟩ := Int.eq_ofNat_of_zero_le (show 0 ≤ k by omega)
      by_cases h3 : 1048576 < l.length
      · have hr : wrF (n : Int) l = ([], 13) := by unfold wrF; rw [if_neg (by omega), if_pos h3]
        have HR := Lib.hid hr
        clear hr
        go_enter Try.func11, Try.ntmps11
        go_wp2
        go_ret2
        exact RetW.none HR.out rfl
      · have hr : wrF (n : Int) l = (frB n l, 0) := by unfold wrF; rw [if_neg (by omega), if_neg h3, Int.toNat_natCast]
        have HR := Lib.hid hr
        clear hr
        have hle := encU_le l.length (by omega)
        have hel := encB_length l
        have HL := Lib.hid (And.intro hle hel)
        clear hle hel
        have hc : cellB (UInt8.ofNat n) = .int .u8 (n : Int) := by unfold cellB; rw [UInt8.toNat_ofNat']; congr 1; omega
        have ho0 := own_lit w w.heap.size (Nat.le_refl _) [UInt8.ofNat n] (by simp [maxLen])
        rw [show (cellsB [UInt8.ofNat n]).toArray = #[.int .u8 (n : Int)] from by simp [cellsB, hc]] at ho0
        clear hc
        have hb0 : Below w.heap.size w (w.alloc (.cells #[.int .u8 (n : Int)] 5 (0, 0))) := (Below.refl _ _).alloc (Nat.le_refl _) _
        go_enter Try.func11, Try.ntmps11
        go_wp2_with fail
        refine (ref_Bytes v l _ (h.alloc _)).mono ?_
        rintro e w1 ⟨v1, rfl, ho1, hb1⟩
        have hb2 := hb0.trans (hb1.mono hb0.size)
        have ho2 := ho0.later hb1 (Nat.le_refl _)
        have hr1 := ho1.rd (by have := HL.out; omega)
        clear ho0 hb0 ho1 hb1
        go_wp2_with (with_reducible refine wpl_append w.heap.size _ [UInt8.ofNat n] ?hs ho2 _ (encB l) ?hx hr1 ?hn ?hbase w.heap.size w hb2 (Nat.le_refl _) ?_)
        case hs => rfl
        case hx => rfl
        case hn => have := HL.out; simp; omega
        case hbase => exact hb2.size
        intro v3 w3 ho3 hb3 _
        rw [show [UInt8.ofNat n] ++ encB l = frX n l from rfl] at ho3
        have hr3 := ho3.rd (by have := HL.out; have := frX_length n l; omega)
        go_wp2_with fail
        refine (ref_Seal v3 _ _ hr3).mono ?_
        rintro e w4 ⟨v4, rfl, ho4, hb4⟩
        go_wp2
        go_ret2
        exact RetW.own HR.out (ho4.base hb3.size) (hb3.trans (hb4.mono hb3.size)) rfl

set_option maxHeartbeats 400000 in
theorem ref_Size11 (n : Int) (h0 : -9223372036854775808 ≤ n) (h1 : n ≤ 9223372036854775807) (w : World) :
    Calls Try.prog 13 #[.int .i64 n] w fun e w' => e = .returned (.int .i64 (szF n)) ∧ Below w.heap.size w w' := by
  by_cases h2 : n < 0
  · have hr : szF n = 0 := by unfold szF; rw [if_pos (.inl h2)]
    have HR := Lib.hid hr
    clear hr
    go_enter Try.func13, Try.ntmps13
    go_wp2
    go_ret
    rw [HR.out]; exact ⟨rfl, Below.refl _ _⟩
  · by_cases h3 : 1048576 < n
    · have hr : szF n = 0 := by unfold szF; rw [if_pos (.inr h3)]
      have HR := Lib.hid hr
      clear hr
      go_enter Try.func13, Try.ntmps13
      go_wp2
      go_ret
      rw [HR.out]; exact ⟨rfl, Below.refl _ _⟩
    · have hr : szF n = 5 + (encU n.toNat).length + n := by unfold szF; rw [if_neg (by omega)]
      have HR := Lib.hid hr
      have hle := encU_le n.toNat (by omega)
      obtain ⟨x, hx⟩ : ∃ x, x = (encU n.toNat).length := ⟨_, rfl⟩
      have HX := Lib.hid hx
      rw [← hx] at hle
      clear hr hx
      go_enter Try.func13, Try.ntmps13
      go_wp2_with fail
      refine (ref_Uint _ (by omega) (by omega) _).mono ?_
      rintro e w1 ⟨v1, rfl, ho, hb⟩
      have hlen := (ho.rd (by have := HX.out; omega)).len
      rw [← HX.out] at hlen
      go_wp2
      go_ret
      rw [HR.out, ← HX.out]
      exact ⟨rfl, hb⟩

set_option maxHeartbeats 2000000 in
theorem ref_Next11 (v : Value) (l : List UInt8) (w : World) (h : Rd w v l) :
    Calls Try.prog 15 #[v] w (RetN w (nxF l)) := by
  have hlen := h.len
  have hsm := h.small
  by_cases h0 : l.length = 0
  · have hr : nxF l = (0, [], 0, 5) := by unfold nxF; rw [if_pos h0]
    have HR := Lib.hid hr
    rw [h0] at hlen
    clear hr h0
    go_enter Try.func15, Try.ntmps15
    go_wp2
    (try simp only [Exit.inBlock, Exit.then]); refine bodyPost_ret (results_tmp4 rfl _ _ _) rfl ?_
    exact RetN.none HR.out (Below.refl _ _) rfl
  · have hp : 0 < l.length := by omega
    have hidx : ∀ u, (Instr.indexAt 22 v (.int .i64 0)).run Try.prog u = .ok (.pointer (some (adr v 0))) u := h.idx 0 hp
    have hcel := h.cells 0 hp
    have hc0 := at8_lo l 0
    have hc1 := at8_hi l 0
    have hne : ((l.length : Int) == 0) = false := by rw [Bool.eq_false_iff]; exact fun hh => by have := beq_iff_eq.1 hh; omega
    by_cases h2 : 2 < at8 l 0
    · have hr : nxF l = (0, [], 0, 10) := by unfold nxF; rw [if_neg h0, if_pos h2]
      have HR := Lib.hid hr
      clear hr h0
      go_enter Try.func15, Try.ntmps15
      go_wp2
      (try simp only [Exit.inBlock, Exit.then]); refine bodyPost_ret (results_tmp4 rfl _ _ _) rfl ?_
      exact RetN.none HR.out (Below.refl _ _) rfl
    · obtain ⟨v1, hs1, hd1⟩ := h.from 1 (by omega)
      have hs1 : ∀ u, (Instr.slice 22 v (some (.int .i64 1)) none none).run Try.prog u = .ok v1 u := hs1
      have hr1 := hd1 w h
      have hb : nxF l = nxF l := rfl
      conv at hb => rhs; unfold nxF
      rw [if_neg h0, if_neg h2] at hb
      have hl := getB_len (b := l.drop 1) (p := (getB (l.drop 1) 1048576).1) (n := (getB (l.drop 1) 1048576).2.1) (e := (getB (l.drop 1) 1048576).2.2) rfl
      rcases hg : getB (l.drop 1) 1048576 with ⟨p, n, er⟩
      rw [hg] at hb hl
      dsimp only at hb hl
      obtain ⟨hl1, hl2, hl3, hl4⟩ := hl
      rw [List.length_drop] at hl2
      have HD := Lib.hid hd1
      have HG := Lib.hid hg
      clear hd1 hg h0
      by_cases he : er = 0
      · subst he
        rw [if_neg (by simp)] at hb
        by_cases h5 : l.length < n + 5
        · rw [if_pos h5] at hb
          have HB := Lib.hid hb
          clear hb
          go_enter Try.func15, Try.ntmps15
          go_wp2_with fail
          refine (ref_GetBytes v1 _ 1048576 (by omega) (by omega) w hr1).mono ?_
          rintro e w1 ⟨v2, rfl, ho, hb1⟩
          rw [HG.out] at ho ⊢
          dsimp only at ho ⊢
          go_wp2
          (try simp only [Exit.inBlock, Exit.then]); refine bodyPost_ret (results_tmp4 rfl _ _ _) rfl ?_
          exact RetN.none HB.out hb1 rfl
        · rw [if_neg h5] at hb
          obtain ⟨v5, hs5, hd5⟩ := h.upto (n + 5) (by omega)
          rw [show ((n + 5 : Nat) : Int) = (n : Int) + 5 from by omega] at hs5
          have hcell1 : ∀ w', Below w.heap.size w w' → w'.cell? (adr v 0) = some (.int .u8 (at8 l 0)) := fun w' hb' => (h.later hb' (Nat.le_refl _)).cells 0 hp
          have HD5 := Lib.hid hd5
          clear hd5
          by_cases hq : Crc.good (l.take (n + 5))
          · rw [if_pos hq] at hb
            have ho : openA (l.take (n + 5)) = (l.take (n + 5 - 4), true) := by unfold openA; rw [if_pos hq, List.length_take, Nat.min_eq_left (by omega), List.take_take, Nat.min_eq_left (by omega)]
            have HB := Lib.hid hb
            have HO := Lib.hid ho
            clear hb hq ho
            go_enter Try.func15, Try.ntmps15
            go_wp2_with fail
            refine (ref_GetBytes v1 _ 1048576 (by omega) (by omega) w hr1).mono ?_
            rintro e w1 ⟨v2, rfl, ho, hb1⟩
            rw [HG.out] at ho ⊢
            dsimp only at ho ⊢
            go_wp2_with fail
            refine (ref_Open v5 _ w1 (HD5.out w1 (h.later hb1 (Nat.le_refl _)))).mono ?_
            rintro e w2 ⟨v3, rfl, ho3, hb2⟩
            rw [HO.out]
            replace ho := ho.later hb2 (Nat.le_refl _)
            replace hb2 := hb1.trans (hb2.mono hb1.size)
            have hcel2 := hcell1 _ hb2
            go_wp2
            (try simp only [Exit.inBlock, Exit.then]); refine bodyPost_ret (results_tmp4 rfl _ _ _) rfl ?_
            exact RetN.own HB.out ho hb2 (by omega) (by omega) rfl
          · rw [if_neg hq] at hb
            have ho : openA (l.take (n + 5)) = ([], false) := by unfold openA; rw [if_neg hq]
            have HB := Lib.hid hb
            have HO := Lib.hid ho
            clear hb hq ho
            go_enter Try.func15, Try.ntmps15
            go_wp2_with fail
            refine (ref_GetBytes v1 _ 1048576 (by omega) (by omega) w hr1).mono ?_
            rintro e w1 ⟨v2, rfl, ho, hb1⟩
            rw [HG.out] at ho ⊢
            dsimp only at ho ⊢
            go_wp2_with fail
            refine (ref_Open v5 _ w1 (HD5.out w1 (h.later hb1 (Nat.le_refl _)))).mono ?_
            rintro e w2 ⟨v3, rfl, ho3, hb2⟩
            rw [HO.out]
            replace ho := ho.later hb2 (Nat.le_refl _)
            replace hb2 := hb1.trans (hb2.mono hb1.size)
            have hcel2 := hcell1 _ hb2
            go_wp2
            (try simp only [Exit.inBlock, Exit.then]); refine bodyPost_ret (results_tmp4 rfl _ _ _) rfl ?_
            exact RetN.none HB.out hb2 rfl
      · rw [if_pos he] at hb
        have HB := Lib.hid hb
        have hne2 : ((er : Int) != 0) = true := by simp; omega
        clear hb he
        go_enter Try.func15, Try.ntmps15
        go_wp2_with fail
        refine (ref_GetBytes v1 _ 1048576 (by omega) (by omega) w hr1).mono ?_
        rintro e w1 ⟨v2, rfl, ho, hb1⟩
        rw [HG.out]
        dsimp only
        go_wp2
        (try simp only [Exit.inBlock, Exit.then]); refine bodyPost_ret (results_tmp4 rfl _ _ _) rfl ?_
        exact RetN.none HB.out hb1 rfl

end Go.Proofs.Ytgikcbljkkmkgaa
