/-
  FrameCuts: each beginning of a frame is too short; what stands behind one plays no part in it. For every input.
-/
import Derived.Test.YtgikcbljkkmkgaaFrameWrites
set_option linter.unusedVariables false
set_option linter.unusedSimpArgs false
set_option maxRecDepth 1000000
namespace Go.Proofs.Ytgikcbljkkmkgaa
open Go.RowKit

set_option maxHeartbeats 1000000 in
theorem frameCuts_walk (k : Int) (v1 : Value) (l : List UInt8) (v2 : Value) (m : List UInt8) (w : World) (hk : 0 ≤ k ∧ k ≤ 255) (h : Rd w v1 l) (h' : Rd w v2 m) :
    Calls Try.prog 8 #[.int .u8 k, v1, v2] w fun e w' => e = .returned (.bool true) ∧ Below w.heap.size w w' := by
  have hlen := h.len
  have hlen' := h'.len
  have hsm := h.small
  have hsm' := h'.small
  go_enter Try.func8, Try.ntmps8
  go_wp2_with fail
  refine (law11_alive w).mono ?_
  rintro e w1 ⟨rfl, hb1⟩
  by_cases hbig : 300 < l.length
  · go_wp2_with fail
    refine (law11_alive w1).mono ?_
    rintro e w2 ⟨rfl, hb2⟩
    replace hb2 := hb1.trans (hb2.mono hb1.size)
    go_wp2
    go_ret
    exact ⟨rfl, hb2⟩
  · by_cases hbig' : 300 < m.length
    · go_wp2_with fail
      refine (law11_alive w1).mono ?_
      rintro e w2 ⟨rfl, hb2⟩
      replace hb2 := hb1.trans (hb2.mono hb1.size)
      go_wp2
      go_ret
      exact ⟨rfl, hb2⟩
    · obtain ⟨q, hq⟩ : ∃ q : Nat, k % 3 = (q : Int) := ⟨(k % 3).toNat, by omega⟩
      have hq2 : q ≤ 2 := by omega
      go_wp2_with fail
      refine (frame_Write q v1 l w1 (h.later hb1 (Nat.le_refl _))).mono ?_
      rintro e w2 ⟨vb, rfl, ho2, hb2⟩
      replace hb2 := hb1.trans (hb2.mono hb1.size)
      have hfs := frB_small q (l := l) (by omega)
      have hnx := nxF_put q hq2 l m (by omega)
      have hcut := nxF_cut q hq2 l (by omega)
      rw [wrF_fine hq2 (by omega)] at ho2 ⊢
      obtain ⟨b, hb⟩ : ∃ b, b = frB q l := ⟨_, rfl⟩
      rw [← hb] at ho2 hfs hnx hcut ⊢
      dsimp only at ho2 ⊢
      clear hb
      have hr2 := ho2.rd (by omega)
      have hl2 := hr2.len
      have HN := Lib.hid (And.intro hnx hcut)
      clear hnx hcut
      obtain ⟨n, hn⟩ : ∃ n, n = b.length := ⟨_, rfl⟩
      rw [← hn] at hl2 hfs HN
      go_wp2
      go_loopw [43] (fun i wr => ∃ j : Nat, j ≤ n ∧ i = .int .i64 j ∧ Hid (Below w2.heap.size w2 wr)) (fun i _ => n - (intOf i).toNat)
      case atStart => exact ⟨0, by omega, rfl, Lib.hid (Below.refl _ _)⟩
      case round =>
        obtain ⟨j, hj, rfl, HB⟩ := hrel
        have hrr := hr2.later HB.out (Nat.le_refl _)
        by_cases hlt : j < n
        · obtain ⟨v3, hs3, hd3⟩ := hrr.upto j (by omega)
          have hr3 := hd3 wr hrr
          clear hd3
          go_wp2_with fail
          refine (frame_Next v3 _ wr hr3).mono ?_
          rintro e w3 ⟨v4, rfl, ho4, hb4⟩
          rw [HN.out.2 j hlt] at ho4 ⊢
          dsimp only at ho4 ⊢
          have hl4 := (ho4.rd (by simp)).len
          have HB4 := Lib.hid (HB.out.trans (hb4.mono HB.out.size))
          clear ho4 hb4
          go_wp2
          go_roundw
          case rel => exact ⟨j + 1, by omega, by go_num, HB4⟩
          case measure => simp [intOf]; omega
        · obtain rfl : j = n := by omega
          have hb3 := hb2.trans (HB.out.mono hb2.size)
          go_wp2_with (with_reducible refine wpl_append wr.heap.size _ [] ?hs (own_empty wr wr.heap.size (Nat.le_refl _)) _ b ?hx (hrr.alloc _) ?hn ?hbase wr.heap.size wr ((Below.refl _ _).alloc (Nat.le_refl _) _) (Nat.le_refl _) ?_)
          case hs => rfl
          case hx => rfl
          case hn => simp; omega
          case hbase => simp
          intro v4 w4 ho4 hb4 _
          rw [List.nil_append] at ho4
          have hb5 := hb3.trans (hb4.mono hb3.size)
          go_wp2_with (with_reducible refine wpl_append wr.heap.size _ b ?hs1 ho4 _ m ?hx1 (h'.later hb5 (Nat.le_refl _)) ?hn1 ?hbase1 wr.heap.size wr hb4 (Nat.le_refl _) ?_)
          case hs1 => rfl
          case hx1 => rfl
          case hn1 => omega
          case hbase1 => exact hb4.size
          intro v6 w6 ho6 hb6 _
          clear ho4 hb4 hb5
          have hr6 := ho6.rd (by simp; omega)
          go_wp2_with fail
          refine (frame_Next v6 _ w6 hr6).mono ?_
          rintro e w7 ⟨v7, rfl, ho7, hb7⟩
          rw [HN.out.1] at ho7 ⊢
          dsimp only at ho7 ⊢
          have hs7 := (ho7.rd (by omega)).str
          have hb8 := hb6.trans (hb7.mono hb6.size)
          have hb9 := hb3.trans (hb8.mono hb3.size)
          have hs8 := (h.later hb9 (Nat.le_refl _)).str
          clear ho6 hr6 ho7 hb6 hb7
          go_wp2
          go_ret
          exact ⟨rfl, hb9⟩

end Go.Proofs.Ytgikcbljkkmkgaa
