/-
  FrameLong: a payload of as many bytes as there may be is written and read, and none of one more. For every input.
-/
import Derived.Test.YtgikcbljkkmkgaaFrameWrites
set_option linter.unusedVariables false
set_option linter.unusedSimpArgs false
set_option maxRecDepth 1000000
namespace Go.Proofs.Ytgikcbljkkmkgaa
open Go.RowKit

set_option maxHeartbeats 1000000 in
theorem frameLong_walk (m : Int) (w : World) (hm : 0 ≤ m ∧ m ≤ 255) :
    Calls Try.prog 5 #[.int .u8 m] w fun e w' => e = .returned (.bool true) ∧ Below w.heap.size w w' := by
  obtain ⟨z, hz⟩ : ∃ z : Nat, 1048575 + m % 3 = (z : Int) := ⟨(1048575 + m % 3).toNat, by omega⟩
  have hz1 : 1048575 ≤ z ∧ z ≤ 1048577 := by omega
  have hmk := make_bytes (z : Int) (by omega) (by omega)
  simp only [Int.toNat_natCast] at hmk
  have h0 : Rd (w.alloc (.cells (cellsB (List.replicate z 0)).toArray 5)) (.slice (some ⟨w.heap.size, 0, none⟩) z z) (List.replicate z 0) := by
    have := rd_lit w (List.replicate z 0) (by simp; omega) (0, 0)
    rwa [List.length_replicate] at this
  have hb0 : Below w.heap.size w (w.alloc (.cells (cellsB (List.replicate z 0)).toArray 5)) := (Below.refl _ _).alloc (Nat.le_refl _) _
  have hll : (List.replicate z (0 : UInt8)).length = z := List.length_replicate
  obtain ⟨l, hl⟩ : ∃ l, l = List.replicate z (0 : UInt8) := ⟨_, rfl⟩
  rw [← hl] at hmk h0 hb0 hll
  clear hl
  go_enter Try.func5, Try.ntmps5
  go_wp2_with fail
  refine (frame_Write 1 _ l _ h0).mono ?_
  rintro e w1 ⟨v1, rfl, ho1, hb1⟩
  replace hb1 := hb0.trans (hb1.mono hb0.size)
  by_cases hbig : 1048576 < z
  · have hw : wrF 1 l = ([], 13) := by unfold wrF; rw [if_neg (by omega), if_pos (by omega)]
    have hsz : szF z = 0 := by unfold szF; rw [if_pos (by omega)]
    rw [hw] at ho1 ⊢
    have hl1 := (ho1.rd (by simp)).len
    have HS := Lib.hid hsz
    clear hsz hw
    go_wp2_with fail
    refine (law11_alive w1).mono ?_
    rintro e w2 ⟨rfl, hb2⟩
    replace hb2 := hb1.trans (hb2.mono hb1.size)
    go_wp2_with fail
    refine (frame_Size z (by omega) (by omega) w2).mono ?_
    rintro e w3 ⟨rfl, rfl⟩
    rw [HS.out]
    go_wp2
    go_ret
    exact ⟨rfl, hb2⟩
  · have hw := wrF_fine (k := 1) (l := l) (by omega) (by omega)
    have hsz := szF_frB 1 (l := l) (by omega)
    have hfs := frB_small 1 (l := l) (by omega)
    have hnx := nxF_put 1 (by omega) l [] (by omega)
    rw [List.append_nil] at hnx
    rw [hll] at hsz
    rw [show wrF (1 : Int) l = (frB 1 l, 0) from hw] at ho1 ⊢
    obtain ⟨b, hb⟩ : ∃ b, b = frB 1 l := ⟨_, rfl⟩
    rw [← hb] at ho1 hsz hfs hnx ⊢
    dsimp only at ho1 ⊢
    clear hb hw
    have hr1 := ho1.rd (by omega)
    have hl1 := hr1.len
    have HS := Lib.hid hsz
    have HN := Lib.hid hnx
    clear hsz hnx
    go_wp2_with fail
    refine (frame_Next v1 b w1 hr1).mono ?_
    rintro e w2 ⟨v2, rfl, ho2, hb2⟩
    rw [HN.out] at ho2 ⊢
    dsimp only at ho2 ⊢
    replace hb2 := hb1.trans (hb2.mono hb1.size)
    have hl2 := (ho2.rd (by omega)).len
    rw [hll] at hl2
    go_wp2_with fail
    refine (law11_alive w2).mono ?_
    rintro e w3 ⟨rfl, hb3⟩
    replace hb3 := hb2.trans (hb3.mono hb2.size)
    go_wp2_with fail
    refine (frame_Size z (by omega) (by omega) w3).mono ?_
    rintro e w4 ⟨rfl, rfl⟩
    rw [HS.out]
    go_wp2
    go_ret
    exact ⟨rfl, hb3⟩

end Go.Proofs.Ytgikcbljkkmkgaa
