/-
  FrameWrites: of any kind and payload the bytes are the document's, or why there are none, and how many they are. For every input.
-/
import Derived.Test.YtgikcbljkkmkgaaFrameAlive
import Derived.Test.YtgikcbljkkmkgaaFrameRef
set_option linter.unusedVariables false
set_option linter.unusedSimpArgs false
set_option maxRecDepth 1000000
namespace Go.Proofs.Ytgikcbljkkmkgaa
open Go.RowKit

theorem szF_frB (k : Nat) {l : List UInt8} (hl : l.length ≤ 1048576) : szF (l.length : Int) = ((frB k l).length : Int) := by
  unfold szF
  rw [if_neg (by omega), frB_length, Int.toNat_natCast]
  omega
theorem wrF_bad {k : Int} {l : List UInt8} (hk : k < 0 ∨ 2 < k) : wrF k l = ([], 10) := by unfold wrF; rw [if_pos hk]

set_option maxHeartbeats 1000000 in
theorem frameWrites_walk (k : Int) (v : Value) (l : List UInt8) (n : Int) (w : World) (hk : -9223372036854775808 ≤ k ∧ k ≤ 9223372036854775807) (h : Rd w v l) (hn : -9223372036854775808 ≤ n ∧ n ≤ 9223372036854775807) :
    Calls Try.prog 3 #[.int .i64 k, v, .int .i64 n] w fun e w' => e = .returned (.bool true) ∧ Below w.heap.size w w' := by
  have hlen := h.len
  have hsm := h.small
  go_enter Try.func3, Try.ntmps3
  go_wp2_with fail
  refine (law11_alive w).mono ?_
  rintro e w1 ⟨rfl, hb1⟩
  by_cases hbig : 4000 < l.length
  · go_wp2_with fail
    refine (law11_alive w1).mono ?_
    rintro e w2 ⟨rfl, hb2⟩
    replace hb2 := hb1.trans (hb2.mono hb1.size)
    go_wp2
    go_ret
    exact ⟨rfl, hb2⟩
  · go_wp2_with fail
    refine (frame_Write k v l w1 (h.later hb1 (Nat.le_refl _))).mono ?_
    rintro e w2 ⟨v2, rfl, ho2, hb2⟩
    replace hb2 := hb1.trans (hb2.mono hb1.size)
    go_wp2_with fail
    refine (ref_Write11 k v l w2 (h.later hb2 (Nat.le_refl _))).mono ?_
    rintro e w3 ⟨v3, rfl, ho3, hb3⟩
    replace ho2 := ho2.later hb3 (Nat.le_refl _)
    replace hb3 := hb2.trans (hb3.mono hb2.size)
    by_cases hk2 : k < 0 ∨ 2 < k
    · rw [wrF_bad hk2] at ho2 ho3 ⊢
      have hs2 := (ho2.rd (by simp)).str
      have hs3 := (ho3.rd (by simp)).str
      clear hk2
      go_wp2_with fail
      refine (frame_Size n hn.1 hn.2 w3).mono ?_
      rintro e w4 ⟨rfl, rfl⟩
      go_wp2_with fail
      refine (ref_Size11 n hn.1 hn.2 w3).mono ?_
      rintro e w4 ⟨rfl, hb4⟩
      replace hb4 := hb3.trans (hb4.mono hb3.size)
      obtain ⟨z, hz⟩ : ∃ z, z = szF n := ⟨_, rfl⟩
      rw [← hz]
      go_wp2
      go_ret
      exact ⟨rfl, hb4⟩
    · obtain ⟨q, rfl⟩ := Int.eq_ofNat_of_zero_le (show 0 ≤ k by omega)
      rw [wrF_fine (by omega) (by omega)] at ho2 ho3 ⊢
      have hsz := szF_frB q (l := l) (by omega)
      have hfs := frB_small q (l := l) (by omega)
      obtain ⟨b, hb⟩ : ∃ b, b = frB q l := ⟨_, rfl⟩
      rw [← hb] at ho2 ho3 hsz hfs ⊢
      dsimp only at ho2 ho3 ⊢
      clear hb
      have hr2 := ho2.rd (by omega)
      have hl2 := hr2.len
      have hs2 := hr2.str
      have hs3 := (ho3.rd (by omega)).str
      have HS := Lib.hid hsz
      clear hsz
      go_wp2_with fail
      refine (frame_Size l.length (by omega) (by omega) w3).mono ?_
      rintro e w4 ⟨rfl, rfl⟩
      rw [HS.out]
      go_wp2_with fail
      refine (frame_Size n hn.1 hn.2 w3).mono ?_
      rintro e w4 ⟨rfl, rfl⟩
      go_wp2_with fail
      refine (ref_Size11 n hn.1 hn.2 w3).mono ?_
      rintro e w4 ⟨rfl, hb4⟩
      replace hb4 := hb3.trans (hb4.mono hb3.size)
      obtain ⟨z, hz⟩ : ∃ z, z = szF n := ⟨_, rfl⟩
      rw [← hz]
      go_wp2
      go_ret
      exact ⟨rfl, hb4⟩

end Go.Proofs.Ytgikcbljkkmkgaa
