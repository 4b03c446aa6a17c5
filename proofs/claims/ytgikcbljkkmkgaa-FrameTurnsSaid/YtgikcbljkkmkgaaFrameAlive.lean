/-
  The example that all of layer 11's laws ask for.
-/
import Derived.Test.YtgikcbljkkmkgaaFrame
import Derived.Test.YtgikcbljkkmkgaaFrames
import Derived.Test.YtgikcbljkkmkgaaCrcTurns
set_option linter.unusedVariables false
set_option linter.unusedSimpArgs false
set_option maxRecDepth 1000000
namespace Go.Proofs.Ytgikcbljkkmkgaa
open Go.RowKit

theorem frX_seven : frX 2 [7] = [2, 1, 7] := by
  unfold frX encB
  rw [show ([7] : List UInt8).length = 1 from rfl, encU_lt (by decide)]
  rfl
theorem wrF_fine {k : Nat} {l : List UInt8} (hk : k ≤ 2) (hl : l.length ≤ 1048576) : wrF (k : Int) l = (frB k l, 0) := by
  unfold wrF; rw [if_neg (by omega), if_neg (by omega), Int.toNat_natCast]
theorem openA_frame (k : Nat) (l : List UInt8) : openA (frB k l) = (frX k l, true) := openA_seal _

set_option maxHeartbeats 400000 in
theorem law11_alive (w : World) : Calls Try.prog 9 #[] w fun e w' => e = .returned (.bool true) ∧ Below w.heap.size w w' := by
  have h4 := rd_lit w [7] (by decide) (0, 0)
  have hw := wrF_fine (k := 2) (l := [7]) (by omega) (by decide)
  have ho := openA_frame 2 [7]
  have hx := nxF_put 2 (by omega) [7] [9, 9] (by decide)
  have hlen : (frB 2 [7]).length = 7 := by rw [frB_length, show ([7] : List UInt8).length = 1 from rfl, encU_lt (by decide)]; rfl
  rw [frX_seven] at ho
  rw [hlen] at hx
  obtain ⟨b, hb⟩ : ∃ b, b = frB 2 [7] := ⟨_, rfl⟩
  rw [← hb] at hw ho hx hlen
  have H := Lib.hid (And.intro hw (And.intro ho hx))
  have HL := Lib.hid hlen
  clear hw ho hx hb hlen
  have hb0 : Below w.heap.size w (w.alloc (.cells #[.int .u8 7] 5 (0, 0))) := (Below.refl _ _).alloc (Nat.le_refl _) _
  go_enter Try.func9, Try.ntmps9
  go_wp2_with fail
  refine (frame_Write 2 _ [7] _ h4).mono ?_
  rintro e w1 ⟨v1, rfl, ho1, hb1⟩
  rw [show wrF (2 : Int) [7] = (b, 0) from H.out.1] at ho1 ⊢
  have hW1 := hb0.trans (hb1.mono hb0.size)
  have hr1 := ho1.rd (by have := HL.out; dsimp only; omega)
  go_wp2_with fail
  refine (crc_Open v1 _ w1 hr1).mono ?_
  rintro e w2 ⟨v2, rfl, ho2, hb2⟩
  rw [H.out.2.1] at ho2 ⊢
  dsimp only at ho1 ho2 ⊢
  have hlt1 := own_block_lt ho1
  have hW2 := hW1.trans (hb2.mono hW1.size)
  have ho1 := (ho1.later hb2 (Nat.le_refl _)).base hb0.size
  have ho2a := ho2.alloc (.cells #[.int .u8 9, .int .u8 9] 5 (0, 0))
  have h9 : Rd (w2.alloc (.cells #[.int .u8 9, .int .u8 9] 5 (0, 0))) (.slice (some ⟨w2.heap.size, 0, none⟩) 2 2) [9, 9] := rd_lit w2 [9, 9] (by decide) (0, 0)
  go_wp2_with (with_reducible refine wpl_append w.heap.size _ b ?hs (ho1.alloc _) _ [9, 9] ?hx h9 ?hn ?hbase w.heap.size w (hW2.alloc hW2.size _) (Nat.le_refl _) ?_)
  case hs => rfl
  case hx => rfl
  case hn => have := HL.out; simp; omega
  case hbase => have := hW2.size; simp; omega
  intro v3 w3 ho3 hb3 hg3
  have ho2b := ho2a.grown hg3 (fun k hk e => by have := hlt1 k e.symm; have := (World.ownsRow.lt ho2a k hk).1; omega)
  have hr3 := ho3.rd (by have := HL.out; simp; omega)
  go_wp2_with fail
  refine (frame_Next v3 _ w3 hr3).mono ?_
  rintro e w4 ⟨v4, rfl, ho4, hb4⟩
  rw [H.out.2.2] at ho4 ⊢
  dsimp only at ho4 ⊢
  have hs1 := ((ho2b.later hb4 (Nat.le_refl _)).rd (by decide)).str
  have hs2 := (ho4.rd (by decide)).str
  have hW4 := hb3.trans (hb4.mono hb3.size)
  clear ho1 ho2 ho2a ho2b ho3 ho4 hg3
  go_wp2
  go_ret
  exact ⟨rfl, hW4⟩

end Go.Proofs.Ytgikcbljkkmkgaa
