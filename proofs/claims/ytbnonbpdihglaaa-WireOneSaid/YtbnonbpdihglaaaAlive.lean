/-
  The document's examples for layer 1: 'alive' answers true.
-/
import Derived.Test.YtbnonbpdihglaaaWireGet
import Derived.Lib.SlBytesConst
set_option linter.unusedVariables false
set_option linter.unusedSimpArgs false
namespace Go.Proofs.Ytbnonbpdihglaaa
open Go.RowKit

theorem getU_ex : getU [128, 0] = (0, 0, 6) :=
  getU_form (k := 1) (fun j hj => by obtain rfl : j = 0 := by omega
                                     decide) (by decide) (by decide) (by decide) (by decide)

theorem encU_300 : encU 300 = [172, 2] := by rw [encU_ge (by decide), encU_lt (by decide)]; rfl
theorem encU_1 : encU 1 = [1] := by rw [encU_lt (by decide)]; rfl
theorem encU_2 : encU 2 = [2] := by rw [encU_lt (by decide)]; rfl
theorem encB_ab : encB [97, 98] = [2, 97, 98] := by unfold encB; rw [show ([97, 98] : List UInt8).length = 2 from rfl, encU_2]; rfl

set_option maxHeartbeats 1000000 in
set_option maxRecDepth 20000 in
theorem law01_alive (w : World) : Calls Try.prog 9 #[] w fun e w' => e = .returned (.bool true) ∧ Below w.heap.size w w' := by
  have h1 := rd_lit w [128, 0] (by decide) (0, 0)
  have HX := Lib.hid getU_ex
  go_enter Try.func9, Try.ntmps9
  go_wp2_with fail
  refine (wire_GetUint _ [128, 0] _ h1).mono ?_
  rintro e w1 ⟨rfl, hw1⟩
  have hb1 : Below w.heap.size w w1 := by rw [← hw1]; exact (Below.refl _ _).alloc (Nat.le_refl _) _
  clear hw1 h1
  rw [HX.out]
  go_wp2_with fail
  refine (wire_Uint _ (by decide) (by decide) w1).mono ?_
  rintro e w2 ⟨v2, rfl, ho2, hb2⟩
  have hs2 := (ho2.rd (by rw [show (300 : Int).toNat = 300 from rfl, encU_300]; decide)).str
  rw [show (300 : Int).toNat = 300 from rfl, encU_300] at hs2
  have hb2' := hb1.trans (hb2.mono hb1.size)
  clear ho2 hb2
  go_wp2_with fail
  refine (wire_Int _ (by decide) (by decide) w2).mono ?_
  rintro e w3 ⟨v3, rfl, ho3, hb3⟩
  rw [show zig (-1) = 1 from rfl, encU_1] at ho3
  have hs3 := (ho3.rd (by decide)).str
  have hb3' := hb2'.trans (hb3.mono hb2'.size)
  clear ho3 hb3 hs2
  have hcv := Lib.run_convert_bytes_const (P := Try.prog) w3 23 5 #[.int .u8 97, .int .u8 98] 2 2 Try.underlying23 Try.underlying5
  have h4 := rd_lit w3 [97, 98] (by decide) (2, 3)
  have hb4 : Below w.heap.size w (w3.alloc (.cells #[.int .u8 97, .int .u8 98] 5 (2, 3))) := hb3'.alloc hb3'.size _
  go_wp2_with fail
  refine (wire_Bytes _ [97, 98] _ h4).mono ?_
  rintro e w5 ⟨v5, rfl, ho5, hb5⟩
  rw [encB_ab] at ho5
  have hs5 := (ho5.rd (by decide)).str
  have hb5' := hb4.trans (hb5.mono hb4.size)
  clear ho5 hb5 hs3 hcv h4
  go_wp2_with fail
  go_ret
  exact ⟨rfl, hb5'⟩

end Go.Proofs.Ytbnonbpdihglaaa
