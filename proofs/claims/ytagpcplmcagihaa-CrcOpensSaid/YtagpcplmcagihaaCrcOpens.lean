/-
  CrcOpens: of any bytes what is opened is the document's, or that nothing is. For every input.
-/
import Derived.Test.YtagpcplmcagihaaCrcWalks
set_option linter.unusedVariables false
set_option linter.unusedSimpArgs false
namespace Go.Proofs.Ytagpcplmcagihaa
open Go.RowKit

theorem openA_len (l : List UInt8) : (openA l).1.length ≤ l.length := by
  unfold openA; split <;> simp

set_option maxHeartbeats 4000000 in
set_option maxRecDepth 20000 in
theorem crcOpens_walk (v : Value) (l : List UInt8) (w : World) (h : Rd w v l) :
    Calls Try.prog 4 #[v] w fun e w' => e = .returned (.bool true) ∧ Below w.heap.size w w' := by
  have hlen := h.len
  have hsm := h.small
  have hol := openA_len l
  by_cases hbig : 3000 < l.length
  · go_enter Try.func4, Try.ntmps4
    go_wp2_with fail
    refine (law02_alive w).mono ?_
    rintro e w1 ⟨rfl, hb⟩
    go_wp2
    go_ret
    exact ⟨rfl, hb⟩
  · go_enter Try.func4, Try.ntmps4
    go_wp2_with fail
    refine (crc_Open v l w h).mono ?_
    rintro e w1 ⟨v1, rfl, ho1, hb1⟩
    have h1 := h.later hb1 (Nat.le_refl _)
    go_wp2_with fail
    refine (ref_Open v l w1 h1).mono ?_
    rintro e w2 ⟨v2, rfl, ho2, hb2⟩
    replace ho1 := ho1.later hb2 (Nat.le_refl _)
    replace hb2 := hb1.trans (hb2.mono hb1.size)
    clear hb1 h1
    generalize openA l = r at ho1 ho2 hol ⊢
    obtain ⟨r1, r2⟩ := r
    dsimp only at ho1 ho2 hol
    go_wp2_with fail
    refine (law02_alive w2).mono ?_
    rintro e w3 ⟨rfl, hb3⟩
    have hs1 := ((ho1.later hb3 (Nat.le_refl _)).rd (by omega)).str
    have hs2 := ((ho2.later hb3 (Nat.le_refl _)).rd (by omega)).str
    replace hb3 := hb2.trans (hb3.mono hb2.size)
    clear ho1 ho2 hb2
    go_wp2
    go_ret
    exact ⟨rfl, hb3⟩

end Go.Proofs.Ytagpcplmcagihaa
