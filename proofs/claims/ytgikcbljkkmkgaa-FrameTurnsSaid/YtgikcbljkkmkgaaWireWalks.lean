/-
  The walks of layer 1's functions: what each call answers, of the program and of the document's own answers.
-/
import Derived.Test.YtgikcbljkkmkgaaWireMath
set_option linter.unusedVariables false
set_option linter.unusedSimpArgs false
set_option maxRecDepth 1000000
namespace Go.Proofs.Ytgikcbljkkmkgaa
open Go.RowKit

set_option maxHeartbeats 400000 in
set_option maxRecDepth 1000000 in
theorem wire_GetUint (v : Value) (l : List UInt8) (w : World) (h : Rd w v l) :
    Calls Try.prog 37 #[v] w fun e w' => e = .returned (.tuple #[.int .u64 (getU l).1, .int .i64 (getU l).2.1, .int .i64 (getU l).2.2]) ∧ w = w' := by
  have hlen := h.len
  have hidx := h.idx
  have hcel := h.cells
  have hsm := h.small
  go_enter Try.func37, Try.ntmps37
  go_wp2
  all_goals
    go_loop [5, 11] (fun x i => ∃ (k : Nat) (X : Int), k ≤ l.length ∧ k ≤ 10 ∧ i = .int .i64 k ∧ x = .int .u64 X ∧ Hid ((∀ j, j < k → 128 ≤ at8 l j) ∧ (k ≤ 9 → X = valU (l.take k)))) (fun _ i => 10 - (intOf i).toNat)
    case atStart => exact ⟨0, 0, by omega, by omega, rfl, rfl, ⟨fun j hj => absurd hj (by omega), fun _ => rfl⟩⟩
    case round =>
      obtain ⟨k, X, hkl, hk10, rfl, rfl, HI⟩ := hrel
      have hc0 := at8_lo l k
      have hc1 := at8_hi l k
      by_cases hlt : k < l.length ∧ k < 10
      · obtain ⟨hlt, hlt10⟩ := hlt
        go_wp2
        all_goals first
          | (go_round
             case rel => exact ⟨k + 1, _, by omega, by omega, by go_num, rfl, ⟨fun j hj => (by
                 by_cases e : j = k
                 · subst e; omega
                 · exact HI.1 j (by omega)), fun h9 => round_or (HI.2 (by omega)) hlt (by omega) _ (by omega) (by omega) (by omega)⟩⟩
             case measure => simp [intOf]; omega)
          | (go_ret3
             refine ⟨?_, rfl⟩
             first
               | exact ret3 (getU_big HI.1 (by omega) hlt (by assumption) (by assumption)) rfl rfl rfl
               | exact ret3 (getU_form HI.1 (by omega) hlt (eq_of_beq (by assumption)) (by omega)) rfl rfl rfl
               | (have hz : (at8 l k == 0) = false := by assumption
                  have hz' : at8 l k ≠ 0 := by simpa using hz
                  first
                    | exact ret3 (getU_ok HI.1 (by omega) hlt (by assumption) (fun _ => by omega) (fun _ => hz')) (round_or9 (HI.2 (by omega)) hlt (by assumption) (by omega) (by omega)) (by omega) rfl
                    | exact ret3 (getU_ok HI.1 (by omega) hlt (by assumption) (fun _ => by omega) (fun _ => hz')) (round_or (HI.2 (by omega)) hlt (by omega) _ (by omega) (by omega) (by omega)) (by omega) rfl)
               | exact ret3 (getU_ok HI.1 (by omega) hlt (by assumption) (fun _ => by omega) (fun _ => by omega)) (round_or (HI.2 (by omega)) hlt (by omega) _ (by omega) (by omega) (by omega)) (by omega) rfl)
      · have hge : l.length ≤ k ∨ 10 ≤ k := by omega
        clear hlt
        go_wp2
        all_goals go_ret3
        all_goals refine ⟨?_, rfl⟩
        all_goals first
          | exact ret3 (getU_short HI.1 (by omega) (by omega)) rfl rfl rfl
          | exact ret3 (getU_full HI.1 (by omega) (by omega)) rfl rfl rfl

end Go.Proofs.Ytgikcbljkkmkgaa
