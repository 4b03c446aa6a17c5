/- -/
import Derived.Test.YtmbpdpcinhhclaaGreatDoorKTrcM
import Derived.Test.YtmbpdpcinhhclaaGreatDoorBatLen
set_option linter.unusedVariables false
set_option linter.unusedSimpArgs false
set_option maxRecDepth 1000000
namespace Go.Proofs.YtmbpdpcinhhclaaGreatDoor
open Go.RowKit Go.Shelf

theorem view_len {cs : List ColB} {view all : List PairB} (h : Fold cs view all) : view.length ≤ all.length := by
  rcases h.end with ⟨h1, h2⟩ | ⟨h1, h2⟩
  · omega
  · rw [← h2]; exact clc_len cs all
theorem deltas_len : ∀ (es : List EntB), (deltas es).length ≤ (es.map fun x => x.2.2.length).sum
  | [] => by simp [deltas]
  | x :: t => by
    have ih := deltas_len t
    rw [deltas_cons, List.length_append, List.map_cons, List.sum_cons]
    split
    · omega
    · simp; omega
theorem entP_small {cs : List ColB} {x : EntB} (hS : errS (colsL cs) = 0) (hs : 0 ≤ x.2.1 ∧ x.2.1 ≤ 281474976710656) (hz : Zs cs x.2.2) (hl : x.2.2.length ≤ 400) : (entP cs x).length ≤ 1048576 := by
  have h1 := wr_le hz.1 hz.2
  have h2 := text_small (cs := cs) (ps := x.2.2) (fun p hp => hz.all p hp)
  have hc : cs.length ≤ 8 := by have := (errS_zero hS).2.1; rw [colsL_length] at this; exact this
  have h3 : 10 * x.2.2.length * (cs.length + 1) ≤ 10 * x.2.2.length * 9 := Nat.mul_le_mul_left _ (by omega)
  have h4 := encU_le x.2.1.toNat (by omega)
  unfold entP
  rw [List.length_append]
  omega
theorem trW_snap {cs : List ColB} {es : List EntB} (hS : errS (colsL cs) = 0) (hO : ∀ x ∈ es, EnO x) (h : (trW cs 0 0 [] es).2.2.2.2 = 0) (hl : es.length < 4096) (hd : (deltas es).length ≤ 400) :
    (trW cs 0 0 [] (es ++ [(1, (trW cs 0 0 [] es).2.1, (trW cs 0 0 [] es).2.2.1)])).2.2.2.2 = 0 ∧
    (trW cs 0 0 [] (es ++ [(1, (trW cs 0 0 [] es).2.1, (trW cs 0 0 [] es).2.2.1)])).2.1 = (trW cs 0 0 [] es).2.1 ∧
    (trW cs 0 0 [] (es ++ [(1, (trW cs 0 0 [] es).2.1, (trW cs 0 0 [] es).2.2.1)])).2.2.1 = (trW cs 0 0 [] es).2.2.1 := by
  obtain ⟨f1, f2, f3⟩ := trW_view es 0 0 [] [] hO h Fold.nil
  rw [List.nil_append] at f1
  have hz := f1.set hS
  have hvl := view_len f1
  have hdn : (deltaN es : Int) ≤ 4096 := by
    have : deltaN es ≤ es.length := List.length_filter_le _ _
    omega
  have e := trW_app es [(1, (trW cs 0 0 [] es).2.1, (trW cs 0 0 [] es).2.2.1)] 0 0 [] h
  generalize trW cs 0 0 [] es = A at *
  have hs : 0 ≤ A.2.1 ∧ A.2.1 ≤ 281474976710656 := by omega
  obtain ⟨a1, a2⟩ := ap_snap (s := A.2.1) hz hz hs
  rw [if_pos rfl] at a1
  obtain ⟨a3, a4⟩ := a2 rfl
  have hp := entP_small (x := (1, A.2.1, A.2.2.1)) hS hs hz (by dsimp only; omega)
  have hW : (entW cs (1, A.2.1, A.2.2.1)).2 = 0 := by
    unfold entW
    rw [if_neg (fun h => h (ent_ok hz (.inr rfl) hs))]
    unfold wrF
    rw [if_neg (by dsimp only; omega), if_neg (by omega)]
  have h7 : ∀ n, trW cs n A.2.1 A.2.2.1 [] = ([], A.2.1, A.2.2.1, n, 0) := fun n => by rw [trW]
  have h8 := trW_of (cs := cs) (i := 0 + es.length) (s := A.2.1) (v := A.2.2.1) (x := (1, A.2.1, A.2.2.1)) (t := []) (by omega) a1 hW (by rw [a3, a4, h7])
  rw [a3, a4, h7] at h8
  rw [h8, if_neg (by simp)] at e
  rw [e]
  exact ⟨rfl, rfl, rfl⟩

end Go.Proofs.YtmbpdpcinhhclaaGreatDoor
