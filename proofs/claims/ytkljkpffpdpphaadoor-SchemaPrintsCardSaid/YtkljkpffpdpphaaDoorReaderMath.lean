/-
  Pieces that lie one behind the other, and what a reader takes of them: the mathematics of layer 3's laws without the document. No program.
-/
import Derived.Test.YtkljkpffpdpphaaDoorWireMath2
import Derived.Test.YtkljkpffpdpphaaDoorReader
set_option linter.unusedVariables false
set_option linter.unusedSimpArgs false
set_option maxRecDepth 1000000
namespace Go.Proofs.YtkljkpffpdpphaaDoor

/-- Where piece j begins. -/
def stOf (cs : List (List UInt8)) (j : Nat) : Nat := (cs.take j).flatten.length

theorem stOf_zero (cs : List (List UInt8)) : stOf cs 0 = 0 := by simp [stOf]
theorem stOf_all (cs : List (List UInt8)) : stOf cs cs.length = cs.flatten.length := by simp [stOf]
theorem stOf_succ {cs : List (List UInt8)} {j : Nat} (h : j < cs.length) : stOf cs (j + 1) = stOf cs j + (cs.getD j []).length := by
  unfold stOf
  rw [List.take_succ_eq_append_getElem h, List.flatten_append, List.length_append]
  congr 1
  simp [List.getD, h]
theorem stOf_mono {cs : List (List UInt8)} {i j : Nat} (h : i ≤ j) : stOf cs i ≤ stOf cs j := by
  unfold stOf
  obtain ⟨k, rfl⟩ := Nat.exists_eq_add_of_le h
  rw [List.take_add]
  simp
theorem stOf_le (cs : List (List UInt8)) (j : Nat) : stOf cs j ≤ cs.flatten.length := by
  rw [← stOf_all]
  rcases Nat.le_total j cs.length with h | h
  · exact stOf_mono h
  · unfold stOf; rw [List.take_of_length_le h, List.take_length]; exact Nat.le_refl _

theorem drop_stOf {cs : List (List UInt8)} {j : Nat} (h : j < cs.length) : cs.flatten.drop (stOf cs j) = cs.getD j [] ++ (cs.drop (j + 1)).flatten := by
  have e : cs.flatten = (cs.take j).flatten ++ (cs.drop j).flatten := by rw [← List.flatten_append, List.take_append_drop]
  rw [e]
  unfold stOf
  rw [List.drop_left, List.drop_eq_getElem_cons h, List.flatten_cons]
  simp [List.getD, h]

/-- Behind n bytes all is cut off. -/
theorem cut_stOf {cs : List (List UInt8)} {j n : Nat} (h : j < cs.length) (hn : stOf cs (j + 1) ≤ n) : ∃ m, (cs.flatten.take n).drop (stOf cs j) = cs.getD j [] ++ m := by
  rw [List.drop_take, drop_stOf h, List.take_append, List.take_of_length_le (by rw [stOf_succ h] at hn; omega)]
  exact ⟨_, rfl⟩
theorem cut_stOf' {cs : List (List UInt8)} {j n : Nat} (h : j < cs.length) (h0 : stOf cs j ≤ n) (hn : n < stOf cs (j + 1)) : (cs.flatten.take n).drop (stOf cs j) = (cs.getD j []).take (n - stOf cs j) ∧ n - stOf cs j < (cs.getD j []).length := by
  rw [stOf_succ h] at hn
  refine ⟨?_, by omega⟩
  rw [List.drop_take, drop_stOf h, List.take_append_of_le_length (by omega)]

theorem getB_put' (l m : List UInt8) (most : Int) (hl : l.length < 2 ^ 63) (h0 : (l.length : Int) ≤ most) : getB (encB l ++ m) most = (l, (encB l).length, 0) := by
  have h := getU_put l.length (by omega) (l ++ m)
  unfold getB encB
  rw [List.append_assoc, h]
  dsimp only
  rw [if_neg (by simp), if_neg (by omega), if_neg (by simp)]
  rw [List.drop_left, List.take_left]
  simp

theorem getB_cut' (l : List UInt8) (i : Nat) (most : Int) (hl : l.length < 2 ^ 63) (h0 : (l.length : Int) ≤ most) (hi : i < (encB l).length) : getB ((encB l).take i) most = ([], 0, 5) := by
  have hlen : (encB l).length = (encU l.length).length + l.length := by simp [encB]
  by_cases h : i < (encU l.length).length
  · have e : (encB l).take i = (encU l.length).take i := by unfold encB; rw [List.take_append_of_le_length (by omega)]
    rw [e]
    unfold getB
    rw [getU_cut l.length i (by omega) h]
    simp
  · have e : (encB l).take i = encU l.length ++ l.take (i - (encU l.length).length) := by
      unfold encB; rw [List.take_append, List.take_of_length_le (by omega)]
    rw [e]
    unfold getB
    rw [getU_put l.length (by omega)]
    dsimp only
    rw [if_neg (by simp), if_neg (by omega), if_pos (by simp; omega)]

section
variable {cs : List (List UInt8)} {j n : Nat}

/-- A number is taken. -/
theorem rdU_piece {x : Nat} {most : Nat} (hx : x < 2 ^ 64) (hm : x ≤ most) (h : j < cs.length) (hc : cs.getD j [] = encU x) (hn : stOf cs (j + 1) ≤ n) : rdU (cs.flatten.take n) (stOf cs j) most = (x, stOf cs (j + 1), 0) := by
  obtain ⟨m, e⟩ := cut_stOf h hn
  unfold rdU
  rw [e, hc, getU_put x hx]
  dsimp only
  rw [if_neg (by simp), if_neg (by omega), stOf_succ h, hc]
theorem rdU_short {x : Nat} {most : Nat} (hx : x < 2 ^ 64) (h : j < cs.length) (hc : cs.getD j [] = encU x) (h0 : stOf cs j ≤ n) (hn : n < stOf cs (j + 1)) : rdU (cs.flatten.take n) (stOf cs j) most = (0, stOf cs j, 5) := by
  obtain ⟨e, hl⟩ := cut_stOf' h h0 hn
  unfold rdU
  rw [hc] at e hl
  rw [e, getU_cut x _ hx hl]
  dsimp only
  rw [if_pos (by simp)]
theorem rdB_piece {b : List UInt8} {most : Int} (hb : b.length < 2 ^ 63) (hm : (b.length : Int) ≤ most) (h : j < cs.length) (hc : cs.getD j [] = encB b) (hn : stOf cs (j + 1) ≤ n) : rdB (cs.flatten.take n) (stOf cs j) most = (b, stOf cs (j + 1), 0) := by
  obtain ⟨m, e⟩ := cut_stOf h hn
  unfold rdB
  rw [e, hc, getB_put' b m most hb hm]
  dsimp only
  rw [if_neg (by simp), stOf_succ h, hc]
theorem rdB_short {b : List UInt8} {most : Int} (hb : b.length < 2 ^ 63) (hm : (b.length : Int) ≤ most) (h : j < cs.length) (hc : cs.getD j [] = encB b) (h0 : stOf cs j ≤ n) (hn : n < stOf cs (j + 1)) : rdB (cs.flatten.take n) (stOf cs j) most = ([], stOf cs j, 5) := by
  obtain ⟨e, hl⟩ := cut_stOf' h h0 hn
  unfold rdB
  rw [hc] at e hl
  rw [e, getB_cut' b _ most hb hm hl]
  dsimp only
  rw [if_pos (by simp)]
end

/-- The pieces of numbers, and of bytes behind them. -/
def pieces (l : List Int) (t : List (List UInt8)) : List (List UInt8) := l.map (fun x => encU (zig x)) ++ t.map encB
theorem pieces_length (l : List Int) (t : List (List UInt8)) : (pieces l t).length = l.length + t.length := by simp [pieces]
theorem pieces_num {l : List Int} {t : List (List UInt8)} {j : Nat} (h : j < l.length) : (pieces l t).getD j [] = encU (zig (l.getD j 0)) := by
  simp [pieces, List.getD, List.getElem?_append, h]
theorem pieces_bytes {l : List Int} {t : List (List UInt8)} {j : Nat} (h : j < t.length) : (pieces l t).getD (l.length + j) [] = encB (t.getD j []) := by
  simp [pieces, List.getD, List.getElem?_append, h]
theorem pieces_pos {l : List Int} {t : List (List UInt8)} {j : Nat} (h : j < (pieces l t).length) : 0 < ((pieces l t).getD j []).length := by
  rw [pieces_length] at h
  by_cases hj : j < l.length
  · rw [pieces_num hj]; exact encU_pos _
  · obtain ⟨i, rfl⟩ : ∃ i, j = l.length + i := ⟨j - l.length, by omega⟩
    rw [pieces_bytes (by omega)]
    unfold encB
    have := encU_pos (t.getD i []).length
    rw [List.length_append]; omega
/-- The one that holds the last byte is the last one. -/
theorem pieces_last {l : List Int} {t : List (List UInt8)} {j : Nat} (hj : j < (pieces l t).length) (h : (pieces l t).flatten.length - 1 < stOf (pieces l t) (j + 1)) : j + 1 = (pieces l t).length := by
  by_cases hlt : j + 1 < (pieces l t).length
  · exfalso
    have h1 := stOf_succ hlt
    have h2 := pieces_pos hlt
    have h3 := stOf_le (pieces l t) (j + 1 + 1)
    omega
  · omega

end Go.Proofs.YtkljkpffpdpphaaDoor
