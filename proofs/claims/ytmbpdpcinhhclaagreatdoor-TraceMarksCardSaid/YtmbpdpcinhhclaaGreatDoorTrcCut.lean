/- -/
import Derived.Test.YtmbpdpcinhhclaaGreatDoorKTrcM
set_option linter.unusedVariables false
set_option linter.unusedSimpArgs false
set_option maxRecDepth 1000000
namespace Go.Proofs.YtmbpdpcinhhclaaGreatDoor
open Go.RowKit Go.Shelf

theorem trM_len {cs : List ColB} : ∀ (es : List EntB) (a : Nat) (s : Int) (v : List PairB), (trM cs a s v es).length = es.length
  | [], _, _, _ => by rw [trM]; rfl
  | x :: t, a, s, v => by rw [trM, List.length_cons, trM_len t, List.length_cons]
theorem trM_get {cs : List ColB} : ∀ (es : List EntB) (a n : Nat) (s : Int) (v : List PairB) (k : Nat), (trW cs n s v es).2.2.2.2 = 0 → k < es.length →
    (trM cs a s v es).getD k (0, 0) = ((trW cs n s v (es.take (k + 1))).2.1, a + (trW cs n s v (es.take (k + 1))).1.length)
  | [], a, n, s, v, k, h, hk => absurd hk (by simp)
  | x :: t, a, n, s, v, 0, h, hk => by
    obtain ⟨h1, h2, h3, h4, h5⟩ := trW_ok h
    rw [List.take_succ_cons, List.take_zero, trW_of h1 h2 h3 (by rw [trW]), trM, trW]
    simp
  | x :: t, a, n, s, v, k + 1, h, hk => by
    obtain ⟨h1, h2, h3, h4, h5⟩ := trW_ok h
    rw [List.length_cons] at hk
    obtain ⟨t1, _, _⟩ := trW_take t (k + 1) (n + 1) (apN cs s v x) (apV cs s v x) h4 (by omega)
    rw [List.take_succ_cons, trW_of h1 h2 h3 t1, trM, List.getD_cons_succ, trM_get t _ (n + 1) _ _ k h4 (by omega)]
    dsimp only
    rw [List.length_append, Nat.add_assoc]
theorem trM_after {cs : List ColB} : ∀ (es : List EntB) (a n : Nat) (s : Int) (v : List PairB), (∀ x ∈ es, EnO x) → (trW cs n s v es).2.2.2.2 = 0 →
    (∀ m ∈ trM cs a s v es, a < m.2) ∧ (trM cs a s v es).Pairwise (fun x y => x.2 < y.2)
  | [], a, n, s, v, _, h => by rw [trM]; simp
  | x :: t, a, n, s, v, hO, h => by
    obtain ⟨h1, h2, h3, h4, h5⟩ := trW_ok h
    obtain ⟨k, p, e1, e2, e3, e4, e5⟩ := entX_back (hO x (by simp)) h3
    have hpos := frB_pos k p
    rw [← e1] at hpos
    obtain ⟨i1, i2⟩ := trM_after t (a + (entW cs x).1.length) (n + 1) (apN cs s v x) (apV cs s v x) (fun y hy => hO y (by simp [hy])) h4
    rw [trM]
    refine ⟨fun m hm => ?_, List.pairwise_cons.2 ⟨fun m hm => i1 m hm, i2⟩⟩
    rcases List.mem_cons.1 hm with rfl | hm
    · dsimp only; omega
    · have := i1 m hm; omega
theorem marks_after {cs : List ColB} {es : List EntB} (a : Nat) (hO : ∀ x ∈ es, EnO x) (h : (trW cs 0 0 [] es).2.2.2.2 = 0) :
    ((0, a) :: trM cs a 0 [] es).Pairwise (fun x y => x.2 < y.2) := by
  obtain ⟨i1, i2⟩ := trM_after es a 0 0 [] hO h
  exact List.pairwise_cons.2 ⟨fun m hm => i1 m hm, i2⟩

theorem trD_short {cs : List ColB} {r : List UInt8} (hS : errS (colsL cs) = 0) {i : Nat} (hi : i < (hdB (colsL cs)).length) : (trD ((hdB (colsL cs) ++ r).take i)).2.2.2.2 ≠ 0 := by
  have hsm := wrS_million hS
  have hl := hdB_length (colsL cs)
  have e : (hdB (colsL cs) ++ r).take i = (hdB (colsL cs)).take i := List.take_append_of_le_length (by omega)
  rw [e]
  have hlen : ((hdB (colsL cs)).take i).length = i := by rw [List.length_take]; omega
  unfold trD
  by_cases h4 : i < 4
  · rw [if_pos (.inl (by omega))]
    show (6 : Nat) ≠ 0
    decide
  · have h5 : ((hdB (colsL cs)).take i).take 4 = magicL := by
      rw [List.take_take, Nat.min_eq_left (by omega)]
      unfold hdB
      exact List.take_left' rfl
    have h6 : ((hdB (colsL cs)).take i).drop 4 = (frB 0 (wrS (colsL cs))).take (i - 4) := by
      rw [List.drop_take]
      unfold hdB
      rw [List.drop_left' (show magicL.length = 4 from rfl)]
    rw [if_neg (by rw [h5]; simp; omega), h6, nxF_cut 0 (by omega) (wrS (colsL cs)) hsm (i - 4) (by omega), if_pos (by simp)]
    show (5 : Nat) ≠ 0
    decide
theorem trD_cut {cs : List ColB} {es : List EntB} (hS : errS (colsL cs) = 0) (hO : ∀ x ∈ es, EnO x) (h : (trW cs 0 0 [] es).2.2.2.2 = 0) {i : Nat} (hi : i ≤ (hdB (colsL cs) ++ (trW cs 0 0 [] es).1).length) :
    ((trD ((hdB (colsL cs) ++ (trW cs 0 0 [] es).1).take i)).2.2.2.2 ≠ 0 ∧ ∀ m ∈ (0, (hdB (colsL cs)).length) :: trM cs (hdB (colsL cs)).length 0 [] es, m.2 ≠ i) ∨
    (∃ k, k ≤ es.length ∧ trD ((hdB (colsL cs) ++ (trW cs 0 0 [] es).1).take i) = (cs, es.take k, ((0, (hdB (colsL cs)).length) :: trM cs (hdB (colsL cs)).length 0 [] es).take (k + 1), i, 0) ∧
      (((0, (hdB (colsL cs)).length) :: trM cs (hdB (colsL cs)).length 0 [] es).getD k (0, 0)).2 = i) := by
  have hsm := wrS_million hS
  have hl := hdB_length (colsL cs)
  by_cases hh : i < (hdB (colsL cs)).length
  · refine .inl ⟨trD_short hS hh, fun m hm => ?_⟩
    rcases List.mem_cons.1 hm with rfl | hm
    · dsimp only; omega
    · have := (trM_after es (hdB (colsL cs)).length 0 0 [] hO h).1 m hm; omega
  · obtain ⟨r1, r2, _⟩ := read_put hS
    obtain ⟨b, hb⟩ : ∃ b, b = hdB (colsL cs) ++ (trW cs 0 0 [] es).1 := ⟨_, rfl⟩
    rw [← hb] at hi ⊢
    have hd : b.drop (hdB (colsL cs)).length = (trW cs 0 0 [] es).1 := by rw [hb, List.drop_left]
    have hlt : (b.take i).length = i := by rw [List.length_take]; omega
    have h5 : (b.take i).take 4 = magicL := by
      rw [List.take_take, Nat.min_eq_left (by omega), hb]
      unfold hdB
      rw [List.append_assoc]
      exact List.take_left' rfl
    have h6 : (b.take i).drop 4 = frB 0 (wrS (colsL cs)) ++ ((trW cs 0 0 [] es).1).take (i - (hdB (colsL cs)).length) := by
      rw [List.drop_take, hb]
      unfold hdB
      rw [List.append_assoc, List.drop_left' (show magicL.length = 4 from rfl), List.take_append, List.take_of_length_le (by unfold hdB at hh; rw [List.length_append] at hh; have : magicL.length = 4 := rfl; omega)]
      congr 2
      rw [List.length_append]
      have : magicL.length = 4 := rfl
      omega
    have hn := nxF_put 0 (by omega) (wrS (colsL cs)) (((trW cs 0 0 [] es).1).take (i - (hdB (colsL cs)).length)) hsm
    rw [← h6] at hn
    have hD : ∀ R, trR cs (b.take i) i (hdB (colsL cs)).length 0 0 [] = R → trD (b.take i) = if R.2.2.2 ≠ 0 then ([], [], [], R.2.2) else (cs, R.1, (0, (hdB (colsL cs)).length) :: R.2.1, R.2.2) := by
      intro R hR
      unfold trD
      rw [if_neg (by rw [h5]; simp; omega), hn]
      dsimp only
      rw [if_neg (by simp), if_neg (by simp), if_neg (fun h => h r1), r2, colsB_colsL, ← hl, hlt, hR]
    rcases trR_cut (cs := cs) hi es i (hdB (colsL cs)).length 0 0 [] hO h (by omega) hd (by omega) with ⟨c1, c2, c3⟩ | ⟨k, c1, c2, c3⟩
    · refine .inl ⟨?_, fun m hm => ?_⟩
      · rw [hD _ rfl, if_pos c1]
        exact c1
      · rcases List.mem_cons.1 hm with rfl | hm
        · dsimp only; omega
        · exact c3 m hm
    · refine .inr ⟨k, c1, ?_, ?_⟩
      · rw [hD _ c2, if_neg (by simp)]
        rfl
      · rcases c3 with ⟨rfl, c3⟩ | ⟨c4, c5, c6⟩
        · rw [List.getD_cons_zero]; exact c3.symm
        · obtain ⟨q, rfl⟩ : ∃ q, k = q + 1 := ⟨k - 1, by omega⟩
          rw [List.getD_cons_succ]
          exact c6

end Go.Proofs.YtmbpdpcinhhclaaGreatDoor
