/-
  What bits turned in a frame, but in its length, do to it. No program.
-/
import Derived.Test.YtgikcbljkkmkgaaFrameDefs
import Derived.Test.YtgikcbljkkmkgaaCrcTurns
set_option linter.unusedVariables false
set_option linter.unusedSimpArgs false
set_option maxRecDepth 1000000
namespace Go.Proofs.Ytgikcbljkkmkgaa

theorem orAll_bit : ∀ (ps : List Nat) (i : Nat), (orAll ps).testBit i = ps.contains i
  | [], i => by simp [orAll]
  | p :: ps, i => by
    rw [orAll, Nat.testBit_or, Nat.testBit_two_pow, orAll_bit ps i, Bool.eq_iff_iff]
    simp
    constructor
    · rintro (h | h)
      · exact .inr h
      · exact .inl h.symm
    · rintro (h | h)
      · exact .inr h.symm
      · exact .inl h
theorem orAll_new {ps : List Nat} {p : Nat} (h : ps.contains p = false) : orAll (p :: ps) = orAll ps ^^^ 2 ^ p := by
  rw [orAll, or_pow, orAll_bit, h]; rfl
theorem orAll_old {ps : List Nat} {p : Nat} (h : ps.contains p = true) : orAll (p :: ps) = orAll ps := by
  rw [orAll, or_pow, orAll_bit, h]; rfl

/-- A place is turned. -/
theorem flip_le {s t : List UInt8} {D p : Nat} (hl : t.length = s.length) (hp : p < 8 * s.length) (hD : Crc.le t = Crc.le s ^^^ D) : Crc.le (Crc.flip t p) = Crc.le s ^^^ (D ^^^ 2 ^ p) := by
  rw [Crc.le_flip t p (by omega), hD, Nat.xor_assoc]
theorem flip_getD {t : List UInt8} {p i : Nat} (h : i ≠ p / 8) : (Crc.flip t p).getD i 0 = t.getD i 0 := by
  unfold Crc.flip
  simp only [List.getD]
  rw [List.getElem?_set_ne (fun e => h e.symm)]

/-- How many bytes stand ahead of a frame's payload. -/
def hdF (l : List UInt8) : Nat := 1 + (encU l.length).length
theorem hdF_len (k : Nat) (l : List UInt8) : (frB k l).length = hdF l + l.length + 4 := by rw [frB_length, hdF]; omega

/-- The bytes behind the kind, of one that is turned but in its length. -/
theorem drop_turned {k : Nat} {l t : List UInt8} (hl : t.length = (frB k l).length) (hs : ∀ i, 1 ≤ i → i < hdF l → t.getD i 0 = (frB k l).getD i 0) : ∃ r, t.drop 1 = encU l.length ++ r ∧ r.length = l.length + 4 := by
  have hlen := hdF_len k l
  have hd : hdF l = 1 + (encU l.length).length := rfl
  refine ⟨t.drop (hdF l), ?_, by rw [List.length_drop]; omega⟩
  have e1 : t.drop 1 = (t.drop 1).take (encU l.length).length ++ (t.drop 1).drop (encU l.length).length := (List.take_append_drop _ _).symm
  rw [e1, List.drop_drop, ← hd]
  congr 1
  apply List.ext_getElem
  · rw [List.length_take, List.length_drop]; omega
  · intro i h1 h2
    have h := hs (i + 1) (by omega) (by omega)
    rw [List.getElem_take, List.getElem_drop]
    have hb : (frB k l).getD (i + 1) 0 = (encU l.length)[i] := by
      rw [frB_cons, encB, List.append_assoc]
      simp only [List.getD, List.getElem?_cons_succ]
      rw [List.getElem?_append_left h2, List.getElem?_eq_getElem h2]
      rfl
    rw [hb] at h
    have ht : t.getD (i + 1) 0 = t[1 + i]'(by omega) := by
      simp only [List.getD, Nat.add_comm i 1]
      rw [List.getElem?_eq_getElem (by omega)]
      rfl
    rw [ht] at h
    exact h

/-- With bits turned, but in its length, a frame isn't read. -/
theorem nxF_turned {k : Nat} {l t : List UInt8} (hll : l.length ≤ 1048576) (hl : t.length = (frB k l).length) (hs : ∀ i, 1 ≤ i → i < hdF l → t.getD i 0 = (frB k l).getD i 0) (hbad : ¬ Crc.good t) :
    nxF t = if 2 < at8 t 0 then (0, [], 0, 10) else (0, [], 0, 8) := by
  obtain ⟨r, hr, hrl⟩ := drop_turned hl hs
  have hlen := hdF_len k l
  have hd : hdF l = 1 + (encU l.length).length := rfl
  have hg : getB (t.drop 1) 1048576 = (r.take l.length, (encU l.length).length + l.length, 0) := by
    unfold getB
    rw [hr, getU_put l.length (by omega) r]
    dsimp only
    rw [if_neg (by simp), if_neg (by omega), if_neg (by simp; omega), List.drop_left]
  have h0 : ¬ t.length = 0 := by omega
  unfold nxF
  rw [hg]
  dsimp only
  rw [if_neg h0]
  by_cases h2 : 2 < at8 t 0
  · rw [if_pos h2, if_pos h2]
  · rw [if_neg h2, if_neg h2, if_neg (by simp), if_neg (by omega), if_neg]
    rw [show (encU l.length).length + l.length + 5 = t.length from by omega, List.take_length]
    exact hbad

/-- .. up to three bits. -/
theorem bad_three {k : Nat} {l t : List UInt8} {ps : List Nat} (hll : l.length ≤ 3000) (hl : t.length = (frB k l).length) (h3 : ps.length = 3) (hps : ∀ p ∈ ps, p < 8 * (frB k l).length) (hD : Crc.le t = Crc.le (frB k l) ^^^ orAll ps) : ¬ Crc.good t := by
  obtain ⟨z, y, x, rfl⟩ : ∃ z y x, ps = [z, y, x] := by
    match ps, h3 with
    | [z, y, x], _ => exact ⟨z, y, x, rfl⟩
  have hfs := frB_length k l
  have hle := encU_le l.length (by omega)
  have hg : Crc.good (frB k l) := Crc.good_seal _
  exact Crc.good_other (d := orAll [z, y, x]) (by omega) hl hD hg (three_or (hps x (by simp)) (hps y (by simp)) (hps z (by simp)) (by omega))
/-- .. bits within 32 that follow each other. -/
theorem bad_burst {k : Nat} {l t : List UInt8} {p y : Nat} (hl : t.length = (frB k l).length) (hp : p ≤ 8 * (frB k l).length) (hy0 : y ≠ 0) (hy : y < 4294967296) (hD : Crc.le t = Crc.le (frB k l) ^^^ 2 ^ p * y) : ¬ Crc.good t := by
  have hfs := frB_length k l
  have hg : Crc.good (frB k l) := Crc.good_seal _
  exact Crc.good_other (d := 2 ^ p * y) (by omega) hl hD hg (Crc.burst (by omega) hy0 hy)

/-- The places that aren't of the length, of the first i. -/
def frees (hd i : Nat) : List Nat := (List.range i).filter fun x => decide (x < 8) || decide (8 * hd ≤ x)
theorem frees_yes {hd i : Nat} (h : i < 8 ∨ 8 * hd ≤ i) : frees hd (i + 1) = frees hd i ++ [i] := by
  unfold frees
  rw [List.range_succ, List.filter_append]
  congr 1
  rcases h with h | h <;> simp [h]
theorem frees_no {hd i : Nat} (h : ¬ (i < 8 ∨ 8 * hd ≤ i)) : frees hd (i + 1) = frees hd i := by
  unfold frees
  rw [List.range_succ, List.filter_append]
  have : ¬ i < 8 ∧ ¬ 8 * hd ≤ i := by omega
  simp [this.1, this.2]
theorem frees_length (hd i : Nat) : (frees hd i).length ≤ i := by
  have := List.length_filter_le (fun x => decide (x < 8) || decide (8 * hd ≤ x)) (List.range i)
  rw [List.length_range] at this
  exact this
theorem frees_pos {hd i : Nat} (h : 0 < i) : 0 < (frees hd i).length := by
  have : 0 ∈ frees hd i := by unfold frees; simp [h]
  exact List.length_pos_of_mem this
theorem frees_at {hd i j : Nat} (h : j < (frees hd i).length) : (frees hd i).getD j 0 < i ∧ ((frees hd i).getD j 0 < 8 ∨ 8 * hd ≤ (frees hd i).getD j 0) := by
  have e : (frees hd i).getD j 0 = (frees hd i)[j] := by simp [List.getD, h]
  rw [e]
  have hm : (frees hd i)[j] ∈ frees hd i := List.getElem_mem _
  unfold frees at hm
  have := List.mem_filter.1 hm
  refine ⟨List.mem_range.1 this.1, ?_⟩
  have h2 := this.2
  rcases Bool.or_eq_true _ _ ▸ h2 with h3 | h3
  · exact .inl (of_decide_eq_true h3)
  · exact .inr (of_decide_eq_true h3)

end Go.Proofs.Ytgikcbljkkmkgaa
