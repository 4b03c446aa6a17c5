/-
  A frame's bytes, and what the calls of layer 11 answer, told in lists of bytes. No program.
-/
import Derived.Test.YtgikcbljkkmkgaaWireMath2
import Derived.Test.YtgikcbljkkmkgaaCrcTurn
set_option linter.unusedVariables false
set_option linter.unusedSimpArgs false
set_option maxRecDepth 1000000
namespace Go.Proofs.Ytgikcbljkkmkgaa

/-- A frame's bytes ahead of its sum, and all. -/
def frX (k : Nat) (l : List UInt8) : List UInt8 := UInt8.ofNat k :: encB l
def frB (k : Nat) (l : List UInt8) : List UInt8 := frX k l ++ Crc.put (Crc.sum (frX k l))

/-- What Write answers: the bytes, the error. -/
def wrF (k : Int) (l : List UInt8) : List UInt8 × Nat :=
  if k < 0 ∨ 2 < k then ([], 10) else if 1048576 < l.length then ([], 13) else (frB k.toNat l, 0)
/-- What Size answers. -/
def szF (n : Int) : Int := if n < 0 ∨ 1048576 < n then 0 else 5 + (encU n.toNat).length + n
/-- What Next answers: the kind, the payload, how many bytes, the error. -/
def nxF (b : List UInt8) : Nat × List UInt8 × Nat × Nat :=
  if b.length = 0 then (0, [], 0, 5)
  else if 2 < at8 b 0 then (0, [], 0, 10)
  else if (getB (b.drop 1) 1048576).2.2 ≠ 0 then (0, [], 0, (getB (b.drop 1) 1048576).2.2)
  else if b.length < (getB (b.drop 1) 1048576).2.1 + 5 then (0, [], 0, 5)
  else if Crc.good (b.take ((getB (b.drop 1) 1048576).2.1 + 5)) then ((at8 b 0).toNat, (getB (b.drop 1) 1048576).1, (getB (b.drop 1) 1048576).2.1 + 5, 0)
  else (0, [], 0, 8)

/-- A frame: its kind, its payload, its place. -/
abbrev FrmB := Nat × List UInt8 × Nat
/-- What All answers from a place on, by so many rounds. -/
def alF : Nat → List UInt8 → Nat → List FrmB × Nat × Nat
  | 0, _, at_ => ([], at_, 0)
  | f + 1, b, at_ =>
    if b.length ≤ at_ then ([], at_, 0)
    else if (nxF (b.drop at_)).2.2.2 ≠ 0 then ([], at_, (nxF (b.drop at_)).2.2.2)
    else (((nxF (b.drop at_)).1, (nxF (b.drop at_)).2.1, at_) :: (alF f b (at_ + (nxF (b.drop at_)).2.2.1)).1, (alF f b (at_ + (nxF (b.drop at_)).2.2.1)).2)

/-! ## How long -/

theorem frX_length (k : Nat) (l : List UInt8) : (frX k l).length = 1 + (encU l.length).length + l.length := by
  simp [frX, encB]; omega
theorem frB_length (k : Nat) (l : List UInt8) : (frB k l).length = 5 + (encU l.length).length + l.length := by
  rw [frB, List.length_append, frX_length, Crc.put_length]; omega
theorem frB_small (k : Nat) {l : List UInt8} (h : l.length ≤ 1048576) : (frB k l).length ≤ 1048576 + 15 := by
  have := encU_le l.length (by omega)
  rw [frB_length]; omega
theorem frB_pos (k : Nat) (l : List UInt8) : 6 ≤ (frB k l).length := by
  have := encU_pos l.length
  rw [frB_length]; omega

/-! ## What is put is got -/

theorem getB_most {b l : List UInt8} {n : Nat} (h : getB b l.length = (l, n, 0)) (hl : l.length ≤ 1048576) : getB b 1048576 = (l, n, 0) := by
  unfold getB at h ⊢
  by_cases h1 : (getU b).2.2 ≠ 0
  · rw [if_pos h1] at h
    exact absurd (congrArg (fun x => x.2.2) h) h1
  · rw [if_neg h1] at h ⊢
    by_cases h2 : (l.length : Int) < 0 ∨ (l.length : Int) < (getU b).1
    · rw [if_pos h2] at h
      simp at h
    · rw [if_neg h2] at h
      rw [if_neg (by omega)]
      exact h

theorem getB_frame (l m : List UInt8) (hl : l.length ≤ 1048576) : getB (encB l ++ m) 1048576 = (l, (encB l).length, 0) :=
  getB_most (getB_put l m (by omega)) hl

theorem at8_zero (c : UInt8) (l : List UInt8) : at8 (c :: l) 0 = (c.toNat : Int) := by simp [at8]

theorem frB_cons (k : Nat) (l : List UInt8) : frB k l = UInt8.ofNat k :: (encB l ++ Crc.put (Crc.sum (frX k l))) := by
  rw [frB]; rfl

/-- A frame is read of its bytes, whatever stands behind. -/
theorem nxF_put (k : Nat) (hk : k ≤ 2) (l m : List UInt8) (hl : l.length ≤ 1048576) : nxF (frB k l ++ m) = (k, l, (frB k l).length, 0) := by
  have hb := getB_frame l (Crc.put (Crc.sum (frX k l)) ++ m) hl
  have hd : (frB k l ++ m).drop 1 = encB l ++ (Crc.put (Crc.sum (frX k l)) ++ m) := by
    rw [frB_cons]; simp
  have ha : at8 (frB k l ++ m) 0 = (k : Int) := by
    rw [frB_cons, List.cons_append, at8_zero, UInt8.toNat_ofNat']; omega
  have hlen : (encB l).length + 5 = (frB k l).length := by rw [frB_length, encB_length]; omega
  have hp := frB_pos k l
  have hg : Crc.good ((frB k l ++ m).take (frB k l).length) := by
    rw [List.take_left]; exact Crc.good_seal _
  unfold nxF
  rw [hd, hb, ha]
  dsimp only
  have h1 : ¬ (frB k l ++ m).length = 0 := by rw [List.length_append]; omega
  have h2 : ¬ (2 : Int) < (k : Int) := by omega
  have h3 : ¬ (frB k l ++ m).length < (frB k l).length := by simp
  rw [hlen, if_neg h1, if_neg h2, if_neg (by simp), if_neg h3, if_pos hg]
  simp

theorem take_cons_pos (c : UInt8) (l : List UInt8) {i : Nat} (h : 0 < i) : (c :: l).take i = c :: l.take (i - 1) := by
  obtain ⟨j, rfl⟩ : ∃ j, i = j + 1 := ⟨i - 1, by omega⟩
  rfl

theorem getB_short {b l : List UInt8} (h : getB b l.length = ([], 0, 5)) (hl : l.length ≤ 1048576) (hu : (getU b).2.2 = 0 → (getU b).1 ≤ 1048576) : getB b 1048576 = ([], 0, 5) := by
  unfold getB at h ⊢
  by_cases h1 : (getU b).2.2 ≠ 0
  · rw [if_pos h1] at h ⊢; exact h
  · rw [if_neg h1] at h ⊢
    have hu := hu (by omega)
    by_cases h2 : (l.length : Int) < 0 ∨ (l.length : Int) < (getU b).1
    · rw [if_pos h2] at h
      exact absurd (congrArg (fun x => x.2.2) h) (by decide)
    · rw [if_neg h2] at h
      rw [if_neg (by omega)]
      exact h

theorem getU_encB (l : List UInt8) (i : Nat) (hl : l.length ≤ 1048576) : (getU ((encB l).take i)).2.2 = 0 → (getU ((encB l).take i)).1 ≤ 1048576 := by
  intro h0
  by_cases hi : i < (encU l.length).length
  · have e : (encB l).take i = (encU l.length).take i := by unfold encB; rw [List.take_append_of_le_length (by omega)]
    rw [e, getU_cut l.length i (by omega) hi]; simp
  · have e : (encB l).take i = encU l.length ++ l.take (i - (encU l.length).length) := by
      unfold encB; rw [List.take_append, List.take_of_length_le (by omega)]
    rw [e, getU_put l.length (by omega)]; exact hl

/-- Each beginning of a frame is too short. -/
theorem nxF_cut (k : Nat) (hk : k ≤ 2) (l : List UInt8) (hl : l.length ≤ 1048576) (i : Nat) (hi : i < (frB k l).length) : nxF ((frB k l).take i) = (0, [], 0, 5) := by
  have hlen : ((frB k l).take i).length = i := by rw [List.length_take]; omega
  by_cases h0 : i = 0
  · subst h0; unfold nxF; rw [hlen, if_pos rfl]
  · have hfl := frB_length k l
    have hel := encB_length l
    have hd : ((frB k l).take i).drop 1 = (encB l ++ Crc.put (Crc.sum (frX k l))).take (i - 1) := by
      rw [frB_cons, take_cons_pos _ _ (by omega)]; rfl
    have ha : at8 ((frB k l).take i) 0 = (k : Int) := by
      rw [frB_cons, take_cons_pos _ _ (by omega), at8_zero, UInt8.toNat_ofNat']; omega
    unfold nxF
    rw [hd, ha, hlen]
    by_cases hc : i - 1 < (encB l).length
    · have e : (encB l ++ Crc.put (Crc.sum (frX k l))).take (i - 1) = (encB l).take (i - 1) := List.take_append_of_le_length (by omega)
      have hs := getB_short (getB_cut l (i - 1) (by omega) hc) hl (getU_encB l _ hl)
      rw [e, hs, if_neg h0, if_neg (by omega), if_pos (by simp)]
    · have e : (encB l ++ Crc.put (Crc.sum (frX k l))).take (i - 1) = encB l ++ (Crc.put (Crc.sum (frX k l))).take (i - 1 - (encB l).length) := by
        rw [List.take_append, List.take_of_length_le (by omega)]
      rw [e, getB_frame l _ hl]
      dsimp only
      rw [if_neg h0, if_neg (by omega), if_neg (by simp), if_pos (by omega)]

/-! ## What is got -/

theorem getB_len {b : List UInt8} {p : List UInt8} {n e : Nat} (h : getB b 1048576 = (p, n, e)) : p.length ≤ 1048576 ∧ n ≤ b.length ∧ n ≤ 1048586 ∧ e ≤ 13 := by
  have hg := getU_good b
  have hc := getU_codes b
  unfold getB at h
  by_cases h1 : (getU b).2.2 ≠ 0
  · rw [if_pos h1] at h
    simp only [Prod.mk.injEq] at h
    obtain ⟨rfl, rfl, rfl⟩ := h
    refine ⟨by simp, by omega, by omega, by omega⟩
  · rw [if_neg h1] at h
    obtain ⟨g1, g2, g3, g4⟩ := hg (by omega)
    by_cases h2 : (1048576 : Int) < 0 ∨ (1048576 : Int) < (getU b).1
    · rw [if_pos h2] at h
      simp only [Prod.mk.injEq] at h
      obtain ⟨rfl, rfl, rfl⟩ := h
      refine ⟨by simp, by omega, by omega, by omega⟩
    · rw [if_neg h2] at h
      by_cases h3 : b.length - (getU b).2.1 < (getU b).1
      · rw [if_pos h3] at h
        simp only [Prod.mk.injEq] at h
        obtain ⟨rfl, rfl, rfl⟩ := h
        refine ⟨by simp, by omega, by omega, by omega⟩
      · rw [if_neg h3] at h
        simp only [Prod.mk.injEq] at h
        obtain ⟨rfl, rfl, rfl⟩ := h
        refine ⟨by simp; omega, by omega, by omega, by omega⟩

/-- A frame that is got has six bytes or more, and these are there. -/
theorem nxF_some {b : List UInt8} (h : (nxF b).2.2.2 = 0) : 5 ≤ (nxF b).2.2.1 ∧ (nxF b).2.2.1 ≤ b.length ∧ (nxF b).2.1.length ≤ 1048576 ∧ (nxF b).1 ≤ 2 := by
  have hl := getB_len (b := b.drop 1) (p := (getB (b.drop 1) 1048576).1) (n := (getB (b.drop 1) 1048576).2.1) (e := (getB (b.drop 1) 1048576).2.2) rfl
  unfold nxF at h ⊢
  by_cases h1 : b.length = 0
  · rw [if_pos h1] at h; simp at h
  · rw [if_neg h1] at h ⊢
    by_cases h2 : 2 < at8 b 0
    · rw [if_pos h2] at h; simp at h
    · rw [if_neg h2] at h ⊢
      by_cases h3 : (getB (b.drop 1) 1048576).2.2 ≠ 0
      · rw [if_pos h3] at h; exact absurd h h3
      · rw [if_neg h3] at h ⊢
        by_cases h4 : b.length < (getB (b.drop 1) 1048576).2.1 + 5
        · rw [if_pos h4] at h; simp at h
        · rw [if_neg h4] at h ⊢
          by_cases h5 : Crc.good (b.take ((getB (b.drop 1) 1048576).2.1 + 5))
          · rw [if_pos h5]
            refine ⟨by simp, Nat.not_lt.1 h4, hl.1, ?_⟩
            have := at8_lo b 0
            show (at8 b 0).toNat ≤ 2
            omega
          · rw [if_neg h5] at h; simp at h
theorem nxF_none {b : List UInt8} (h : (nxF b).2.2.2 ≠ 0) : nxF b = (0, [], 0, (nxF b).2.2.2) := by
  have key : ∀ x : Nat × List UInt8 × Nat × Nat, (x = (0, [], 0, x.2.2.2) ∨ x.2.2.2 = 0) → x.2.2.2 ≠ 0 → x = (0, [], 0, x.2.2.2) := fun x h1 h2 => h1.resolve_right h2
  refine key _ ?_ h
  unfold nxF
  split
  · exact .inl rfl
  · split
    · exact .inl rfl
    · split
      · exact .inl rfl
      · split
        · exact .inl rfl
        · split
          · exact .inr rfl
          · exact .inl rfl
theorem nxF_code (b : List UInt8) : (nxF b).2.2.2 ≤ 13 := by
  have hl := getB_len (b := b.drop 1) (p := (getB (b.drop 1) 1048576).1) (n := (getB (b.drop 1) 1048576).2.1) (e := (getB (b.drop 1) 1048576).2.2) rfl
  unfold nxF
  split
  · simp
  · split
    · simp
    · split
      · exact hl.2.2.2
      · split
        · simp
        · split <;> simp

/-- More rounds than there are bytes change nothing. -/
theorem alF_fuel : ∀ (f g : Nat) (b : List UInt8) (at_ : Nat), b.length ≤ at_ + f → b.length ≤ at_ + g → alF f b at_ = alF g b at_
  | 0, 0, _, _, _, _ => rfl
  | 0, g + 1, b, at_, h, _ => by rw [alF, alF, if_pos (by omega)]
  | f + 1, 0, b, at_, _, h => by rw [alF, alF, if_pos (by omega)]
  | f + 1, g + 1, b, at_, h1, h2 => by
    rw [alF, alF]
    by_cases hl : b.length ≤ at_
    · rw [if_pos hl, if_pos hl]
    · rw [if_neg hl, if_neg hl]
      by_cases he : (nxF (b.drop at_)).2.2.2 ≠ 0
      · rw [if_pos he, if_pos he]
      · rw [if_neg he, if_neg he]
        have hs := nxF_some (b := b.drop at_) (by omega)
        rw [alF_fuel f g b (at_ + (nxF (b.drop at_)).2.2.1) (by omega) (by omega)]

theorem alF_end {b : List UInt8} {at_ : Nat} (f : Nat) (h : b.length ≤ at_) : alF f b at_ = ([], at_, 0) := by
  cases f with
  | zero => rfl
  | succ f => rw [alF, if_pos h]
theorem alF_bad {b : List UInt8} {at_ : Nat} (f : Nat) (h : ¬ b.length ≤ at_) (he : (nxF (b.drop at_)).2.2.2 ≠ 0) : alF (f + 1) b at_ = ([], at_, (nxF (b.drop at_)).2.2.2) := by
  rw [alF, if_neg h, if_pos he]
theorem alF_next {b : List UInt8} {at_ : Nat} (f : Nat) (h : ¬ b.length ≤ at_) (he : ¬ (nxF (b.drop at_)).2.2.2 ≠ 0) :
    alF (f + 1) b at_ = (((nxF (b.drop at_)).1, (nxF (b.drop at_)).2.1, at_) :: (alF f b (at_ + (nxF (b.drop at_)).2.2.1)).1, (alF f b (at_ + (nxF (b.drop at_)).2.2.1)).2) := by
  rw [alF, if_neg h, if_neg he]
/-- All frames of bytes. -/
def allF (b : List UInt8) : List FrmB × Nat × Nat := alF b.length b 0

end Go.Proofs.Ytgikcbljkkmkgaa
