/-
  A frame's bytes, and what the calls of layer 11 answer, told in lists of bytes. No program.
-/
import Derived.Test.YteiphdcgffapbaaGreatDoorGWire
import Derived.Test.YteiphdcgffapbaaGreatDoorGCrc
import Derived.Test.YteiphdcgffapbaaGreatDoorGBatD
import Derived.Test.YteiphdcgffapbaaGreatDoorGEnt
set_option linter.unusedVariables false
set_option linter.unusedSimpArgs false
set_option maxRecDepth 1000000
namespace Go.Proofs.YteiphdcgffapbaaGreatDoor

/-- A frame's bytes ahead of its sum, and all. -/
def frX (k : Nat) (l : List UInt8) : List UInt8 := UInt8.ofNat k :: encB l
def frB (k : Nat) (l : List UInt8) : List UInt8 := frX k l ++ Crc.put (Crc.sum (frX k l))

/-- What Write answers: the bytes, the error. -/
def wrF (k : Int) (l : List UInt8) : List UInt8 × Nat :=
  if k < 0 ∨ 2 < k then ([], 10) else if 1048576 < l.length then ([], 13) else (frB k.toNat l, 0)
/-- What Next answers: the kind, the payload, how many bytes, the error. -/
def nxF (b : List UInt8) : Nat × List UInt8 × Nat × Nat :=
  if b.length = 0 then (0, [], 0, 5)
  else if 2 < at8 b 0 then (0, [], 0, 10)
  else if (getB (b.drop 1) 1048576).2.2 ≠ 0 then (0, [], 0, (getB (b.drop 1) 1048576).2.2)
  else if b.length < (getB (b.drop 1) 1048576).2.1 + 5 then (0, [], 0, 5)
  else if Crc.good (b.take ((getB (b.drop 1) 1048576).2.1 + 5)) then ((at8 b 0).toNat, (getB (b.drop 1) 1048576).1, (getB (b.drop 1) 1048576).2.1 + 5, 0)
  else (0, [], 0, 8)

/-! ## How long -/

theorem frX_length (k : Nat) (l : List UInt8) : (frX k l).length = 1 + (encU l.length).length + l.length := by
  simp [frX, encB]; omega
theorem frB_length (k : Nat) (l : List UInt8) : (frB k l).length = 5 + (encU l.length).length + l.length := by
  rw [frB, List.length_append, frX_length, Crc.put_length]; omega
theorem frB_small (k : Nat) {l : List UInt8} (h : l.length ≤ 1048576) : (frB k l).length ≤ 1048576 + 15 := by
  have := encU_le l.length (by omega)
  rw [frB_length]; omega
theorem frB_pos (k : Nat) (l : List UInt8) : 6 ≤ (frB k l).length := by
  have := encU_pos l.length
  rw [frB_length]; omega

/-! ## What is put is got -/

theorem getB_most {b l : List UInt8} {n : Nat} (h : getB b l.length = (l, n, 0)) (hl : l.length ≤ 1048576) : getB b 1048576 = (l, n, 0) := by
  unfold getB at h ⊢
  by_cases h1 : (getU b).2.2 ≠ 0
  · rw [if_pos h1] at h
    exact absurd (congrArg (fun x => x.2.2) h) h1
  · rw [if_neg h1] at h ⊢
    by_cases h2 : (l.length : Int) < 0 ∨ (l.length : Int) < (getU b).1
    · rw [if_pos h2] at h
      simp at h
    · rw [if_neg h2] at h
      rw [if_neg (by omega)]
      exact h

theorem getB_frame (l m : List UInt8) (hl : l.length ≤ 1048576) : getB (encB l ++ m) 1048576 = (l, (encB l).length, 0) :=
  getB_most (getB_put l m (by omega)) hl

theorem at8_zero (c : UInt8) (l : List UInt8) : at8 (c :: l) 0 = (c.toNat : Int) := by simp [at8]

theorem frB_cons (k : Nat) (l : List UInt8) : frB k l = UInt8.ofNat k :: (encB l ++ Crc.put (Crc.sum (frX k l))) := by
  rw [frB]; rfl

/-- A frame is read of its bytes, whatever stands behind. -/
theorem nxF_put (k : Nat) (hk : k ≤ 2) (l m : List UInt8) (hl : l.length ≤ 1048576) : nxF (frB k l ++ m) = (k, l, (frB k l).length, 0) := by
  have hb := getB_frame l (Crc.put (Crc.sum (frX k l)) ++ m) hl
  have hd : (frB k l ++ m).drop 1 = encB l ++ (Crc.put (Crc.sum (frX k l)) ++ m) := by
    rw [frB_cons]; simp
  have ha : at8 (frB k l ++ m) 0 = (k : Int) := by
    rw [frB_cons, List.cons_append, at8_zero, UInt8.toNat_ofNat']; omega
  have hlen : (encB l).length + 5 = (frB k l).length := by rw [frB_length, encB_length]; omega
  have hp := frB_pos k l
  have hg : Crc.good ((frB k l ++ m).take (frB k l).length) := by
    rw [List.take_left]; exact Crc.good_seal _
  unfold nxF
  rw [hd, hb, ha]
  dsimp only
  have h1 : ¬ (frB k l ++ m).length = 0 := by rw [List.length_append]; omega
  have h2 : ¬ (2 : Int) < (k : Int) := by omega
  have h3 : ¬ (frB k l ++ m).length < (frB k l).length := by simp
  rw [hlen, if_neg h1, if_neg h2, if_neg (by simp), if_neg h3, if_pos hg]
  simp

/-! ## What is got -/

theorem getB_len {b : List UInt8} {p : List UInt8} {n e : Nat} (h : getB b 1048576 = (p, n, e)) : p.length ≤ 1048576 ∧ n ≤ b.length ∧ n ≤ 1048586 ∧ e ≤ 13 := by
  have hg := getU_good b
  have hc := getU_codes b
  unfold getB at h
  by_cases h1 : (getU b).2.2 ≠ 0
  · rw [if_pos h1] at h
    simp only [Prod.mk.injEq] at h
    obtain ⟨rfl, rfl, rfl⟩ := h
    refine ⟨by simp, by omega, by omega, by omega⟩
  · rw [if_neg h1] at h
    obtain ⟨g1, g2, g3, g4⟩ := hg (by omega)
    by_cases h2 : (1048576 : Int) < 0 ∨ (1048576 : Int) < (getU b).1
    · rw [if_pos h2] at h
      simp only [Prod.mk.injEq] at h
      obtain ⟨rfl, rfl, rfl⟩ := h
      refine ⟨by simp, by omega, by omega, by omega⟩
    · rw [if_neg h2] at h
      by_cases h3 : b.length - (getU b).2.1 < (getU b).1
      · rw [if_pos h3] at h
        simp only [Prod.mk.injEq] at h
        obtain ⟨rfl, rfl, rfl⟩ := h
        refine ⟨by simp, by omega, by omega, by omega⟩
      · rw [if_neg h3] at h
        simp only [Prod.mk.injEq] at h
        obtain ⟨rfl, rfl, rfl⟩ := h
        refine ⟨by simp; omega, by omega, by omega, by omega⟩

end Go.Proofs.YteiphdcgffapbaaGreatDoor


/-
  What layer 12 tells of entries' bytes, in lists (no program in it).
-/
namespace Go.Proofs.YteiphdcgffapbaaGreatDoor
open Go.RowKit Go.Shelf

/-- An entry's payload. -/
def entP (cs : List ColB) (x : EntB) : List UInt8 := encU x.2.1.toNat ++ btWr (kindsL cs) (psL x.2.2)
/-- What Write answers. -/
def entW (cs : List ColB) (x : EntB) : List UInt8 × Nat := if entE cs x ≠ 0 then ([], entE cs x) else wrF (2 - x.1) (entP cs x)
/-- What is taken off a payload: the number, the pairs; the place; the error. -/
def entT (cs : List ColB) (l : List UInt8) : (Nat × List Bp) × Nat × Nat :=
  if (rdU l 0 281474976710656).2.2 ≠ 0 then ((0, []), (rdU l 0 281474976710656).2.1, (rdU l 0 281474976710656).2.2)
  else (((rdU l 0 281474976710656).1, (batS cs l (rdU l 0 281474976710656).2.1).1), (batS cs l (rdU l 0 281474976710656).2.1).2.1, (batS cs l (rdU l 0 281474976710656).2.1).2.2)
/-- What Read answers: the error; else the kind, the number and the pairs. -/
def entRE (cs : List ColB) (kind : Int) (l : List UInt8) : Nat :=
  if errS (colsL cs) ≠ 0 then errS (colsL cs) else if kind ≠ 1 ∧ kind ≠ 2 then 10 else told l (entT cs l).2.1 (entT cs l).2.2
def entRV (cs : List ColB) (kind : Int) (l : List UInt8) : Int × Int × List Bp :=
  if entRE cs kind l = 0 then (2 - kind, ((entT cs l).1.1 : Int), (entT cs l).1.2) else (0, 0, [])

theorem wrF_small (k : Int) (l : List UInt8) : (wrF k l).1.length ≤ 1048591 := by
  unfold wrF
  split
  · simp
  · split
    · simp
    · exact frB_small _ (by omega)
theorem entW_small (cs : List ColB) (x : EntB) : (entW cs x).1.length ≤ 1048591 := by
  unfold entW
  split
  · simp
  · exact wrF_small _ _
theorem entT_no {cs : List ColB} {l : List UInt8} (h : (rdU l 0 281474976710656).2.2 ≠ 0) : (entT cs l).2.1 = (rdU l 0 281474976710656).2.1 ∧ (entT cs l).2.2 = (rdU l 0 281474976710656).2.2 := by
  unfold entT; rw [if_pos h]; exact ⟨rfl, rfl⟩
theorem entT_ok {cs : List ColB} {l : List UInt8} (h : (rdU l 0 281474976710656).2.2 = 0) :
    (entT cs l).1.1 = (rdU l 0 281474976710656).1 ∧ (entT cs l).1.2 = (batS cs l (rdU l 0 281474976710656).2.1).1 ∧ (entT cs l).2 = (batS cs l (rdU l 0 281474976710656).2.1).2 := by
  unfold entT; rw [if_neg (fun hh => hh h)]; exact ⟨rfl, rfl, rfl⟩

end Go.Proofs.YteiphdcgffapbaaGreatDoor


/-
  Layer 12: an entry is read of its payload, and what is read of any payload has just that one (no program in it).
-/
namespace Go.Proofs.YteiphdcgffapbaaGreatDoor
open Go.RowKit Go.Shelf

theorem ent_back {cs : List ColB} {x : EntB} (hP : PSO x.2.2) (h : entE cs x = 0) :
    entRE cs (2 - x.1) (entP cs x) = 0 ∧ entRV cs (2 - x.1) (entP cs x) = (x.1, x.2.1, psL x.2.2) := by
  obtain ⟨hS, hk, hs, hck⟩ := entE_zero.1 h
  obtain ⟨kind, seq, ps⟩ := x
  dsimp only at hP hk hs hck ⊢
  obtain ⟨n, rfl⟩ := Int.eq_ofNat_of_zero_le hs.1
  have hp : entP cs (kind, (n : Int), ps) = encU n ++ btWr (kindsL cs) (psL ps) := by unfold entP; dsimp only; rw [Int.toNat_natCast]
  have h1 : rdU (entP cs (kind, (n : Int), ps)) 0 281474976710656 = (n, 0 + (encU n).length, 0) := colU_at (rest := btWr (kindsL cs) (psL ps)) (by rw [List.drop_zero]; exact hp) (by omega) (by omega)
  have h2 : batS cs (entP cs (kind, (n : Int), ps)) (0 + (encU n).length) = (psL ps, 0 + (encU n).length + (btWr (kindsL cs) (psL ps)).length, 0) := bat_put hP hck (m := []) (by rw [hp, Nat.zero_add, List.drop_left, List.append_nil])
  have hT : entT cs (entP cs (kind, (n : Int), ps)) = ((n, psL ps), 0 + (encU n).length + (btWr (kindsL cs) (psL ps)).length, 0) := by
    unfold entT
    rw [h1, if_neg (by simp)]
    dsimp only
    rw [h2]
  have hl : (entP cs (kind, (n : Int), ps)).length = (encU n).length + (btWr (kindsL cs) (psL ps)).length := by rw [hp, List.length_append]
  have hE : entRE cs (2 - kind) (entP cs (kind, (n : Int), ps)) = 0 := by
    unfold entRE
    rw [if_neg (fun h => h hS), if_neg (by omega), hT]
    unfold told
    rw [if_pos rfl, if_neg (by dsimp only; omega)]
  refine ⟨hE, ?_⟩
  unfold entRV
  rw [if_pos hE, hT]
  dsimp only
  rw [show 2 - (2 - kind) = kind by omega]

theorem ent_one {cs : List ColB} {kind : Int} {l : List UInt8} {ps : List PairB} (hP : PSO ps) (h : entRE cs kind l = 0) (hps : psL ps = (entRV cs kind l).2.2) :
    (kind = 1 ∨ kind = 2) ∧ (entRV cs kind l).1 = 2 - kind ∧ entE cs ((entRV cs kind l).1, (entRV cs kind l).2.1, ps) = 0 ∧ entP cs ((entRV cs kind l).1, (entRV cs kind l).2.1, ps) = l := by
  have hV : entRV cs kind l = (2 - kind, ((entT cs l).1.1 : Int), (entT cs l).1.2) := by unfold entRV; rw [if_pos h]
  rw [hV] at hps ⊢
  dsimp only at hps ⊢
  unfold entRE at h
  have hS : errS (colsL cs) = 0 := by
    apply Decidable.of_not_not
    intro h9
    rw [if_pos h9] at h
    exact h9 h
  rw [if_neg (fun h => h hS)] at h
  have hk : kind = 1 ∨ kind = 2 := by
    apply Decidable.of_not_not
    intro h9
    rw [if_pos (by omega)] at h
    cases h
  rw [if_neg (by omega)] at h
  have ht : (entT cs l).2.2 = 0 ∧ l.length ≤ (entT cs l).2.1 := by
    unfold told at h
    by_cases hx : (entT cs l).2.2 = 0
    · rw [if_pos hx] at h
      by_cases hl : (entT cs l).2.1 < l.length
      · rw [if_pos hl] at h; cases h
      · exact ⟨hx, by omega⟩
    · rw [if_neg hx] at h; exact absurd h hx
  have hr : (rdU l 0 281474976710656).2.2 = 0 := by
    apply Decidable.of_not_not
    intro h9
    have := (entT_no (cs := cs) h9).2
    rw [ht.1] at this
    exact h9 this.symm
  obtain ⟨q1, q2, q3⟩ := entT_ok (cs := cs) hr
  rw [q3, batS_eq hS] at ht
  rw [q2, batS_eq hS] at hps
  obtain ⟨u1, u2, u3⟩ := colU_enc (l := l) (k := 0) (Nat.zero_le _) hr
  obtain ⟨e1, e2, e3⟩ := btRd_enc u2 ht.1
  have hK : (btRd (ltE cs) l (kindsL cs) (rdU l 0 281474976710656).2.1).2.1 = l.length := by omega
  rw [hK, List.take_length, u1, List.take_zero, List.nil_append] at e1
  rw [← hps] at e1 e3
  refine ⟨hk, rfl, entE_zero.2 ⟨hS, by dsimp only; omega, by dsimp only; omega, ok_set hP hS e3⟩, ?_⟩
  unfold entP
  dsimp only
  rw [q1, Int.toNat_natCast]
  exact e1.symm
theorem entRV_no {cs : List ColB} {kind : Int} {l : List UInt8} (h : entRE cs kind l ≠ 0) : entRV cs kind l = (0, 0, []) := by unfold entRV; rw [if_neg h]
theorem entW_zero {cs : List ColB} {x : EntB} (h : (entW cs x).2 = 0) : entE cs x = 0 ∧ (entP cs x).length ≤ 1048576 ∧ entW cs x = (frB (2 - x.1).toNat (entP cs x), 0) := by
  unfold entW at h ⊢
  by_cases h0 : entE cs x = 0
  · rw [if_neg (fun h => h h0)] at h ⊢
    have hk := (entE_zero.1 h0).2.1
    unfold wrF at h ⊢
    rw [if_neg (by omega)] at h ⊢
    by_cases hl : 1048576 < (entP cs x).length
    · rw [if_pos hl] at h; cases h
    · rw [if_neg hl]; exact ⟨h0, by omega, rfl⟩
  · rw [if_pos h0] at h; exact absurd h h0
theorem ent_same {cs : List ColB} {kind : Int} {l : List UInt8} {ps : List PairB} (hP : PSO ps) (hl : l.length ≤ 2000) (h : entRE cs kind l = 0) (hps : psL ps = (entRV cs kind l).2.2) :
    EnO ((entRV cs kind l).1, (entRV cs kind l).2.1, ps) ∧ entW cs ((entRV cs kind l).1, (entRV cs kind l).2.1, ps) = (frB kind.toNat l, 0) ∧ wrF kind l = (frB kind.toNat l, 0) := by
  obtain ⟨h1, h2, h3, h4⟩ := ent_one hP h hps
  obtain ⟨z1, z2, z3, z4⟩ := entE_zero.1 h3
  have hw : wrF kind l = (frB kind.toNat l, 0) := by unfold wrF; rw [if_neg (by omega), if_neg (by omega)]
  refine ⟨⟨by unfold inW; dsimp only at z2 ⊢; omega, by unfold inW; dsimp only at z3 ⊢; omega, hP⟩, ?_, hw⟩
  unfold entW
  rw [if_neg (fun h => h h3), h4, h2, show 2 - (2 - kind) = kind by omega]
  exact hw

end Go.Proofs.YteiphdcgffapbaaGreatDoor

