/-
  Frames, one behind the other: their bytes, their places, and that they are read so. No program.
-/
import Derived.Test.YtgikcbljkkmkgaaFrameDefs
set_option linter.unusedVariables false
set_option linter.unusedSimpArgs false
set_option maxRecDepth 1000000
namespace Go.Proofs.Ytgikcbljkkmkgaa

/-- The bytes of the first j frames, these, and their places. -/
def bkB (fr : Nat → Nat × List UInt8) : Nat → List UInt8
  | 0 => []
  | j + 1 => bkB fr j ++ frB (fr j).1 (fr j).2
def bkF (fr : Nat → Nat × List UInt8) : Nat → List FrmB
  | 0 => []
  | j + 1 => bkF fr j ++ [((fr j).1, (fr j).2, (bkB fr j).length)]
def bkA (fr : Nat → Nat × List UInt8) : Nat → List Nat
  | 0 => []
  | j + 1 => bkA fr j ++ [(bkB fr j).length]

section
variable {fr : Nat → Nat × List UInt8}

theorem bkF_length : ∀ j, (bkF fr j).length = j
  | 0 => rfl
  | j + 1 => by rw [bkF, List.length_append, bkF_length j]; rfl
theorem bkA_length : ∀ j, (bkA fr j).length = j
  | 0 => rfl
  | j + 1 => by rw [bkA, List.length_append, bkA_length j]; rfl
theorem bkF_at : ∀ n j, j < n → (bkF fr n).getD j default = ((fr j).1, (fr j).2, (bkB fr j).length)
  | 0, j, h => by omega
  | n + 1, j, h => by
    rw [bkF]
    by_cases e : j < n
    · have := bkF_at n j e
      simp only [List.getD] at this ⊢
      rw [List.getElem?_append_left (by rw [bkF_length]; exact e)]
      exact this
    · obtain rfl : j = n := by omega
      simp only [List.getD]
      rw [List.getElem?_append_right (by rw [bkF_length]; exact Nat.le_refl _), bkF_length]
      simp
theorem bkA_at : ∀ n j, j < n → (bkA fr n).getD j 0 = (bkB fr j).length
  | 0, j, h => by omega
  | n + 1, j, h => by
    rw [bkA]
    by_cases e : j < n
    · have := bkA_at n j e
      simp only [List.getD] at this ⊢
      rw [List.getElem?_append_left (by rw [bkA_length]; exact e)]
      exact this
    · obtain rfl : j = n := by omega
      simp only [List.getD]
      rw [List.getElem?_append_right (by rw [bkA_length]; exact Nat.le_refl _), bkA_length]
      simp
theorem bkB_small {m : Nat} (hm : ∀ j, (fr j).2.length ≤ m) (hm2 : m ≤ 1048576) : ∀ j, (bkB fr j).length ≤ j * (m + 15)
  | 0 => by simp [bkB]
  | j + 1 => by
    have h1 := bkB_small hm hm2 j
    have h2 := encU_le (fr j).2.length (by have := hm j; omega)
    have h3 := hm j
    rw [bkB, List.length_append, frB_length, Nat.add_mul]
    omega
theorem bkB_pos (j : Nat) : 6 ≤ (bkB fr (j + 1)).length := by
  have := frB_pos (fr j).1 (fr j).2
  rw [bkB, List.length_append]; omega
theorem bkB_pre : ∀ n j, j ≤ n → ∃ r, bkB fr n = bkB fr j ++ r
  | 0, j, h => ⟨[], by obtain rfl : j = 0 := by omega
                       simp⟩
  | n + 1, j, h => by
    by_cases e : j = n + 1
    · subst e; exact ⟨[], by simp⟩
    · obtain ⟨r, hr⟩ := bkB_pre n j (by omega)
      exact ⟨r ++ frB (fr n).1 (fr n).2, by rw [bkB, hr, List.append_assoc]⟩

/-- Bytes in which the first m frames stand, one behind the other, are read so. -/
theorem allF_steps (hk : ∀ j, (fr j).1 ≤ 2) (hl : ∀ j, (fr j).2.length ≤ 1048576) {b : List UInt8} {m : Nat} (hb : ∀ j, j < m → ∃ r, b.drop (bkB fr j).length = frB (fr j).1 (fr j).2 ++ r) :
    ∀ j, j ≤ m → ∀ f, b.length ≤ (bkB fr j).length + f → allF b = (bkF fr j ++ (alF f b (bkB fr j).length).1, (alF f b (bkB fr j).length).2)
  | 0, _, f, hf => by
    rw [allF, bkB, List.length_nil, alF_fuel b.length f b 0 (by omega) (by simpa [bkB] using hf)]
    simp [bkF]
  | j + 1, hj, f, hf => by
    obtain ⟨r, hr⟩ := hb j (by omega)
    have hp := frB_pos (fr j).1 (fr j).2
    have hn := nxF_put (fr j).1 (hk j) (fr j).2 r (hl j)
    rw [← hr] at hn
    have hlen : (b.drop (bkB fr j).length).length = (frB (fr j).1 (fr j).2).length + r.length := by rw [hr, List.length_append]
    rw [List.length_drop] at hlen
    have hl1 : (bkB fr (j + 1)).length = (bkB fr j).length + (frB (fr j).1 (fr j).2).length := by rw [bkB, List.length_append]
    have ih := allF_steps hk hl hb j (by omega) (f + (frB (fr j).1 (fr j).2).length - 1 + 1) (by omega)
    rw [ih, alF_next _ (by omega) (by rw [hn]; simp), hn]
    dsimp only
    rw [← hl1, alF_fuel (f + (frB (fr j).1 (fr j).2).length - 1) f b _ (by omega) hf]
    simp [bkF]

/-- Frames, one behind the other, are all read, each at its place. -/
theorem allF_back (hk : ∀ j, (fr j).1 ≤ 2) (hl : ∀ j, (fr j).2.length ≤ 1048576) (n : Nat) : allF (bkB fr n) = (bkF fr n, (bkB fr n).length, 0) := by
  have h := allF_steps hk hl (b := bkB fr n) (m := n) (fun j hj => by
    obtain ⟨r, hr⟩ := bkB_pre (fr := fr) n (j + 1) (by omega)
    refine ⟨r, ?_⟩
    rw [hr, bkB, List.append_assoc, List.drop_left]) n (Nat.le_refl _) 0 (by omega)
  rw [h, alF_end 0 (Nat.le_refl _)]
  simp

/-- With the last byte cut off the last one is too short. -/
theorem allF_cut (hk : ∀ j, (fr j).1 ≤ 2) (hl : ∀ j, (fr j).2.length ≤ 1048576) (n : Nat) : allF ((bkB fr (n + 1)).take ((bkB fr (n + 1)).length - 1)) = (bkF fr n, (bkB fr n).length, 5) := by
  have hp := frB_pos (fr n).1 (fr n).2
  have hl1 : (bkB fr (n + 1)).length = (bkB fr n).length + (frB (fr n).1 (fr n).2).length := by rw [bkB, List.length_append]
  have e : (bkB fr (n + 1)).take ((bkB fr (n + 1)).length - 1) = bkB fr n ++ (frB (fr n).1 (fr n).2).take ((frB (fr n).1 (fr n).2).length - 1) := by
    rw [hl1, bkB, List.take_append, List.take_of_length_le (by omega)]
    congr 2
    omega
  rw [e]
  have hcut := nxF_cut (fr n).1 (hk n) (fr n).2 (hl n) ((frB (fr n).1 (fr n).2).length - 1) (by omega)
  have hlt : ((frB (fr n).1 (fr n).2).take ((frB (fr n).1 (fr n).2).length - 1)).length = (frB (fr n).1 (fr n).2).length - 1 := by rw [List.length_take]; omega
  have h := allF_steps hk hl (b := bkB fr n ++ (frB (fr n).1 (fr n).2).take ((frB (fr n).1 (fr n).2).length - 1)) (m := n) (fun j hj => by
    obtain ⟨r, hr⟩ := bkB_pre (fr := fr) n (j + 1) (by omega)
    refine ⟨r ++ (frB (fr n).1 (fr n).2).take ((frB (fr n).1 (fr n).2).length - 1), ?_⟩
    rw [hr, bkB, List.append_assoc, List.append_assoc, List.drop_left]) n (Nat.le_refl _) ((frB (fr n).1 (fr n).2).length - 1 + 1) (by rw [List.length_append, hlt]; omega)
  rw [h, alF_bad _ (by rw [List.length_append, hlt]; omega) (by rw [List.drop_left, hcut]; simp), List.drop_left, hcut]
  simp
end

end Go.Proofs.Ytgikcbljkkmkgaa
