/-
  The plain mathematics of layer 2, on: the factor x + 1, no word of two bits, bursts. No program.
-/
import Derived.Test.YtgikcbljkkmkgaaCrcMath
set_option linter.unusedVariables false
set_option linter.unusedSimpArgs false
set_option maxRecDepth 1000000
namespace Go.Proofs.Ytgikcbljkkmkgaa
namespace Crc

/-! ## An odd number of bits -/

/-- Whether the number of a number's lowest n bits is odd. -/
def par : Nat → Nat → Bool
  | 0, _ => false
  | n + 1, s => (s % 2 == 1) ^^ par n (s / 2)

theorem odd_bool (a b : Nat) : ((a ^^^ b) % 2 == 1) = ((a % 2 == 1) ^^ (b % 2 == 1)) := by
  have h := odd_xor a b
  have d (x : Nat) : (x % 2 == 1) = decide (x % 2 = 1) := rfl
  rw [d, d, d]
  by_cases ha : a % 2 = 1 <;> by_cases hb : b % 2 = 1 <;> simp [ha, hb] at h ⊢ <;> simp [h]
theorem par_xor (n : Nat) : ∀ a b, par n (a ^^^ b) = (par n a ^^ par n b) := by
  induction n with
  | zero => intro a b; rfl
  | succ n ih =>
    intro a b
    show (((a ^^^ b) % 2 == 1) ^^ par n ((a ^^^ b) / 2)) = (((a % 2 == 1) ^^ par n (a / 2)) ^^ ((b % 2 == 1) ^^ par n (b / 2)))
    rw [half_xor, ih, odd_bool]
    cases (a % 2 == 1) <;> cases (b % 2 == 1) <;> cases par n (a / 2) <;> cases par n (b / 2) <;> rfl
theorem par_more (n : Nat) : ∀ s, s < 2 ^ n → par (n + 1) s = par n s := by
  induction n with
  | zero =>
    intro s h
    have : s = 0 := by simpa using h
    subst this; rfl
  | succ n ih =>
    intro s h
    show ((s % 2 == 1) ^^ par (n + 1) (s / 2)) = ((s % 2 == 1) ^^ par n (s / 2))
    rw [ih (s / 2) (by rw [Nat.pow_succ] at h; omega)]
theorem par_step {s : Nat} (h : s < 4294967296) : par 32 (step s) = par 32 s := by
  have e1 : par 32 (s / 2) = par 31 (s / 2) := par_more 31 (s / 2) (by omega)
  have e2 : par 32 s = ((s % 2 == 1) ^^ par 31 (s / 2)) := rfl
  unfold step
  split
  · rename_i ho
    rw [par_xor, e1, e2, ho, show par 32 P = true from by decide]
    cases par 31 (s / 2) <;> rfl
  · rename_i ho
    have ho' : s % 2 = 0 := by omega
    rw [e1, e2, ho']
    cases par 31 (s / 2) <;> rfl
theorem par_pow (n : Nat) : ∀ s, s < 4294967296 → par 32 (pow n s) = par 32 s := by
  induction n with
  | zero => intro s h; rfl
  | succ n ih => intro s h; exact (ih _ (step_lt h)).trans (par_step h)

/-! ## Two bits -/

/-- So many steps of a number; 0 where it was 1 behind one of them. -/
noncomputable def run (k : Nat) : Nat → Nat :=
  Nat.rec (fun s => s) (fun _ ih s => Nat.rec 0 (fun t _ => Nat.rec 0 (fun u _ => ih (Nat.succ (Nat.succ u))) t) (cond (Nat.beq (s % 2) 1) (Nat.xor (s / 2) 2197175160) (s / 2))) k
noncomputable def runs (m : Nat) : Nat → Nat :=
  Nat.rec (fun s => s) (fun _ ih s => Nat.rec 0 (fun t _ => ih (Nat.succ t)) (run 256 s)) m

theorem step_cond (s : Nat) : cond (Nat.beq (s % 2) 1) (Nat.xor (s / 2) 2197175160) (s / 2) = step s := by
  unfold step
  by_cases h : s % 2 = 1
  · rw [if_pos h, h]; rfl
  · have h' : s % 2 = 0 := by omega
    rw [if_neg h, h']; rfl
theorem run_succ (k s : Nat) : run (k + 1) s = if step s = 0 ∨ step s = 1 then 0 else run k (step s) := by
  have e : run (k + 1) s = Nat.rec 0 (fun t _ => Nat.rec 0 (fun u _ => run k (Nat.succ (Nat.succ u))) t) (cond (Nat.beq (s % 2) 1) (Nat.xor (s / 2) 2197175160) (s / 2)) := rfl
  rw [e, step_cond]
  generalize step s = x
  match x with
  | 0 => rfl
  | 1 => rfl
  | u + 2 => rw [if_neg (by omega)]
theorem runs_succ (m s : Nat) : runs (m + 1) s = if run 256 s = 0 then 0 else runs m (run 256 s) := by
  have e : runs (m + 1) s = Nat.rec 0 (fun t _ => runs m (Nat.succ t)) (run 256 s) := rfl
  rw [e]
  generalize run 256 s = x
  match x with
  | 0 => rfl
  | u + 1 => rw [if_neg (by omega)]
theorem run_says (k : Nat) : ∀ s, run k s ≠ 0 → run k s = pow k s ∧ ∀ j, 0 < j → j ≤ k → pow j s ≠ 1 := by
  induction k with
  | zero => intro s h; exact ⟨rfl, fun j h1 h2 => by omega⟩
  | succ k ih =>
    intro s h
    rw [run_succ] at h ⊢
    by_cases hc : step s = 0 ∨ step s = 1
    · rw [if_pos hc] at h; exact absurd rfl h
    · rw [if_neg hc] at h ⊢
      obtain ⟨h1, h2⟩ := ih _ h
      refine ⟨h1, fun j hj hk => ?_⟩
      match j with
      | 0 => omega
      | 1 => intro e; exact hc (Or.inr e)
      | j + 2 => exact h2 (j + 1) (by omega) (by omega)
theorem runs_says (m : Nat) : ∀ s, runs m s ≠ 0 → ∀ j, 0 < j → j ≤ 256 * m → pow j s ≠ 1 := by
  induction m with
  | zero => intro s h j h1 h2; omega
  | succ m ih =>
    intro s h j h1 h2
    rw [runs_succ] at h
    by_cases hc : run 256 s = 0
    · rw [if_pos hc] at h; exact absurd rfl h
    · rw [if_neg hc] at h
      obtain ⟨e, hs⟩ := run_says 256 s hc
      by_cases hj : j ≤ 256
      · exact hs j h1 hj
      · have := ih _ h (j - 256) (by omega) (by omega)
        rw [e, ← pow_add, show 256 + (j - 256) = j from by omega] at this
        exact this
theorem runs_one : Nat.ble 1 (runs 256 1) = true := by decide +kernel
theorem no_two {j : Nat} (h : 0 < j) (hj : j ≤ 65536) : pow j 1 ≠ 1 :=
  runs_says 256 1 (by have := Nat.le_of_ble_eq_true runs_one; omega) j h (by omega)
theorem two_ne {a b : Nat} (h : a < b) (hb : b ≤ a + 65536) : pow a 1 ≠ pow b 1 := by
  intro e
  have e2 : pow b 1 = pow a (pow (b - a) 1) := by rw [← pow_add]; congr 1; omega
  rw [e2] at e
  exact no_two (by omega) (by omega) (pow_inj (by omega) (pow_lt (by omega)) e).symm

/-! ## What is turned isn't good -/

/-- The weight of bit i in N bits. -/
theorem pow_bit {N i : Nat} (h : i ≤ N) (x : Nat) : pow N (2 ^ i * x) = pow (N - i) x := by
  conv => lhs; rw [show N = i + (N - i) from by omega]
  rw [pow_add, pow_two]
theorem pow_one {N i : Nat} (h : i ≤ N) : pow N (2 ^ i) = pow (N - i) 1 := by
  have := pow_bit h 1
  rwa [Nat.mul_one] at this
theorem bit_ne {n : Nat} : pow n 1 ≠ 0 := fun h => absurd (pow_zero (by omega) h) (by omega)
theorem two_bits {N i j : Nat} (hi : i < N) (hj : j < N) (hN : N ≤ 65536) (hne : i ≠ j) : pow N (2 ^ i ^^^ 2 ^ j) ≠ 0 := by
  rw [pow_xor, pow_one (by omega), pow_one (by omega)]
  intro h
  have e := xor_eq_zero h
  rcases Nat.lt_or_gt_of_ne hne with h1 | h1
  · exact two_ne (a := N - j) (b := N - i) (by omega) (by omega) e.symm
  · exact two_ne (a := N - i) (b := N - j) (by omega) (by omega) e
theorem three_bits {N i j k : Nat} (hi : i < N) (hj : j < N) (hk : k < N) : pow N (2 ^ i ^^^ 2 ^ j ^^^ 2 ^ k) ≠ 0 := by
  rw [pow_xor, pow_xor, pow_one (by omega), pow_one (by omega), pow_one (by omega)]
  intro h
  have e : par 32 (pow (N - i) 1 ^^^ pow (N - j) 1 ^^^ pow (N - k) 1) = par 32 0 := by rw [h]
  rw [par_xor, par_xor, par_pow _ 1 (by omega), par_pow _ 1 (by omega), par_pow _ 1 (by omega)] at e
  revert e; decide
theorem burst {N i by_ : Nat} (h : i ≤ N) (h0 : by_ ≠ 0) (hb : by_ < 4294967296) : pow N (2 ^ i * by_) ≠ 0 := by
  rw [pow_bit h]
  exact fun e => h0 (pow_zero hb e)

/-- Up to three bits turned, at places that may be the same: turned means that it is other than it was. -/
def turn (s t : List UInt8) (i : Nat) : List UInt8 := if (le t).testBit i = (le s).testBit i then flip t i else t

end Crc
end Go.Proofs.Ytgikcbljkkmkgaa
