/-
  The plain mathematics of layer 2: the register of the sum over a list of bytes, and what turned bits do to it. No program.
-/
import Derived.Test.YtokpphhmmcoeaaaGreatDoorGBaseA
set_option linter.unusedVariables false
set_option linter.unusedSimpArgs false
set_option maxRecDepth 1000000
namespace Go.Proofs.YtokpphhmmcoeaaaGreatDoor

namespace Crc

/-- The polynomial, and the register that a sum begins with. -/
def P : Nat := 2197175160
def F : Nat := 4294967295

/-- One bit goes out. -/
def step (s : Nat) : Nat := if s % 2 = 1 then s / 2 ^^^ P else s / 2
/-- So many bits go out. -/
def pow : Nat → Nat → Nat
  | 0, s => s
  | n + 1, s => pow n (step s)
/-- The register behind bytes. -/
def reg (s : Nat) : List UInt8 → Nat
  | [] => s
  | b :: l => reg (pow 8 (s ^^^ b.toNat)) l
/-- The sum of bytes. -/
def sum (l : List UInt8) : Nat := F ^^^ reg F l
/-- The bytes that are added to a sum. -/
def more (s : Nat) (l : List UInt8) : Nat := F ^^^ reg (F ^^^ s) l
/-- Bytes as one number, the lowest one first. -/
def le : List UInt8 → Nat
  | [] => 0
  | b :: l => b.toNat + 256 * le l
/-- The four bytes of a sum. -/
def put (s : Nat) : List UInt8 := [UInt8.ofNat (s % 256), UInt8.ofNat (s / 256 % 256), UInt8.ofNat (s / 65536 % 256), UInt8.ofNat (s / 16777216 % 256)]
/-- Whether bytes end with the sum of what is ahead. -/
def good (l : List UInt8) : Prop := 4 ≤ l.length ∧ put (sum (l.take (l.length - 4))) = l.drop (l.length - 4)
instance (l : List UInt8) : Decidable (good l) := inferInstanceAs (Decidable (_ ∧ _))

/-! ## The step is linear -/

theorem odd_xor (a b : Nat) : (a ^^^ b) % 2 = 1 ↔ ¬ (a % 2 = 1 ↔ b % 2 = 1) := by
  have h := Nat.testBit_xor a b 0
  rw [Nat.testBit_zero, Nat.testBit_zero, Nat.testBit_zero] at h
  by_cases ha : a % 2 = 1 <;> by_cases hb : b % 2 = 1 <;> simp only [ha, hb, decide_true, decide_false, Bool.xor_self, Bool.xor_false, Bool.false_xor, Bool.true_xor, Bool.not_false, decide_eq_true_eq, decide_eq_false_iff_not] at h ⊢ <;> simp [h]
theorem half_xor (a b : Nat) : (a ^^^ b) / 2 = a / 2 ^^^ b / 2 := by
  have := Nat.shiftRight_xor_distrib (a := a) (b := b) (i := 1)
  simpa only [Nat.shiftRight_succ, Nat.shiftRight_zero] using this

theorem step_xor (a b : Nat) : step (a ^^^ b) = step a ^^^ step b := by
  have ho := odd_xor a b
  unfold step
  rw [half_xor]
  generalize a / 2 = x
  generalize b / 2 = y
  by_cases ha : a % 2 = 1 <;> by_cases hb : b % 2 = 1
  · rw [if_pos ha, if_pos hb, if_neg (fun h => ho.1 h ⟨fun _ => hb, fun _ => ha⟩), Nat.xor_assoc x P, ← Nat.xor_assoc P, Nat.xor_comm P y, Nat.xor_assoc y, Nat.xor_self, Nat.xor_zero]
  · rw [if_pos ha, if_neg hb, if_pos (ho.2 (fun h => hb (h.1 ha))), Nat.xor_assoc, Nat.xor_assoc, Nat.xor_comm P]
  · rw [if_neg ha, if_pos hb, if_pos (ho.2 (fun h => ha (h.2 hb))), Nat.xor_assoc]
  · rw [if_neg ha, if_neg hb, if_neg (fun h => ho.1 h ⟨fun k => absurd k ha, fun k => absurd k hb⟩)]

theorem pow_xor (n : Nat) : ∀ a b : Nat, pow n (a ^^^ b) = pow n a ^^^ pow n b := by
  induction n with
  | zero => intro a b; rfl
  | succ n ih => intro a b; show pow n (step (a ^^^ b)) = _; rw [step_xor, ih]; rfl
theorem pow_add (m n : Nat) : ∀ s, pow (m + n) s = pow n (pow m s) := by
  induction m with
  | zero => intro s; simp [pow]
  | succ m ih => intro s; rw [show m + 1 + n = (m + n) + 1 from by omega]; show pow (m + n) (step s) = _; rw [ih]; rfl
theorem step_two (x : Nat) : step (2 * x) = x := by
  unfold step; rw [if_neg (by omega)]; omega
theorem pow_two (n x : Nat) : pow n (2 ^ n * x) = x := by
  induction n with
  | zero => simp [pow]
  | succ n ih =>
    show pow n (step (2 ^ (n + 1) * x)) = x
    rw [show 2 ^ (n + 1) * x = 2 * (2 ^ n * x) from by rw [Nat.pow_succ, Nat.mul_comm (2 ^ n) 2, Nat.mul_assoc], step_two, ih]

theorem step_lt {s : Nat} (h : s < 4294967296) : step s < 4294967296 := by
  unfold step
  split
  · exact Nat.xor_lt_two_pow (n := 32) (by omega) (by decide)
  · omega
theorem pow_lt {n : Nat} : ∀ {s : Nat}, s < 4294967296 → pow n s < 4294967296 := by
  induction n with
  | zero => intro s h; exact h
  | succ n ih => intro s h; exact ih (step_lt h)
theorem byte_lt {s : Nat} (h : s < 4294967296) (b : UInt8) : s ^^^ b.toNat < 4294967296 := by
  have := b.toNat_lt
  exact Nat.xor_lt_two_pow (n := 32) (by omega) (by omega)
theorem reg_lt {l : List UInt8} : ∀ {s : Nat}, s < 4294967296 → reg s l < 4294967296 := by
  induction l with
  | nil => intro s h; exact h
  | cons b l ih => intro s h; exact ih (pow_lt (byte_lt h b))
theorem F_lt : F < 4294967296 := by decide
theorem sum_lt (l : List UInt8) : sum l < 4294967296 := Nat.xor_lt_two_pow (n := 32) F_lt (reg_lt F_lt)
theorem more_lt {s : Nat} (h : s < 4294967296) (l : List UInt8) : more s l < 4294967296 :=
  Nat.xor_lt_two_pow (n := 32) F_lt (reg_lt (Nat.xor_lt_two_pow (n := 32) F_lt h))

theorem step_zero {s : Nat} (h : s < 4294967296) (h0 : step s = 0) : s = 0 := by
  unfold step at h0
  split at h0
  · exfalso
    have h1 : (s / 2 ^^^ P).testBit 31 = true := by
      rw [Nat.testBit_xor, Nat.testBit_lt_two_pow (x := s / 2) (i := 31) (by omega)]
      decide
    rw [h0] at h1
    simp at h1
  · omega
theorem pow_zero {n : Nat} : ∀ {s : Nat}, s < 4294967296 → pow n s = 0 → s = 0 := by
  induction n with
  | zero => intro s h h0; exact h0
  | succ n ih => intro s h h0; exact step_zero h (ih (step_lt h) h0)
theorem xor_eq_zero {a b : Nat} (h : a ^^^ b = 0) : a = b := by
  have h1 : a ^^^ b ^^^ b = 0 ^^^ b := by rw [h]
  rwa [Nat.xor_assoc, Nat.xor_self, Nat.xor_zero, Nat.zero_xor] at h1
theorem pow_inj {n a b : Nat} (ha : a < 4294967296) (hb : b < 4294967296) (h : pow n a = pow n b) : a = b := by
  apply xor_eq_zero
  refine pow_zero (n := n) (Nat.xor_lt_two_pow (n := 32) ha hb) ?_
  rw [pow_xor, h, Nat.xor_self]

theorem pow_none (s : Nat) : pow 0 s = s := rfl
theorem reg_nil (s : Nat) : reg s [] = s := rfl
theorem reg_cons (s : Nat) (b : UInt8) (l : List UInt8) : reg s (b :: l) = reg (pow 8 (s ^^^ b.toNat)) l := rfl
theorem le_cons (b : UInt8) (l : List UInt8) : le (b :: l) = b.toNat + 256 * le l := rfl

/-! ## The register by the bytes as one number -/

theorem xor_low {b x : Nat} (h : b < 256) : b ^^^ 256 * x = b + 256 * x := by
  apply Nat.eq_of_testBit_eq
  intro i
  have e1 : (256 * x).testBit i = (decide (8 ≤ i) && x.testBit (i - 8)) := Nat.testBit_two_pow_mul (i := 8)
  have e2 : (256 * x + b).testBit i = if i < 8 then b.testBit i else x.testBit (i - 8) := Nat.testBit_two_pow_mul_add x (i := 8) h i
  rw [Nat.testBit_xor, Nat.add_comm b, e1, e2]
  by_cases hi : i < 8
  · simp [hi, Nat.not_le.2 hi]
  · have : b.testBit i = false := Nat.testBit_lt_two_pow (Nat.lt_of_lt_of_le h (Nat.pow_le_pow_right (by decide : 0 < 2) (by omega : 8 ≤ i)))
    simp [hi, Nat.not_lt.1 hi, this]

theorem mul_xor (a b : Nat) : 256 * (a ^^^ b) = 256 * a ^^^ 256 * b := by
  apply Nat.eq_of_testBit_eq
  intro i
  have e (x : Nat) : (256 * x).testBit i = (decide (8 ≤ i) && x.testBit (i - 8)) := Nat.testBit_two_pow_mul (i := 8)
  rw [Nat.testBit_xor, e, e, e, Nat.testBit_xor]
  cases decide (8 ≤ i) <;> simp

theorem reg_le (l : List UInt8) : ∀ s, reg s l = pow (8 * l.length) (s ^^^ le l) := by
  induction l with
  | nil =>
    intro s
    rw [reg_nil, show 8 * ([] : List UInt8).length = 0 from rfl, pow_none, show le [] = 0 from rfl, Nat.xor_zero]
  | cons b l ih =>
    intro s
    have hb := b.toNat_lt
    rw [reg_cons, ih, List.length_cons, show 8 * (l.length + 1) = 8 + 8 * l.length from by omega, pow_add, le_cons, ← xor_low hb, ← Nat.xor_assoc, pow_xor 8 (s ^^^ b.toNat)]
    have h2 : pow 8 (256 * le l) = le l := pow_two 8 (le l)
    rw [h2]

theorem reg_append (a b : List UInt8) : ∀ s, reg s (a ++ b) = reg (reg s a) b := by
  induction a with
  | nil => intro s; rfl
  | cons x a ih => intro s; exact ih _

theorem xor_xor (a b : Nat) : a ^^^ (a ^^^ b) = b := by rw [← Nat.xor_assoc, Nat.xor_self, Nat.zero_xor]

theorem more_sum (a b : List UInt8) : more (sum a) b = sum (a ++ b) := by
  unfold more sum; rw [xor_xor, reg_append]
theorem more_zero (b : List UInt8) : more 0 b = sum b := rfl
theorem more_nil {s : Nat} : more s [] = s := xor_xor F s
theorem more_more (s : Nat) (a b : List UInt8) : more (more s a) b = more s (a ++ b) := by
  unfold more; rw [xor_xor, reg_append]
theorem sum_nil : sum [] = 0 := by decide

/-! ## The four bytes -/

theorem put_length (s : Nat) : (put s).length = 4 := rfl
theorem le_put {s : Nat} (h : s < 4294967296) : le (put s) = s := by
  have t : ∀ n, n < 256 → (UInt8.ofNat n).toNat = n := fun n hn => by
    rw [UInt8.toNat_ofNat']; omega
  unfold put
  simp only [le]
  rw [t _ (by omega), t _ (by omega), t _ (by omega), t _ (by omega)]
  omega
theorem le_inj : ∀ {l m : List UInt8}, l.length = m.length → le l = le m → l = m
  | [], [], _, _ => rfl
  | [], _ :: _, h, _ => by simp at h
  | _ :: _, [], h, _ => by simp at h
  | b :: l, c :: m, h, e => by
    simp only [le] at e
    have hb := b.toNat_lt
    have hc := c.toNat_lt
    have e1 : b.toNat = c.toNat := by omega
    have e2 : le l = le m := by omega
    rw [UInt8.toNat_inj.1 e1, le_inj (by simpa using h) e2]
theorem put_inj {a b : Nat} (ha : a < 4294967296) (hb : b < 4294967296) (h : put a = put b) : a = b := by
  rw [← le_put ha, h, le_put hb]
theorem le_lt : ∀ (l : List UInt8), le l < 2 ^ (8 * l.length)
  | [] => by simp [le]
  | b :: l => by
    have := le_lt l
    have hb := b.toNat_lt
    rw [List.length_cons, show 8 * (l.length + 1) = 8 + 8 * l.length from by omega, Nat.pow_add]
    simp only [le]
    omega

theorem xor_move {r d f : Nat} (h : r ^^^ d = f) : f ^^^ r = d := by
  rw [← h, Nat.xor_comm r, Nat.xor_assoc, Nat.xor_self, Nat.xor_zero]

/-- Bytes are good just if the register behind them all is this. -/
theorem good_iff {l : List UInt8} (h4 : 4 ≤ l.length) : good l ↔ reg F l = pow 32 F := by
  have hs : l = l.take (l.length - 4) ++ l.drop (l.length - 4) := (List.take_append_drop _ _).symm
  have hd : (l.drop (l.length - 4)).length = 4 := by simp; omega
  have hr := reg_lt (l := l.take (l.length - 4)) F_lt
  have hle : le (l.drop (l.length - 4)) < 4294967296 := by
    have := le_lt (l.drop (l.length - 4)); rw [hd] at this; exact this
  have e : reg F l = pow 32 (reg F (l.take (l.length - 4)) ^^^ le (l.drop (l.length - 4))) := by
    conv => lhs; rw [hs]
    rw [reg_append, reg_le (l.drop (l.length - 4)), hd]
  rw [e]
  constructor
  · rintro ⟨_, hp⟩
    rw [← hp, le_put (sum_lt _)]
    unfold sum
    rw [Nat.xor_comm F, ← Nat.xor_assoc, Nat.xor_self, Nat.zero_xor]
  · intro hp
    refine ⟨h4, le_inj (by rw [put_length, hd]) ?_⟩
    rw [le_put (sum_lt _)]
    have := pow_inj (Nat.xor_lt_two_pow (n := 32) hr hle) F_lt hp
    exact xor_move this

theorem good_seal (b : List UInt8) : good (b ++ put (sum b)) := by
  have hl : (b ++ put (sum b)).length - 4 = b.length := by simp [put_length]
  refine ⟨by simp [put_length], ?_⟩
  rw [hl]; simp

/-! ## Turned bits -/

/-- What is other between two lists of bytes, as one number. -/
theorem good_other {l m : List UInt8} {d : Nat} (h4 : 4 ≤ l.length) (hl : m.length = l.length) (hd : le m = le l ^^^ d)
    (hg : good l) (hx : pow (8 * l.length) d ≠ 0) : ¬ good m := by
  intro hm
  rw [good_iff (by omega), reg_le, hl, hd] at hm
  rw [good_iff h4, reg_le] at hg
  rw [← Nat.xor_assoc, pow_xor, hg] at hm
  apply hx
  have := xor_xor (pow 32 F) (pow (8 * l.length) d)
  rw [hm, Nat.xor_self] at this
  exact this.symm

/-- One bit turned. -/
def flip (l : List UInt8) (i : Nat) : List UInt8 := l.set (i / 8) (UInt8.ofNat ((l.getD (i / 8) 0).toNat ^^^ 2 ^ (i % 8)))
theorem flip_length (l : List UInt8) (i : Nat) : (flip l i).length = l.length := by simp [flip]
theorem le_flip : ∀ (l : List UInt8) (i : Nat), i < 8 * l.length → le (flip l i) = le l ^^^ 2 ^ i
  | [], i, h => by simp at h
  | b :: l, i, h => by
    have hb := b.toNat_lt
    by_cases hi : i < 8
    · have e : flip (b :: l) i = UInt8.ofNat (b.toNat ^^^ 2 ^ i) :: l := by
        unfold flip
        rw [show i / 8 = 0 from by omega, show i % 8 = i from by omega]; rfl
      have h2 : 2 ^ i < 256 := Nat.pow_lt_pow_right (by decide) hi
      have hx : b.toNat ^^^ 2 ^ i < 256 := Nat.xor_lt_two_pow (n := 8) hb h2
      rw [e]
      simp only [le]
      rw [UInt8.toNat_ofNat', show (b.toNat ^^^ 2 ^ i) % 2 ^ 8 = b.toNat ^^^ 2 ^ i from Nat.mod_eq_of_lt hx, ← xor_low hx, ← xor_low hb, Nat.xor_assoc, Nat.xor_assoc, Nat.xor_comm (2 ^ i)]
    · have e : flip (b :: l) i = b :: flip l (i - 8) := by
        unfold flip
        rw [show i / 8 = (i - 8) / 8 + 1 from by omega, show i % 8 = (i - 8) % 8 from by omega]; rfl
      have ih := le_flip l (i - 8) (by simp only [List.length_cons] at h; omega)
      rw [e]
      simp only [le]
      rw [ih, ← xor_low hb, ← xor_low hb, Nat.xor_assoc]
      congr 1
      rw [show 2 ^ i = 2 ^ 8 * 2 ^ (i - 8) from by rw [← Nat.pow_add]; congr 1; omega]
      show 256 * (_ ^^^ _) = 256 * _ ^^^ 256 * _
      exact mul_xor (le l) (2 ^ (i - 8))

end Crc
end Go.Proofs.YtokpphhmmcoeaaaGreatDoor


/-
  The plain mathematics of layer 2, on: the factor x + 1, no word of two bits, bursts. No program.
-/
namespace Go.Proofs.YtokpphhmmcoeaaaGreatDoor
namespace Crc

/-! ## An odd number of bits -/

/-- Whether the number of a number's lowest n bits is odd. -/
def par : Nat → Nat → Bool
  | 0, _ => false
  | n + 1, s => (s % 2 == 1) ^^ par n (s / 2)

theorem odd_bool (a b : Nat) : ((a ^^^ b) % 2 == 1) = ((a % 2 == 1) ^^ (b % 2 == 1)) := by
  have h := odd_xor a b
  have d (x : Nat) : (x % 2 == 1) = decide (x % 2 = 1) := rfl
  rw [d, d, d]
  by_cases ha : a % 2 = 1 <;> by_cases hb : b % 2 = 1 <;> simp [ha, hb] at h ⊢ <;> simp [h]
theorem par_xor (n : Nat) : ∀ a b, par n (a ^^^ b) = (par n a ^^ par n b) := by
  induction n with
  | zero => intro a b; rfl
  | succ n ih =>
    intro a b
    show (((a ^^^ b) % 2 == 1) ^^ par n ((a ^^^ b) / 2)) = (((a % 2 == 1) ^^ par n (a / 2)) ^^ ((b % 2 == 1) ^^ par n (b / 2)))
    rw [half_xor, ih, odd_bool]
    cases (a % 2 == 1) <;> cases (b % 2 == 1) <;> cases par n (a / 2) <;> cases par n (b / 2) <;> rfl
theorem par_more (n : Nat) : ∀ s, s < 2 ^ n → par (n + 1) s = par n s := by
  induction n with
  | zero =>
    intro s h
    have : s = 0 := by simpa using h
    subst this; rfl
  | succ n ih =>
    intro s h
    show ((s % 2 == 1) ^^ par (n + 1) (s / 2)) = ((s % 2 == 1) ^^ par n (s / 2))
    rw [ih (s / 2) (by rw [Nat.pow_succ] at h; omega)]
theorem par_step {s : Nat} (h : s < 4294967296) : par 32 (step s) = par 32 s := by
  have e1 : par 32 (s / 2) = par 31 (s / 2) := par_more 31 (s / 2) (by omega)
  have e2 : par 32 s = ((s % 2 == 1) ^^ par 31 (s / 2)) := rfl
  unfold step
  split
  · rename_i ho
    rw [par_xor, e1, e2, ho, show par 32 P = true from by decide]
    cases par 31 (s / 2) <;> rfl
  · rename_i ho
    have ho' : s % 2 = 0 := by omega
    rw [e1, e2, ho']
    cases par 31 (s / 2) <;> rfl
theorem par_pow (n : Nat) : ∀ s, s < 4294967296 → par 32 (pow n s) = par 32 s := by
  induction n with
  | zero => intro s h; rfl
  | succ n ih => intro s h; exact (ih _ (step_lt h)).trans (par_step h)

/-! ## Two bits -/

/-- So many steps of a number; 0 where it was 1 behind one of them. -/
noncomputable def run (k : Nat) : Nat → Nat :=
  Nat.rec (fun s => s) (fun _ ih s => Nat.rec 0 (fun t _ => Nat.rec 0 (fun u _ => ih (Nat.succ (Nat.succ u))) t) (cond (Nat.beq (s % 2) 1) (Nat.xor (s / 2) 2197175160) (s / 2))) k
noncomputable def runs (m : Nat) : Nat → Nat :=
  Nat.rec (fun s => s) (fun _ ih s => Nat.rec 0 (fun t _ => ih (Nat.succ t)) (run 256 s)) m

theorem step_cond (s : Nat) : cond (Nat.beq (s % 2) 1) (Nat.xor (s / 2) 2197175160) (s / 2) = step s := by
  unfold step
  by_cases h : s % 2 = 1
  · rw [if_pos h, h]; rfl
  · have h' : s % 2 = 0 := by omega
    rw [if_neg h, h']; rfl
theorem run_succ (k s : Nat) : run (k + 1) s = if step s = 0 ∨ step s = 1 then 0 else run k (step s) := by
  have e : run (k + 1) s = Nat.rec 0 (fun t _ => Nat.rec 0 (fun u _ => run k (Nat.succ (Nat.succ u))) t) (cond (Nat.beq (s % 2) 1) (Nat.xor (s / 2) 2197175160) (s / 2)) := rfl
  rw [e, step_cond]
  generalize step s = x
  match x with
  | 0 => rfl
  | 1 => rfl
  | u + 2 => rw [if_neg (by omega)]
theorem runs_succ (m s : Nat) : runs (m + 1) s = if run 256 s = 0 then 0 else runs m (run 256 s) := by
  have e : runs (m + 1) s = Nat.rec 0 (fun t _ => runs m (Nat.succ t)) (run 256 s) := rfl
  rw [e]
  generalize run 256 s = x
  match x with
  | 0 => rfl
  | u + 1 => rw [if_neg (by omega)]
theorem run_says (k : Nat) : ∀ s, run k s ≠ 0 → run k s = pow k s ∧ ∀ j, 0 < j → j ≤ k → pow j s ≠ 1 := by
  induction k with
  | zero => intro s h; exact ⟨rfl, fun j h1 h2 => by omega⟩
  | succ k ih =>
    intro s h
    rw [run_succ] at h ⊢
    by_cases hc : step s = 0 ∨ step s = 1
    · rw [if_pos hc] at h; exact absurd rfl h
    · rw [if_neg hc] at h ⊢
      obtain ⟨h1, h2⟩ := ih _ h
      refine ⟨h1, fun j hj hk => ?_⟩
      match j with
      | 0 => omega
      | 1 => intro e; exact hc (Or.inr e)
      | j + 2 => exact h2 (j + 1) (by omega) (by omega)
theorem runs_says (m : Nat) : ∀ s, runs m s ≠ 0 → ∀ j, 0 < j → j ≤ 256 * m → pow j s ≠ 1 := by
  induction m with
  | zero => intro s h j h1 h2; omega
  | succ m ih =>
    intro s h j h1 h2
    rw [runs_succ] at h
    by_cases hc : run 256 s = 0
    · rw [if_pos hc] at h; exact absurd rfl h
    · rw [if_neg hc] at h
      obtain ⟨e, hs⟩ := run_says 256 s hc
      by_cases hj : j ≤ 256
      · exact hs j h1 hj
      · have := ih _ h (j - 256) (by omega) (by omega)
        rw [e, ← pow_add, show 256 + (j - 256) = j from by omega] at this
        exact this
theorem runs_one : Nat.ble 1 (runs 256 1) = true := by decide +kernel
theorem no_two {j : Nat} (h : 0 < j) (hj : j ≤ 65536) : pow j 1 ≠ 1 :=
  runs_says 256 1 (by have := Nat.le_of_ble_eq_true runs_one; omega) j h (by omega)
theorem two_ne {a b : Nat} (h : a < b) (hb : b ≤ a + 65536) : pow a 1 ≠ pow b 1 := by
  intro e
  have e2 : pow b 1 = pow a (pow (b - a) 1) := by rw [← pow_add]; congr 1; omega
  rw [e2] at e
  exact no_two (by omega) (by omega) (pow_inj (by omega) (pow_lt (by omega)) e).symm

/-! ## What is turned isn't good -/

/-- The weight of bit i in N bits. -/
theorem pow_bit {N i : Nat} (h : i ≤ N) (x : Nat) : pow N (2 ^ i * x) = pow (N - i) x := by
  conv => lhs; rw [show N = i + (N - i) from by omega]
  rw [pow_add, pow_two]
theorem pow_one {N i : Nat} (h : i ≤ N) : pow N (2 ^ i) = pow (N - i) 1 := by
  have := pow_bit h 1
  rwa [Nat.mul_one] at this
theorem bit_ne {n : Nat} : pow n 1 ≠ 0 := fun h => absurd (pow_zero (by omega) h) (by omega)
theorem two_bits {N i j : Nat} (hi : i < N) (hj : j < N) (hN : N ≤ 65536) (hne : i ≠ j) : pow N (2 ^ i ^^^ 2 ^ j) ≠ 0 := by
  rw [pow_xor, pow_one (by omega), pow_one (by omega)]
  intro h
  have e := xor_eq_zero h
  rcases Nat.lt_or_gt_of_ne hne with h1 | h1
  · exact two_ne (a := N - j) (b := N - i) (by omega) (by omega) e.symm
  · exact two_ne (a := N - i) (b := N - j) (by omega) (by omega) e
theorem three_bits {N i j k : Nat} (hi : i < N) (hj : j < N) (hk : k < N) : pow N (2 ^ i ^^^ 2 ^ j ^^^ 2 ^ k) ≠ 0 := by
  rw [pow_xor, pow_xor, pow_one (by omega), pow_one (by omega), pow_one (by omega)]
  intro h
  have e : par 32 (pow (N - i) 1 ^^^ pow (N - j) 1 ^^^ pow (N - k) 1) = par 32 0 := by rw [h]
  rw [par_xor, par_xor, par_pow _ 1 (by omega), par_pow _ 1 (by omega), par_pow _ 1 (by omega)] at e
  revert e; decide
theorem burst {N i by_ : Nat} (h : i ≤ N) (h0 : by_ ≠ 0) (hb : by_ < 4294967296) : pow N (2 ^ i * by_) ≠ 0 := by
  rw [pow_bit h]
  exact fun e => h0 (pow_zero hb e)

/-- Up to three bits turned, at places that may be the same: turned means that it is other than it was. -/
def turn (s t : List UInt8) (i : Nat) : List UInt8 := if (le t).testBit i = (le s).testBit i then flip t i else t

end Crc
end Go.Proofs.YtokpphhmmcoeaaaGreatDoor

