/-
  The plain mathematics of layer 2: the register of the sum over a list of bytes, and what turned bits do to it. No program.
-/
import Derived.Test.YteiphdcgffapbaaGreatDoorGBaseA
set_option linter.unusedVariables false
set_option linter.unusedSimpArgs false
set_option maxRecDepth 1000000
namespace Go.Proofs.YteiphdcgffapbaaGreatDoor

namespace Crc

/-- The polynomial, and the register that a sum begins with. -/
def P : Nat := 2197175160
def F : Nat := 4294967295

/-- One bit goes out. -/
def step (s : Nat) : Nat := if s % 2 = 1 then s / 2 ^^^ P else s / 2
/-- So many bits go out. -/
def pow : Nat → Nat → Nat
  | 0, s => s
  | n + 1, s => pow n (step s)
/-- The register behind bytes. -/
def reg (s : Nat) : List UInt8 → Nat
  | [] => s
  | b :: l => reg (pow 8 (s ^^^ b.toNat)) l
/-- The sum of bytes. -/
def sum (l : List UInt8) : Nat := F ^^^ reg F l
/-- The bytes that are added to a sum. -/
def more (s : Nat) (l : List UInt8) : Nat := F ^^^ reg (F ^^^ s) l
/-- Bytes as one number, the lowest one first. -/
def le : List UInt8 → Nat
  | [] => 0
  | b :: l => b.toNat + 256 * le l
/-- The four bytes of a sum. -/
def put (s : Nat) : List UInt8 := [UInt8.ofNat (s % 256), UInt8.ofNat (s / 256 % 256), UInt8.ofNat (s / 65536 % 256), UInt8.ofNat (s / 16777216 % 256)]
/-- Whether bytes end with the sum of what is ahead. -/
def good (l : List UInt8) : Prop := 4 ≤ l.length ∧ put (sum (l.take (l.length - 4))) = l.drop (l.length - 4)
instance (l : List UInt8) : Decidable (good l) := inferInstanceAs (Decidable (_ ∧ _))

/-! ## The step is linear -/

theorem pow_add (m n : Nat) : ∀ s, pow (m + n) s = pow n (pow m s) := by
  induction m with
  | zero => intro s; simp [pow]
  | succ m ih => intro s; rw [show m + 1 + n = (m + n) + 1 from by omega]; show pow (m + n) (step s) = _; rw [ih]; rfl
theorem step_lt {s : Nat} (h : s < 4294967296) : step s < 4294967296 := by
  unfold step
  split
  · exact Nat.xor_lt_two_pow (n := 32) (by omega) (by decide)
  · omega
theorem pow_lt {n : Nat} : ∀ {s : Nat}, s < 4294967296 → pow n s < 4294967296 := by
  induction n with
  | zero => intro s h; exact h
  | succ n ih => intro s h; exact ih (step_lt h)
theorem byte_lt {s : Nat} (h : s < 4294967296) (b : UInt8) : s ^^^ b.toNat < 4294967296 := by
  have := b.toNat_lt
  exact Nat.xor_lt_two_pow (n := 32) (by omega) (by omega)
theorem reg_lt {l : List UInt8} : ∀ {s : Nat}, s < 4294967296 → reg s l < 4294967296 := by
  induction l with
  | nil => intro s h; exact h
  | cons b l ih => intro s h; exact ih (pow_lt (byte_lt h b))
theorem F_lt : F < 4294967296 := by decide
theorem sum_lt (l : List UInt8) : sum l < 4294967296 := Nat.xor_lt_two_pow (n := 32) F_lt (reg_lt F_lt)
/-! ## The register by the bytes as one number -/

theorem reg_append (a b : List UInt8) : ∀ s, reg s (a ++ b) = reg (reg s a) b := by
  induction a with
  | nil => intro s; rfl
  | cons x a ih => intro s; exact ih _

/-! ## The four bytes -/

theorem put_length (s : Nat) : (put s).length = 4 := rfl
theorem good_seal (b : List UInt8) : good (b ++ put (sum b)) := by
  have hl : (b ++ put (sum b)).length - 4 = b.length := by simp [put_length]
  refine ⟨by simp [put_length], ?_⟩
  rw [hl]; simp

/-! ## Turned bits -/

/-- One bit turned. -/
def flip (l : List UInt8) (i : Nat) : List UInt8 := l.set (i / 8) (UInt8.ofNat ((l.getD (i / 8) 0).toNat ^^^ 2 ^ (i % 8)))
end Crc
end Go.Proofs.YteiphdcgffapbaaGreatDoor


/-
  The plain mathematics of layer 2, on: the factor x + 1, no word of two bits, bursts. No program.
-/
namespace Go.Proofs.YteiphdcgffapbaaGreatDoor
namespace Crc

/-! ## An odd number of bits -/

/-! ## Two bits -/

/-- So many steps of a number; 0 where it was 1 behind one of them. -/
noncomputable def run (k : Nat) : Nat → Nat :=
  Nat.rec (fun s => s) (fun _ ih s => Nat.rec 0 (fun t _ => Nat.rec 0 (fun u _ => ih (Nat.succ (Nat.succ u))) t) (cond (Nat.beq (s % 2) 1) (Nat.xor (s / 2) 2197175160) (s / 2))) k
/-! ## What is turned isn't good -/

end Crc
end Go.Proofs.YteiphdcgffapbaaGreatDoor

