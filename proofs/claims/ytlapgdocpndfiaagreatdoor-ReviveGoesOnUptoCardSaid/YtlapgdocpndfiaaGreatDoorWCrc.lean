/- -/
import Derived.Test.YtlapgdocpndfiaaGreatDoorWZDefs
set_option linter.unusedVariables false
set_option linter.unusedSimpArgs false
set_option maxRecDepth 1000000
namespace Go.Proofs.YtlapgdocpndfiaaGreatDoor
open Go.RowKit Go.Shelf
def prevR (ps:List PairB):Nat->Option (List CellB)
 | 0=>none
 | k + 1=>some (ps.getD k default).1
theorem znR {α:Type} [Inhabited α] {l:List α} {k:Nat} (h:k < l.length):l.drop k=l.getD k default :: l.drop (k + 1):=by
 rw [List.drop_eq_getElem_cons h];simp [List.getD,h]
theorem zxT {cs:List ColB} {ps:List PairB} {k:Nat} (h:k < ps.length) (h1:errRow cs (ps.getD k default).1=0) (h2:(ps.getD k default).2≠0) (h3:∀ r,prevR ps k=some r->cmpR cs r (ps.getD k default).1 < 0) :
  chkF cs (prevR ps k) (ps.drop k)=chkF cs (prevR ps (k + 1)) (ps.drop (k + 1)):=by
 rw [znR h]
 conv=>lhs;unfold chkF
 rw [if_neg (fun h9=>h9 h1),if_neg h2];cases hq:prevR ps k with
 | none=>rfl
 | some r =>
  have:=h3 r hq;show (if _ then _ else _)=_;rw [if_neg (by omega)];rfl
/- -/
namespace Crc
def P:Nat:=2197175160
def F:Nat:=4294967295
def step (s:Nat):Nat:=if s % 2=1 then s / 2 ^^^ P else s / 2
def pow:Nat->Nat->Nat
 | 0,s=>s
 | n + 1,s=>pow n (step s)
def reg (s:Nat):Bs->Nat
 | []=>s
 | b :: l=>reg (pow 8 (s ^^^ b.toNat)) l
def sum (l:Bs):Nat:=F ^^^ reg F l
def more (s:Nat) (l:Bs):Nat:=F ^^^ reg (F ^^^ s) l
def put (s:Nat):Bs:=[UInt8.ofNat (s % 256),UInt8.ofNat (s / 256 % 256),UInt8.ofNat (s / 65536 % 256),UInt8.ofNat (s / 16777216 % 256)]
def good (l:Bs):Prop:=4<=l.length/\put (sum (l.take (l.length - 4)))=l.drop (l.length - 4)
instance (l:Bs):Decidable (good l):=inferInstanceAs (Decidable (_/\_))
theorem pow_add (m n:Nat):∀ s,pow (m + n) s=pow n (pow m s):=by
 induction m with
 | zero=>intro s;simp [pow]
 | succ m ih=>intro s;rw [show m + 1 + n=(m + n) + 1 from by omega];show pow (m + n) (step s)=_;rw [ih];rfl
theorem step_lt {s:Nat} (h:s < 4294967296):step s < 4294967296:=by
 unfold step;split
 ·exact Nat.xor_lt_two_pow (n:=32) (by omega) (by decide)
 omega
theorem pow_lt {n:Nat}:∀ {s:Nat},s < 4294967296->pow n s < 4294967296:=by
 induction n with
 | zero=>intro s h;exact h
 | succ n ih=>intro s h;exact ih (step_lt h)
theorem byte_lt {s:Nat} (h:s < 4294967296) (b:UInt8):s ^^^ b.toNat < 4294967296:=by
 have:=b.toNat_lt;exact Nat.xor_lt_two_pow (n:=32) (by omega) (by omega)
theorem zDT {l:Bs}:∀ {s:Nat},s < 4294967296->reg s l < 4294967296:=by
 induction l with
 | nil=>intro s h;exact h
 | cons b l ih=>intro s h;exact ih (pow_lt (byte_lt h b))
theorem F_lt:F < 4294967296:=by decide
theorem sum_lt (l:Bs):sum l < 4294967296:=Nat.xor_lt_two_pow (n:=32) F_lt (zDT F_lt)
theorem reg_append (a b:Bs):∀ s,reg s (a ++ b)=reg (reg s a) b:=by
 induction a with
 | nil=>intro s;rfl
 | cons x a ih=>intro s;exact ih _
theorem put_length (s:Nat):(put s).length=4:=rfl
theorem good_seal (b:Bs):good (b ++ put (sum b)):=by
 have hl:(b ++ put (sum b)).length - 4=b.length:=by simp [put_length]
 refine ⟨by simp [put_length],?_⟩;rw [hl];simp
end Crc
/- -/
namespace Crc
end Crc
/- -/
open Go.RowKit Go.Shelf
