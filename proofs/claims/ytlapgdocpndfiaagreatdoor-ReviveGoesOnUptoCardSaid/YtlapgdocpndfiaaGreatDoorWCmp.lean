/- -/
import Derived.Test.YtlapgdocpndfiaaGreatDoorWBaseA
import Derived.Laws.Externs
import Derived.Laws.BitsAllLaws
set_option linter.unusedVariables false
set_option linter.unusedSimpArgs false
set_option maxRecDepth 1000000
namespace Go.Proofs.YtlapgdocpndfiaaGreatDoor.Flt
open _root_.Go.Proofs.Tryz
open Ieee
end Go.Proofs.YtlapgdocpndfiaaGreatDoor.Flt
/- -/
namespace Go.Proofs.YtlapgdocpndfiaaGreatDoor
open _root_.Go.Proofs.Tryz
open Go.RowKit
def tkey (x:Nat):Int:=if x < 9223372036854775808 then (x:Int) else 9223372036854775807 - (x:Int)
theorem zBU {x:Nat} (h:x < 9223372036854775808):tkey x=x:=if_pos h
theorem zBV {x:Nat} (h:¬ x < 9223372036854775808):tkey x=9223372036854775807 - (x:Int):=if_neg h
/- -/
theorem za1 {w:World} {t:TypeId} {c:Array Value} {i:Nat} {u:Value} {b:Nat} (h:w.heap[b]?=some (.cells c t (0,0))) (hu:c[i]?=some u):w.cell? ⟨b,i,none⟩=some u:=by rw [cell_of_row _ _ _ _ _ _ h,hu]
def zhS (kind:Int) (x:Nat) (l:Bs) (y:Nat) (m:Bs):Bool :=
 if kind=0 then decide (wrap64 (x:Int) < wrap64 (y:Int)) else if kind=3∨kind=4 then Op.bytesLess l m else if kind=5 then decide (tkey x < tkey y) else decide (x < y)
theorem zeK {kind:Int} {x:Nat} {l:Bs} (h:checkC kind x l=0):0<=kind/\kind<=5:=by
 unfold checkC at h;by_cases h1:kind < 0∨5 < kind
 ·rw [if_pos h1] at h;exact absurd h (by decide)
 omega
def cmpC (kind:Int) (x:Nat) (l:Bs) (y:Nat) (m:Bs):Int :=
 if checkC kind x l≠0∨checkC kind y m≠0 then 0 else if zhS kind x l y m=true then -1 else if zhS kind y m x l=true then 1 else 0
/- -/
theorem zkM (kind:Int) (w:World) :
  Calls prog 227 #[.int .i64 kind] w fun e w'=>e=.returned (.bool (decide (0<=kind/\kind<=5)))/\w'=w:=by
 by_cases h0:kind ≥ 0
 ·have hd:decide (kind ≥ 0)=true:=decide_eq_true h0;by_cases h6:kind < 6
  ·have hd2:decide (kind < 6)=true:=decide_eq_true h6;rw [show decide (0<=kind/\kind<=5)=true from decide_eq_true (by omega)];go_enter func227,ntmps227;go_wp2;go_ret;exact ⟨rfl,rfl⟩
  have hd2:decide (kind < 6)=false:=decide_eq_false h6;rw [show decide (0<=kind/\kind<=5)=false from decide_eq_false (by omega)];go_enter func227,ntmps227;go_wp2;go_ret;exact ⟨rfl,rfl⟩
 have hd:decide (kind ≥ 0)=false:=decide_eq_false h0;rw [show decide (0<=kind/\kind<=5)=false from decide_eq_false (by omega)];go_enter func227,ntmps227;go_wp2;go_ret;exact ⟨rfl,rfl⟩
theorem zEI (x:Nat) (hx:x < 18446744073709551616):bits .xor .u64 IntKind.u64.max (x:Int)=18446744073709551615 - (x:Int):=by
 have h:=u64_xor_nat 18446744073709551615 x (by omega) hx;rw [show IntKind.u64.max=((18446744073709551615:Nat):Int) from rfl,h];have e:18446744073709551615 ^^^ x=18446744073709551615 - x:=by
  have h1:(~~~ (BitVec.ofNat 64 x)).toNat=2 ^ 64 - 1 - (BitVec.ofNat 64 x).toNat:=BitVec.toNat_not;rw [BitVec.not_def,BitVec.toNat_xor,BitVec.toNat_allOnes,BitVec.toNat_ofNat,Nat.mod_eq_of_lt (by omega)] at h1;simpa using h1
 rw [e];omega
theorem zpV (x:Nat) (hx:x < 18446744073709551616) (w:World) :
  Calls prog 184 #[.int .u64 (x:Int)] w fun e w'=>e=.returned (.int .u64 (tkey x + 9223372036854775808))/\w'=w:=by
 by_cases h:x < 9223372036854775808
 ·have hd:decide ((x:Int) ≥ 9223372036854775808)=false:=decide_eq_false (by omega);rw [zBU h];go_enter func184,ntmps184;go_wp2;go_ret;refine ⟨?_,rfl⟩;simp
 have hd:decide ((x:Int) ≥ 9223372036854775808)=true:=decide_eq_true (by omega);rw [zBV h];have hn:=zEI x hx;go_enter func184,ntmps184;go_wp2;go_ret;refine ⟨?_,rfl⟩;simp;omega
def ordZ (a b:Int):Int:=if a < b then -1 else if b < a then 1 else 0
theorem zD7 (a b:Int) (w:World) :
  Calls prog 181 #[.int .i64 a,.int .i64 b] w fun e w'=>e=.returned (.int .i64 (ordZ a b))/\w'=w:=by
 rcases Int.lt_trichotomy a b with h | h | h
 ·have hd:decide (a < b)=true:=decide_eq_true h;rw [show ordZ a b=-1 from if_pos h];go_enter func181,ntmps181;go_wp2;go_ret;exact ⟨rfl,rfl⟩
 ·subst h;have hd:decide (a < a)=false:=decide_eq_false (by omega);have hd2:decide (a > a)=false:=decide_eq_false (by omega);rw [show ordZ a a=0 from by unfold ordZ;rw [if_neg (by omega),if_neg (by omega)]];go_enter func181,ntmps181;go_wp2;go_ret;exact ⟨rfl,rfl⟩
 have hd:decide (a < b)=false:=decide_eq_false (by omega);have hd2:decide (a > b)=true:=decide_eq_true h;rw [show ordZ a b=1 from by unfold ordZ;rw [if_neg (by omega),if_pos h]];go_enter func181,ntmps181;go_wp2;go_ret;exact ⟨rfl,rfl⟩
theorem zrL (a b:Int) (w:World) :
  Calls prog 183 #[.int .u64 a,.int .u64 b] w fun e w'=>e=.returned (.int .i64 (ordZ a b))/\w'=w:=by
 rcases Int.lt_trichotomy a b with h | h | h
 ·have hd:decide (a < b)=true:=decide_eq_true h;rw [show ordZ a b=-1 from if_pos h];go_enter func183,ntmps183;go_wp2;go_ret;exact ⟨rfl,rfl⟩
 ·subst h;have hd:decide (a < a)=false:=decide_eq_false (by omega);have hd2:decide (a > a)=false:=decide_eq_false (by omega);rw [show ordZ a a=0 from by unfold ordZ;rw [if_neg (by omega),if_neg (by omega)]];go_enter func183,ntmps183;go_wp2;go_ret;exact ⟨rfl,rfl⟩
 have hd:decide (a < b)=false:=decide_eq_false (by omega);have hd2:decide (a > b)=true:=decide_eq_true h;rw [show ordZ a b=1 from by unfold ordZ;rw [if_neg (by omega),if_pos h]];go_enter func183,ntmps183;go_wp2;go_ret;exact ⟨rfl,rfl⟩
theorem zkN (x:Nat) (hx:x < 18446744073709551616) (s:ByteArray) (w:World) :
  Calls prog 182 #[cellV x s] w fun e w'=>e=.returned (.int .i64 (wrap64 (x:Int)))/\Below w.heap.size w w':=by
 unfold cellV;go_enter func182,ntmps182;go_wp2;go_ret;exact ⟨rfl,(Below.refl _ _).alloc l_ _⟩
