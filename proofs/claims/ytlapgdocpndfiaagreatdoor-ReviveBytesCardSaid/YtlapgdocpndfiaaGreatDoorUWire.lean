/- -/
import Derived.Test.YtlapgdocpndfiaaGreatDoorUBaseA
import Derived.Maps.OwnOps
import Derived.Maps.Views
import Derived.Lib.BitFns
import Derived.Lib.Walk
import Derived.Deep.Light
import Derived.Lib.Zigzag
import Derived.Lib.Join
set_option maxHeartbeats 4000000
set_option linter.unusedVariables false
set_option linter.unusedSimpArgs false
set_option maxRecDepth 1000000
namespace Go.Proofs.YtlapgdocpndfiaaGreatDoor
open _root_.Go.Proofs.Tryz
open Go.RowKit Go.Maps
theorem zCR:Keyed prog 9:=string_keyed underlying9
theorem zA0 (w:World):(zeroValue 4).run prog w=.ok (.bool false) w:=by kernel_rfl
def zdF (w:World) (m:Nat) (ahead:List Bs):Prop :=
 ∃ D:DataW Unit,w.ownsMap prog 9 (plainElem prog 4) m ahead.length D/\∀ l,D.atKey (.string l) (.lit (.bool false))=.lit (.bool (ahead.contains l))
theorem zdF.lt {w:World} {m:Nat} {a:List Bs} (h:zdF w m a):m < w.heap.size:=by obtain ⟨D,h,_⟩:=h;exact h.lt
theorem zdF.made (w:World):zdF (w.alloc (.map #[] 0)) w.heap.size [] :=
 ⟨.map [],World.ownsMap_made w _ _ _,fun l=>by simp [DataW.atKey]⟩
theorem zdF.kept {w w':World} {m:Nat} {a:List Bs} {r:Option Nat} (h:zdF w m a) (hg:w.grownBy w' r) (hne:some m≠r):zdF w' m a:=by
 obtain ⟨D,h1,h2⟩:=h;exact ⟨D,h1.kept hg hne,h2⟩
theorem zdF.later {w w':World} {m:Nat} {a:List Bs} {B:Nat} (h:zdF w m a) (hb:Below B w w') (hB:w.heap.size<=B):zdF w' m a :=
 h.kept (r:=none) ⟨hb.os,hb.tape,hb.output,hb.size,fun j hj _=>hb.block j (Nat.lt_of_lt_of_le hj hB)⟩ (by simp)
theorem zdF.alloc {w:World} {m:Nat} {a:List Bs} (h:zdF w m a) (o:Obj):zdF (w.alloc o) m a:=by
 obtain ⟨D,h1,h2⟩:=h;exact ⟨D,h1.alloc o,h2⟩
theorem zg6 {P:Program} {e:TypeId} (he:P.underlying e=some .bool) {v:Value} {z:DataW Unit × List MemPlace} (h:plainElem P e v=some z):∃ x,v=.bool x/\z=(.lit (.bool x),[]):=by
 unfold plainElem at h;rw [he] at h;split at h
 ·rename_i x h1;exact ⟨x,rfl,by cases h;rfl⟩
 ·cases ‹some TypeDesc.bool=some (TypeDesc.int _)›
 ·cases ‹some TypeDesc.bool=some TypeDesc.string›
 cases h
theorem zdF.look {w:World} {m:Nat} {a:List Bs} (h:zdF w m a) (s:ByteArray) (hs:s.size<=maxLen) :
  (Instr.lookup 299 (.map (some m)) (.string s) false).run prog w=.ok (.bool (a.contains s.data.toList)) w:=by
 obtain ⟨D,h1,h2⟩:=h;obtain ⟨v,ps,hr,hv⟩:=h1.lookup zCR underlying299 (zA0 w) (plainElem_bool underlying4 false) (WideMaps.keyOf_string_mk underlying9 hs);obtain ⟨x,rfl,hx⟩:=zg6 underlying4 hv;simp only [Prod.mk.injEq] at hx;rw [h2] at hx;have e:a.contains s.data.toList=x:=by simpa using hx.1
 rw [hr,e]
theorem zf4 {ops:Array Oper} {Q:Exit->Act->World->Prop} {rest:List Oper} {a:Act} {w:World} {dst:Option Tmp} {ty:TypeId} {pos:String} {aft:Array Edge} {mo x v:Operand}
  (m:Nat) (ah:List Bs) (h:zdF w m ah) (hm:a.eval mo=.map (some m)) (s:ByteArray) (hs:s.size<=maxLen) (hx:a.eval x=.string s) (hv:a.eval v=.bool true) (hn:ah.length < maxLen)
  (hK:∀ w',zdF w' m (ah ++ [s.data.toList])->w.grownBy w' (some m)->wpList prog ops Q rest (a.put dst undef) w') :
  wpList prog ops Q (⟨dst,.mapUpdate 299 mo x v,ty,pos,aft,none⟩ :: rest) a w:=by
 obtain ⟨D,h1,h2⟩:=h;refine wpList_mapUpdate_own w rfl mo x v 299 rfl 9 4 zCR underlying299 (plainElem prog 4) m ah.length D hm h1 hn (.string s) (.bool true) (.string s.data.toList) hx hv (WideMaps.keyOf_string_mk underlying9 hs) (.lit (.bool true)) [] (plainElem_bool underlying4 true) ?_;intro w' r1 r2;refine hK w' ⟨_,by rw [List.length_append];exact r1,fun l=>?_⟩ r2;by_cases he:l=s.data.toList
 ·subst he;rw [atKey_put_same h1.isMap (show WideAt.IsKeyLit (.string s.data.toList) from trivial)];simp
 rw [atKey_put_other (fun hh=>he (by injection hh)),h2];have e:(ah ++ [s.data.toList]).contains l=ah.contains l:=by
  rw [Bool.eq_iff_iff];simp [he]
 rw [e]
/- -/
def encU (x:Nat):Bs :=
 if x < 128 then [UInt8.ofNat x] else UInt8.ofNat (128 + x % 128) :: encU (x / 128)
termination_by x
decreasing_by omega
theorem zdQ {x:Nat} (h:x < 128):encU x=[UInt8.ofNat x]:=by rw [encU,if_pos h]
theorem zdS {x:Nat} (h:¬ x < 128):encU x=UInt8.ofNat (128 + x % 128) :: encU (x / 128):=by rw [encU,if_neg h]
theorem znO (x:Nat):0 < (encU x).length:=by
 by_cases h:x < 128
 ·rw [zdQ h];simp
 rw [zdS h];simp
def preU (x:Nat):Nat->Bs
 | 0=>[]
 | k + 1=>preU x k ++ [UInt8.ofNat (128 + x / 128 ^ k % 128)]
theorem zaJ (x k:Nat):(preU x k).length=k:=by
 induction k with
 | zero=>rfl
 | succ k ih=>simp [preU,ih]
theorem zxW (x k:Nat):preU x (k + 1)=UInt8.ofNat (128 + x % 128) :: preU (x / 128) k:=by
 induction k with
 | zero=>simp [preU]
 | succ k ih =>
  rw [preU,ih,preU];simp only [List.cons_append,Nat.div_div_eq_div_mul];rw [show 128 ^ (k + 1)=128 * 128 ^ k by rw [Nat.pow_succ,Nat.mul_comm]]
theorem znN (x:Nat):∃ k,(encU x).length=k + 1/\x / 128 ^ k < 128/\encU x=preU x k ++ [UInt8.ofNat (x / 128 ^ k)]/\(0 < k->0 < x / 128 ^ k):=by
 by_cases h:x < 128
 ·exact ⟨0,by rw [zdQ h];rfl,by simpa using h,by rw [zdQ h];simp [preU],by omega⟩
 obtain ⟨k,h1,h2,h3,h4⟩:=znN (x / 128);have e:x / 128 ^ (k + 1)=x / 128 / 128 ^ k:=by rw [Nat.div_div_eq_div_mul,Nat.pow_succ,Nat.mul_comm]
 refine ⟨k + 1,by rw [zdS h];simp [h1],by rw [e];exact h2,by rw [zdS h,h3,zxW,e];simp,fun _=>?_⟩;rw [e];by_cases hk:k=0
 ·subst hk;simp;omega
 exact h4 (by omega)
termination_by x
decreasing_by omega
theorem zdR (x:Nat):(encU x).length=((x ||| 1).log2 + 7) / 7:=by
 by_cases h:x < 128
 ·rw [zdQ h];have hne:x ||| 1≠0:=by
   intro h0;have:=Nat.or_eq_zero_iff.1 h0;omega
  have hlt:x ||| 1 < 2 ^ 7:=Nat.or_lt_two_pow (by omega) (by omega);have:=(Nat.log2_lt hne).2 hlt;simp only [List.length_cons,List.length_nil];omega
 rw [zdS h];have ih:=zdR (x / 128);rw [List.length_cons,ih];have e1:(x / 128 ||| 1).log2 + 7=(x ||| 1).log2:=by
  have hne:x / 128 ||| 1≠0:=by
   intro h0;have:=Nat.or_eq_zero_iff.1 h0;omega
  have hne':x ||| 1≠0:=by
   intro h0;have:=Nat.or_eq_zero_iff.1 h0;omega
  have l1:(x / 128 ||| 1).log2=(x / 128).log2:=by
   apply Nat.le_antisymm
   ·have hx:x / 128≠0:=(by omega);have h2:x / 128 < 2 ^ ((x / 128).log2 + 1):=Nat.lt_log2_self;have h3:x / 128 ||| 1 < 2 ^ ((x / 128).log2 + 1):=Nat.or_lt_two_pow h2 (by have:=Nat.two_pow_pos (x / 128).log2;rw [Nat.pow_succ];omega);have:=(Nat.log2_lt hne).2 h3;omega
   exact (Nat.le_log2 hne).2 (Nat.le_trans (Nat.log2_self_le (by omega)) Nat.left_le_or)
  have l2:(x ||| 1).log2=x.log2:=by
   apply Nat.le_antisymm
   ·have h2:x < 2 ^ (x.log2 + 1):=Nat.lt_log2_self;have h3:x ||| 1 < 2 ^ (x.log2 + 1):=Nat.or_lt_two_pow h2 (by have:=Nat.two_pow_pos x.log2;rw [Nat.pow_succ];omega);have:=(Nat.log2_lt hne').2 h3;omega
   exact (Nat.le_log2 hne').2 (Nat.le_trans (Nat.log2_self_le (by omega)) Nat.left_le_or)
  rw [l1,l2];have hx:x / 128≠0:=by omega
  have h1:=Nat.log2_self_le hx;have h2:x / 128 < 2 ^ ((x / 128).log2 + 1):=Nat.lt_log2_self;exact ((Nat.log2_eq_iff (by omega)).2 ⟨by rw [Nat.pow_add];omega,by rw [show (x / 128).log2 + 7 + 1=((x / 128).log2 + 1) + 7 by omega,Nat.pow_add];omega⟩).symm
 rw [<- e1];omega
termination_by x
decreasing_by omega
theorem zaC (x:Nat) (h:x < 2 ^ 64):(encU x).length<=10:=by
 rw [zdR];have hne:x ||| 1≠0:=by
  intro h0;have:=Nat.or_eq_zero_iff.1 h0;omega
 have:=(Nat.log2_lt hne).2 (Nat.or_lt_two_pow h (by decide:1 < 2 ^ 64));omega
theorem zpW {a b:Nat} (h:a<=b):(encU a).length<=(encU b).length:=by
 by_cases ha:a < 128
 ·rw [zdQ ha];exact znO b
 rw [zdS ha,zdS (x:=b) (by omega)];have:=zpW (a:=a / 128) (b:=b / 128) (by omega);simp;exact this
termination_by a
decreasing_by omega
def zig (x:Int):Nat:=if x < 0 then (-2 * x - 1).toNat else (2 * x).toNat
def zag (x:Nat):Int:=if x % 2=1 then -(((x + 1) / 2:Nat):Int) else ((x / 2:Nat):Int)
theorem zvV (x:Int):zag (zig x)=x:=by
 unfold zag zig;split <;> split <;> omega
theorem zvU (x:Nat):zig (zag x)=x:=by
 unfold zag zig;split <;> split <;> omega
theorem ziQ (x:Int) (h0:-9223372036854775808<=x) (h1:x<=9223372036854775807):zig x < 2 ^ 64:=by
 unfold zig;split <;> omega
def valU (l:Bs):Nat:=l.foldr (fun b acc=>b.toNat % 128 + 128 * acc) 0
theorem zfS:valU []=0:=rfl
theorem zbO (b:UInt8) (l:Bs):valU (b :: l)=b.toNat % 128 + 128 * valU l:=rfl
theorem ziX (l m:Bs):valU (l ++ m)=valU l + 128 ^ l.length * valU m:=by
 induction l with
 | nil=>simp [zfS]
 | cons b l ih=>rw [List.cons_append,zbO,ih,zbO,List.length_cons,Nat.pow_succ,Nat.mul_add,Nat.mul_comm (128 ^ l.length) 128,Nat.mul_assoc];omega
theorem zD4 (l:Bs):valU l < 128 ^ l.length:=by
 induction l with
 | nil=>simp [zfS]
 | cons b l ih=>rw [zbO,List.length_cons,Nat.pow_succ];have:=Nat.mod_lt b.toNat (show 0 < 128 by decide);omega
def leadU:Nat->Bs->Nat
 | 0,_=>0
 | _ + 1,[]=>0
 | k + 1,b :: l=>if b.toNat < 128 then 0 else leadU k l + 1
def getU (l:Bs):Nat × Nat × Nat :=
 let n:=leadU 10 l
 if n=10 then (0,0,7)
 else if n=l.length then (0,0,5)
 else if 2 ^ 64<=valU (l.take (n + 1)) then (0,0,7)
 else if 0 < n/\at8 l n=0 then (0,0,6)
 else (valU (l.take (n + 1)),n + 1,0)
theorem ztF (k:Nat) (l:Bs):leadU k l<=k/\leadU k l<=l.length:=by
 induction k generalizing l with
 | zero=>simp [leadU]
 | succ k ih =>
  cases l with
  | nil=>simp [leadU]
  | cons b l =>
   simp only [leadU];split
   ·simp
   have:=ih l;simp;omega
theorem zcV {k n:Nat} {l:Bs} (hn:n<=k) (hl:n<=l.length) (h1:∀ i,i < n->128<=at8 l i) (h2:n < k->n < l.length->at8 l n < 128):leadU k l=n:=by
 induction k generalizing l n with
 | zero=>simp [leadU];omega
 | succ k ih =>
  cases l with
  | nil=>simp at hl;simp [leadU,hl]
  | cons b l =>
   simp only [leadU];cases n with
   | zero =>
    have:=h2 (by omega) (by simp);simp [at8] at this;rw [if_pos (by omega)]
   | succ n =>
    have h0:=h1 0 (by omega);simp [at8] at h0;rw [if_neg (by omega)];congr 1;refine ih (by omega) (by simpa using hl) (fun i hi=>?_) (fun a b'=>?_)
    ·have:=h1 (i + 1) (by omega);simpa [at8] using this
    have:=h2 (by omega) (by simpa using b');simpa [at8] using this
theorem zBB {k:Nat} {l:Bs}:∀ i,i < leadU k l->128<=at8 l i:=by
 induction k generalizing l with
 | zero=>intro i hi;simp [leadU] at hi
 | succ k ih =>
  intro i hi;cases l with
  | nil=>simp [leadU] at hi
  | cons b l =>
   simp only [leadU] at hi;split at hi
   ·omega
   cases i with
   | zero=>simp [at8];omega
   | succ i=>have:=ih (l:=l) i (by omega);simpa [at8] using this
theorem zvA {k:Nat} {l:Bs} (hk:leadU k l < k) (hl:leadU k l < l.length):at8 l (leadU k l) < 128:=by
 induction k generalizing l with
 | zero=>omega
 | succ k ih =>
  cases l with
  | nil=>simp at hl
  | cons b l =>
   simp only [leadU] at hk hl ⊢;split
   ·simp [at8];omega
   rename_i hb;rw [if_neg hb] at hk hl;have:=ih (l:=l) (by omega) (by simpa using hl);simpa [at8] using this
theorem zu6 (l:Bs) (k:Nat) (h:k < l.length):l.take (k + 1)=l.take k ++ [l[k]]:=List.take_succ_eq_append_getElem h
theorem zo7 (l:Bs) (k:Nat) (h:k < l.length):(valU (l.take (k + 1)):Int)=valU (l.take k) + (at8 l k % 128) * 2 ^ (7 * k):=by
 rw [zu6 l k h,ziX,zhZ h,List.length_take,Nat.min_eq_left (by omega),zbO,zfS];have e:(128:Nat) ^ k=2 ^ (7 * k):=by rw [Nat.pow_mul]
 rw [e];push_cast;simp only [Int.add_zero];rw [Int.mul_comm]
theorem ze1 (l:Bs) (k:Nat) (h:k<=l.length):valU (l.take k) < 2 ^ (7 * k):=by
 have:=zD4 (l.take k);rw [List.length_take,Nat.min_eq_left h] at this;rwa [Nat.pow_mul]
theorem zB5 {X c k:Nat} (hX:X < 2 ^ (7 * k)) (hb:X + c * 2 ^ (7 * k) < 2 ^ 64):bits .or .u64 (X:Int) (IntKind.u64.wrap ((c:Int) * 2 ^ (7 * k)))=((X + c * 2 ^ (7 * k):Nat):Int):=by
 have hw:IntKind.u64.wrap ((c:Int) * 2 ^ (7 * k))=((c * 2 ^ (7 * k):Nat):Int):=by
  rw [show ((c:Int) * 2 ^ (7 * k))=((c * 2 ^ (7 * k):Nat):Int) by push_cast;rfl];generalize c * 2 ^ (7 * k)=y at *;simp [IntKind.wrap,IntKind.signed,IntKind.bits];omega
 rw [hw,u64_or_nat X _ (by omega) (by omega)];congr 1;rw [Nat.or_comm,Nat.mul_comm c,<- Nat.two_pow_add_eq_or_of_lt hX,Nat.add_comm]
theorem ziA (l:Bs) (h9:9 < l.length):2 ^ 64<=valU (l.take (9 + 1)) ↔ 2<=at8 l 9 % 128:=by
 have h1:=zo7 l 9 h9;have h2:=ze1 l 9 (by omega);have e:(2:Int) ^ (7 * 9)=9223372036854775808:=by decide
 rw [e] at h1;have e2:(2:Nat) ^ (7 * 9)=9223372036854775808:=by decide
 rw [e2] at h2;have h3:=zeH l 9;constructor <;> intro h <;> omega
theorem zgM (l:Bs) (k:Nat) (hk:k < 9) (hl:k < l.length):valU (l.take (k + 1)) < 2 ^ 63:=by
 have:=ze1 l (k + 1) (by omega);exact Nat.lt_of_lt_of_le this (Nat.pow_le_pow_right (by omega) (by omega))
section
variable {l:Bs} {k:Nat} (h1:∀ j,j < k->128<=at8 l j)
include h1
theorem zpF (hk:k=10) (hl:k<=l.length):getU l=(0,0,7):=by
 subst hk;have:=zcV (k:=10) (n:=10) (l:=l) (by omega) hl h1 (fun h=>absurd h (by omega));simp [getU,this]
theorem zgZ (hk:k < 10) (hl:k=l.length):getU l=(0,0,5):=by
 subst hl;have:=zcV (k:=10) (n:=l.length) (l:=l) (by omega) (by omega) h1 (fun _ h=>absurd h (by omega));simp only [getU,this];rw [if_neg (by omega),if_pos trivial]
theorem zBF (hk:k=9) (hl:k < l.length) (h2:1 < at8 l k) (h3:at8 l k < 128):getU l=(0,0,7):=by
 subst hk;have:=zcV (k:=10) (n:=9) (l:=l) (by omega) (by omega) h1 (fun _ _=>h3);simp only [getU,this];rw [if_neg (by omega),if_neg (by omega),if_pos ((ziA l hl).2 (by omega))]
theorem zyU (hk:k < 10) (hl:k < l.length) (h2:at8 l k=0) (h3:0 < k):getU l=(0,0,6):=by
 have:=zcV (k:=10) (n:=k) (l:=l) (by omega) (by omega) h1 (fun _ _=>by omega);simp only [getU,this];rw [if_neg (by omega),if_neg (by omega),if_neg,if_pos ⟨h3,h2⟩];by_cases h9:k=9
 ·subst h9;intro h;have:=(ziA l hl).1 h;omega
 have:=zgM l k (by omega) hl;omega
theorem znB (hk:k < 10) (hl:k < l.length) (h2:at8 l k < 128) (h9:k=9->at8 l k<=1) (h0:0 < k->at8 l k≠0):getU l=(valU (l.take (k + 1)),k + 1,0):=by
 have:=zcV (k:=10) (n:=k) (l:=l) (by omega) (by omega) h1 (fun _ _=>h2);simp only [getU,this];rw [if_neg (by omega),if_neg (by omega),if_neg,if_neg (fun h=>h0 h.1 h.2)];by_cases e9:k=9
 ·subst e9;intro h;have:=(ziA l hl).1 h;have:=h9 rfl;have:=zeH l 9;omega
 have:=zgM l k (by omega) hl;omega
end
theorem ziE {l:Bs} {k:Nat} {X:Int} (hX:X=valU (l.take k)) (hl:k < l.length) (h8:k<=9) (c:Int) (h0:0<=c) (hc:c=at8 l k % 128) (h9:k=9->c<=1) :
  bits .or .u64 X (IntKind.u64.wrap (c * 2 ^ (7 * k)))=(valU (l.take (k + 1)):Int):=by
 subst hX;obtain ⟨n,rfl⟩:=Int.eq_ofNat_of_zero_le h0;have hv:=zo7 l k hl;rw [<- hc] at hv;have hX:=ze1 l k (by omega);have hb:valU (l.take (k + 1)) < 2 ^ 64:=by
  by_cases e9:k=9
  ·subst e9;have:=ziA l hl;have:=h9 rfl;omega
  have:=zgM l k (by omega) hl;omega
 have he:valU (l.take (k + 1))=valU (l.take k) + n * 2 ^ (7 * k):=by
  have:((valU (l.take k) + n * 2 ^ (7 * k):Nat):Int)=valU (l.take k) + (n:Int) * 2 ^ (7 * k):=by push_cast;rfl
  omega
 rw [zB5 hX (by omega),he]
theorem zx9 {l:Bs} {k:Nat} {X:Int} (hX:X=valU (l.take k)) (hl:k < l.length) (hk:(k:Int)=9) (h0:0<=at8 l k) (h1:at8 l k<=1) :
  bits .or .u64 X (at8 l k * 9223372036854775808)=(valU (l.take (k + 1)):Int):=by
 obtain rfl:k=9:=by omega
 rw [<- ziE hX hl (by omega) (at8 l 9) h0 (by omega) (fun _=>h1)];congr 1;have:at8 l 9=0∨at8 l 9=1:=by omega
 rcases this with h | h <;> rw [h] <;> decide
theorem ret3 {r:Nat × Nat × Nat} {x y z:Int} {a b c:Nat} (h:r=(a,b,c)) (hx:x=a) (hy:y=b) (hz:z=c) {k1 k2 k3:IntKind} :
  Ending.returned (.tuple #[.int k1 x,.int k2 y,.int k3 z])=.returned (.tuple #[.int k1 (r.1:Nat),.int k2 (r.2.1:Nat),.int k3 (r.2.2:Nat)]):=by
 subst h;rw [hx,hy,hz]
/- -/
theorem zn8 (y:Int) (h0:0 < y) (h1:y<=255):Lib.len8 y=(y.toNat.log2 + 1:Nat):=by
 have h:∀ n:Fin 256,n.val≠0->Lib.len8 (n.val:Int)=(n.val.log2 + 1:Nat):=by decide +kernel
 have:=h ⟨y.toNat,by omega⟩ (by simp;omega);simp only at this;rw [show ((y.toNat:Nat):Int)=y by omega] at this;exact this
theorem zv9 (x s:Nat) (h:2 ^ s<=x):x.log2=(x / 2 ^ s).log2 + s:=by
 have hp:0 < 2 ^ s:=Nat.two_pow_pos s;have hx:x / 2 ^ s≠0:=by have:=(Nat.le_div_iff_mul_le hp).2 (show 1 * 2 ^ s<=x by omega);omega
 have h1:=Nat.log2_self_le hx;have h2:x / 2 ^ s < 2 ^ ((x / 2 ^ s).log2 + 1):=Nat.lt_log2_self;exact (Nat.log2_eq_iff (by omega)).2
  ⟨by rw [Nat.pow_add];exact (Nat.le_div_iff_mul_le hp).1 h1,by rw [show (x / 2 ^ s).log2 + s + 1=((x / 2 ^ s).log2 + 1) + s by omega,Nat.pow_add];exact (Nat.div_lt_iff_lt_mul hp).1 h2⟩
theorem zDV (x y:Int) (s:Nat) (hy:y=((x.toNat / 2 ^ s:Nat):Int)) (hs:2 ^ s<=x.toNat) (hy1:y<=255) :
  (s:Int) + Lib.len8 y=(x.toNat.log2 + 1:Nat):=by
 have hp:0 < 2 ^ s:=Nat.two_pow_pos s;have hx:0 < x.toNat / 2 ^ s:=(Nat.le_div_iff_mul_le hp).2 (show 1 * 2 ^ s<=x.toNat by omega);rw [zn8 y (by omega) hy1,zv9 x.toNat s hs,hy,Int.toNat_natCast];omega
theorem zyM (y:Int) (h0:0 < y) (h1:y<=255):1<=Lib.len8 y/\Lib.len8 y<=8:=by
 rw [zn8 y h0 h1];have:=(Nat.log2_lt (n:=y.toNat) (k:=8) (by omega)).2 (by omega);omega
theorem zwU (y:Int) (h:y.toNat < Lib.len8tab.size):((Lib.len8tab[y.toNat]'h).toNat:Int)=Lib.len8 y:=by
 unfold Lib.len8;rw [getElem?_pos Lib.len8tab y.toNat h];rfl
theorem zA1 (k z:Int) (h0:0<=k) (h1:k<=56) (h2:1<=z/\z<=8):wrap64 (k + wrap64 z)=k + z:=by unfold wrap64;omega
theorem ztZ (z:Int) (h2:1<=z/\z<=8):wrap64 (wrap64 z)=z:=by unfold wrap64;omega
theorem zfE (x y:Int) (s:Nat) (h:y.toNat < Lib.len8tab.size) (_h0:0 < x) (hs:2 ^ s<=x.toNat) (hs56:s<=56) (hy:y=((x.toNat / 2 ^ s:Nat):Int)) (hy1:y<=255) (hy0:0 < y) :
  wrap64 ((s:Int) + wrap64 (Lib.len8tab[y.toNat]'h).toNat)=(x.toNat.log2 + 1:Nat):=by
 rw [zwU,zA1 _ _ (by omega) (by omega) (zyM y hy0 hy1)];exact zDV x y s hy hs hy1
theorem zBA (x:Int) (h:x.toNat < Lib.len8tab.size) (h0:0 < x) (hy1:x<=255) :
  wrap64 (wrap64 (Lib.len8tab[x.toNat]'h).toNat)=(x.toNat.log2 + 1:Nat):=by
 rw [zwU,ztZ _ (zyM x h0 hy1),zn8 x h0 hy1]
theorem bits_Len64 (x : Int) (h0 : 0 < x) (h1 : x <= 18446744073709551615) (w : World) :
    Calls prog 178 #[.int .u64 x] w fun e w' => e = .returned (.int .i64 (x.toNat.log2 + 1 : Nat)) /\ w = w' := by
 go_enter func178,ntmps178;go_wp2
 all_goals first
  | (go_ret;refine ⟨congrArg Ending.returned (congrArg (Value.int IntKind.i64) ?_),rfl⟩;go_light)
  | (exfalso
     go_light
     have hs := Lib.len8tab_size
     omega)
 all_goals first
  | exact zfE x (x / 4294967296 / 65536 / 256) 56 _ h0 (by omega) (by omega) (by omega) (by omega) (by omega)
  | exact zfE x (x / 4294967296 / 65536) 48 _ h0 (by omega) (by omega) (by omega) (by omega) (by omega)
  | exact zfE x (x / 4294967296 / 256) 40 _ h0 (by omega) (by omega) (by omega) (by omega) (by omega)
  | exact zfE x (x / 4294967296) 32 _ h0 (by omega) (by omega) (by omega) (by omega) (by omega)
  | exact zfE x (x / 65536 / 256) 24 _ h0 (by omega) (by omega) (by omega) (by omega) (by omega)
  | exact zfE x (x / 65536) 16 _ h0 (by omega) (by omega) (by omega) (by omega) (by omega)
  | exact zfE x (x / 256) 8 _ h0 (by omega) (by omega) (by omega) (by omega) (by omega)
  | exact zBA x _ h0 (by omega)
/- -/
theorem zv3 (x:Int) (h0:0<=x) (h1:x<=18446744073709551615) :
  ∃ y:Int,bits .or .u64 x 1=y/\0 < y/\y<=18446744073709551615/\y.toNat.log2 < 64/\(encU x.toNat).length=(y.toNat.log2 + 7) / 7:=by
 refine ⟨((x.toNat ||| 1:Nat):Int),?_,?_,?_,?_,?_⟩
 ·rw [u64_or x 1 h0 (by omega) (by decide) (by decide)];rfl
 ·have:1<=x.toNat ||| 1:=Nat.right_le_or;omega
 ·have:x.toNat ||| 1 < 2 ^ 64:=Nat.or_lt_two_pow (by omega) (by decide);omega
 ·rw [Int.toNat_natCast];have h:x.toNat ||| 1 < 2 ^ 64:=Nat.or_lt_two_pow (by omega) (by decide);have:1<=x.toNat ||| 1:=Nat.right_le_or;exact (Nat.log2_lt (by omega)).2 h
 rw [Int.toNat_natCast,zdR]
theorem zo6 (x:Int) (h0:0<=x) (h1:x<=18446744073709551615) (w:World) :
  Calls prog 192 #[.int .u64 x] w fun e w'=>e=.returned (.int .i64 ((encU x.toNat).length:Nat))/\w=w':=by
 obtain ⟨y,hy,hy0,hy1,hy2,hl⟩:=zv3 x h0 h1;have Hl:=h_ hl;clear hl;go_enter func192,ntmps192;go_wp2_with (go_at_call 178;refine (bits_Len64 _ (by omega) (by omega) _).mono ?_;rintro e w' ⟨rfl,rfl⟩);go_ret;refine ⟨congrArg Ending.returned (congrArg (Value.int IntKind.i64) ?_),rfl⟩;rw [Hl.o];generalize y.toNat.log2=q at *;omega
theorem zzZ (x:Int) (h0:-9223372036854775808<=x) (h1:x < 0):bits .xor .u64 IntKind.u64.max (IntKind.u64.wrap (IntKind.u64.wrap x * 2))=(zig x:Int):=by
 have e1:IntKind.u64.wrap (IntKind.u64.wrap x * 2)=((2 ^ 64 + 2 * x).toNat:Nat):=by
  simp [IntKind.wrap,IntKind.signed,IntKind.bits];omega
 have e2:IntKind.u64.max=((2 ^ 64 - 1:Nat):Int):=by decide
 rw [e1,e2,u64_xor_nat _ _ (by decide) (by omega),Lib.xor_ones64 _ (by omega)];unfold zig;rw [if_pos h1];omega
theorem zA8 (x:Int) (h0:-9223372036854775808<=x) (h1:x<=9223372036854775807) (w:World) :
  Calls prog 237 #[.int .i64 x] w fun e w'=>e=.returned (.int .u64 (zig x:Nat))/\w=w':=by
 go_enter func237,ntmps237;go_wp2
 all_goals go_ret
 all_goals refine ⟨congrArg Ending.returned (congrArg (Value.int IntKind.u64) ?_),rfl⟩
 ·exact zzZ x h0 (by assumption)
 have:0<=x:=by assumption
 unfold zig;rw [if_neg (by omega)];omega
theorem zA9 (x:Int) (h0:0<=x) (h1:x<=18446744073709551615) (w:World) :
  Calls prog 249 #[.int .u64 x] w fun e w'=>e=.returned (.int .i64 (zag x.toNat))/\w=w':=by
 go_enter func249,ntmps249;go_wp2
 all_goals go_ret
 all_goals refine ⟨congrArg Ending.returned (congrArg (Value.int IntKind.i64) ?_),rfl⟩
 ·have hx:(x % 2 == 1)=true:=by assumption
  have hx':x % 2=1:=by simpa using hx
  rw [show x / 2=((x.toNat / 2:Nat):Int) by omega,Lib.i64_not _ (by omega)];unfold zag;rw [if_pos (by omega)];omega
 have hx:(x % 2 == 1)=false:=by assumption
 have hx':¬ x % 2=1:=by simpa using hx
 unfold zag;rw [if_neg (by omega)];omega
theorem zDF (x:Int) (h0:0<=x) (h1:x<=18446744073709551615) (w:World) :
  Calls prog 239 #[.int .u64 x] w fun e w'=>e=.returned (.int .i64 (zag x.toNat))/\w=w':=by
 go_enter func239,ntmps239;go_wp2
 all_goals go_ret
 all_goals refine ⟨congrArg Ending.returned (congrArg (Value.int IntKind.i64) ?_),rfl⟩
 ·have hx:(x % 2 == 0)=true:=by assumption
  have hx':x % 2=0:=by simpa using hx
  unfold zag;rw [if_neg (by omega)];omega
 have hx:(x % 2 == 0)=false:=by assumption
 have hx':¬ x % 2=0:=by simpa using hx
 unfold zag;rw [if_pos (by omega)];omega
/- -/
theorem zmO (y:Nat):bits .or .u8 ((y:Int) % 256) 128=((UInt8.ofNat (128 + y % 128)).toNat:Int):=by
 rw [show ((y:Int) % 256)=((y % 256:Nat):Int) by omega,Lib.u8_or128_any _ (by omega) (by omega)];rw [UInt8.toNat_ofNat'];omega
theorem zC3 (y:Nat):((UInt8.ofNat (128 + y % 128)).toNat:Int)=128 + (y % 128:Nat):=by
 rw [UInt8.toNat_ofNat'];omega
theorem zhD (x:Int) (h0:0<=x) (h1:x<=18446744073709551615) (g n cap:Nat) (cur:List Value) (w:World) (hn:n=(encU x.toNat).length) (hc:n<=cur.length)
  (hg:w.heap[g]?=some (.cells cur.toArray 5 (0,0))) :
  Calls prog 193 #[.slice (some ⟨g,0,none⟩) n cap,.int .u64 x] w fun e w'=>e=.returned (.tuple #[]) /\
   w'.heap[g]?=some (.cells (za6 (encU x.toNat) ++ cur.drop n).toArray 5 (0,0))/\w.grownBy w' (some g):=by
 obtain ⟨m,rfl⟩:=Int.eq_ofNat_of_zero_le h0;rw [Int.toNat_natCast] at *;obtain ⟨j,hj1,hj2,hj3,hj4⟩:=znN m;have hle:=zaC m (by omega);have hn1:1<=n:=by omega
 have hn10:n<=10:=by omega
 obtain rfl:j=n - 1:=by omega
 have HG:=h_ hg;have HJ:=h_ (And.intro hn (And.intro hj2 hj3));clear hn hg hj1 hj2 hj3 hj4 hle;go_enter func193,ntmps193;go_wp2;go_loopw [1,7] (fun y i wr=>∃ k:Nat,k<=n/\i=.int .i64 k/\y=.int .u64 ((m:Int) / 128 ^ k)/\Hid (wr.heap[g]?=some (.cells (za6 (preU m k) ++ cur.drop k).toArray 5 (0,0)))/\w.grownBy wr (some g)) (fun _ i _=>n - (intOf i).toNat)
 case atStart=>exact ⟨0,by omega,rfl,by simp,by simpa [preU,za6,Hid] using HG.o,World.grownBy.refl _ _⟩
 obtain ⟨k,hk,rfl,rfl,HB,hgr⟩:=hrel;by_cases hlt:k < n
 ·have hcell:∃ old,wr.cell? ⟨g,k,none⟩=some old:=by
   rw [cell_of_row _ _ _ _ _ _ HB.o];exact ⟨_,Array.getElem?_eq_getElem (by simp [za0,zaJ];omega)⟩
  obtain ⟨old,hcell⟩:=hcell;have hfr:wr.frozen? ⟨g,k,none⟩=false:=frozen_of_row _ _ _ _ _ HB.o;go_wp2;go_roundw
  case rel =>
   refine ⟨k + 1,by omega,by go_num,?_,?_,za2 hgr _⟩
   ·rw [Int.pow_succ,Int.ediv_ediv_of_nonneg (Int.le_of_lt (Int.pow_pos (by decide)))]
   have:=block_setCell (k:=k) HB.o (.int .u8 (bits BinOp.or IntKind.u8 ((m:Int) / 128 ^ k % 256) 128));rw [zCK _ _ _ k (by simp [za0,zaJ]) (by simp;omega)] at this;refine h_ (this.trans ?_);rw [show ((m:Int) / 128 ^ k % 256)=((m / 128 ^ k:Nat):Int) % 256 by push_cast;rfl,zmO,preU,zaG,List.drop_drop];rfl
  simp [intOf];omega
 obtain rfl:k=n:=by omega
 have hcell:wr.cell? ⟨g,k - 1,none⟩=some (.int .u8 ((UInt8.ofNat (128 + m / 128 ^ (k - 1) % 128)).toNat:Int)):=by
  rw [zC0 HB.o (by simp [za0,zaJ];omega)];obtain ⟨i,rfl⟩:∃ i,k=i + 1:=⟨k - 1,by omega⟩;rw [preU,zaG,List.getElem?_append_right (by simp [za0,zaJ])];simp [za6,zeU,zaJ]
 have hfr:wr.frozen? ⟨g,k - 1,none⟩=false:=frozen_of_row _ _ _ _ _ HB.o;rw [zC3] at hcell;have hb:m / 128 ^ (k - 1) % 128 < 128:=Nat.mod_lt _ (by decide);obtain ⟨q,hq⟩:=nm_ (m / 128 ^ (k - 1) % 128);rw [<- hq] at hcell hb;have HQ:=h_ hq;clear hq;go_wp2;go_end0;refine ⟨rfl,?_,za2 hgr _⟩;obtain ⟨i,rfl⟩:∃ i,k=i + 1:=⟨k - 1,by omega⟩;have hj:=HJ.o;have hq:=HQ.o;simp only [Nat.add_sub_cancel] at hj hq ⊢;have hB:=HB.o;rw [preU,zaG,List.append_assoc] at hB;have:=block_setCell (k:=i) hB (.int .u8 (128 + (q:Int) - 128));rw [zCK _ _ _ i (by simp [za0,zaJ]) (by simp [za6])] at this;refine this.trans ?_;rw [hj.2.2,zaG];have e:zeU (UInt8.ofNat (m / 128 ^ i))=.int .u8 (128 + (q:Int) - 128):=by
  have hz:=hj.2.1;rw [zeU,UInt8.toNat_ofNat'];clear hB this hj hcell HB HJ HQ;generalize m / 128 ^ i=z at *;congr 1;omega
 simp [za6,e]
theorem zcL (x:Int) (h0:0<=x) (h1:x<=18446744073709551615) (w:World) :
  Calls prog 135 #[.int .u64 x] w (RetB w (encU x.toNat)):=by
 have hle:=zaC x.toNat (by omega);have hmk:=zeL ((encU x.toNat).length:Nat) (by omega) (by omega);simp only [Int.toNat_natCast] at hmk;go_enter func135,ntmps135;go_wp2_with (go_at_call 192;refine (zo6 _ h0 h1 _).mono ?_;rintro e w' ⟨rfl,rfl⟩);refine (zhD x h0 h1 w.heap.size _ _ (za6 (List.replicate (encU x.toNat).length 0)) _ rfl (by simp [za0]) ?_).mono ?_
 ·exact heap_alloc_new w _
 rintro e w' ⟨rfl,hB,hgr⟩;have HB:=h_ hB;clear hB;go_wp2;go_ret;refine ⟨_,rfl,zc5 l_ HB.o rfl l_ (by unfold maxLen;omega) (by simp [za0]) (List.take_left' (za0 _)),?_⟩;exact ((Below.refl _ _).alloc l_ _).grown hgr (by simp) (by simp)
theorem zsI (x:Int) (h0:-9223372036854775808<=x) (h1:x<=9223372036854775807) (w:World) :
  Calls prog 191 #[.int .i64 x] w (RetB w (encU (zig x))):=by
 have hz:=ziQ x h0 h1;go_enter func191,ntmps191;go_wp2_with (go_at_call 237;refine (zA8 _ h0 h1 _).mono ?_;rintro e w' ⟨rfl,rfl⟩);refine (zcL _ (by omega) (by omega) w).mono ?_;rintro e w' ⟨v,rfl,ho,hb⟩;go_wp2;go_ret;exact ⟨_,rfl,ho,hb⟩
def encB (l:Bs):Bs:=encU l.length ++ l
theorem zj4 (l m:Bs) (n:Nat) (hn:n=l.length):splice (l ++ List.replicate m.length 0) n m=l ++ m:=by
 subst hn;unfold splice;rw [List.take_left' rfl,List.drop_of_length_le (by simp)];simp
theorem zc0 (l:Bs):(encB l).length=(encU l.length).length + l.length:=by simp [encB]
/-- Bytes: the two ways, with none and with some, alike. -/
theorem zgK (v:Value) (l:Bs) (w:World) (h:Rd w v l) :
  Calls prog 147 #[v] w (RetB w (encB l)):=by
 have hsm:=h.small;have hle:=zaC l.length (by omega);obtain ⟨hd,hhd⟩:=nm_ ((encU l.length).length);have hmk:=zeL ((hd:Int) + (l.length:Int)) (by omega) (by omega);rw [show ((hd:Int) + (l.length:Int)).toNat=hd + l.length by omega] at hmk;have HH:=h_ hhd;rw [<- hhd] at hle;have hlen:=h.len;clear hhd;obtain ⟨dp,hsl,hdp,_⟩:=zlG (some ⟨w.heap.size,0,none⟩) (hd + l.length) (hd + l.length) hd (by omega) l_;rw [Nat.add_sub_cancel_left] at hsl;have HD:=h_ hdp;clear hdp;go_enter func147,ntmps147;go_wp2_with (go_at_call 192;refine (zo6 _ (by omega) (by omega) _).mono ?_;rintro e w' ⟨rfl,rfl⟩;rw [Int.toNat_natCast,<- HH.o]);refine (zhD _ (by omega) (by omega) w.heap.size _ _ (za6 (List.replicate (hd + l.length) 0)) _ (by rw [Int.toNat_natCast];exact HH.o) (by simp [za0]) (heap_alloc_new w _)).mono ?_;rintro e w1 ⟨rfl,hB,hgr⟩;rw [Int.toNat_natCast] at hB;have hbel:Below w.heap.size w w1:=((Below.refl _ _).alloc l_ _).grown hgr (by simp) (by simp);have hB':w1.heap[w.heap.size]?=some (.cells (za6 (encU l.length ++ List.replicate l.length 0)).toArray 5 (0,0)):=by
  rw [hB,zaG];simp [za6]
 have HB:=h_ hB';have h1:=h.later hbel l_;clear hB hB' hgr hmk;go_wp2_with ((with_reducible refine zsH dp l.length l.length ?hd v l ?hs h1 ?hn w.heap.size hd _ HB.o ?hdp ?hfit w.heap.size w hbel l_ ?_))
 case hd=>rfl
 case hs=>rfl
 case hn=>exact l_
 case hdp=>intro hp;have:=HD.o w.heap.size 0 rfl (by omega);rwa [Nat.zero_add] at this
 case hfit=>have:=HH.o;simp;omega
 intro w2 HG2 hb2;rw [zj4 _ _ _ HH.o] at HG2;go_wp2;go_ret;have hlen:(encB l).length=hd + l.length:=by rw [zc0,HH.o]
 exact ⟨_,rfl,zc5 l_ HG2.o hlen.symm l_ (by unfold maxLen;omega) (by rw [za0];exact hlen) (List.take_of_length_le (by rw [za0];exact Nat.le_of_eq hlen)),hb2⟩
/- -/
theorem zaV (v : Value) (l : Bs) (w : World) (h : Rd w v l) :
    Calls prog 208 #[v] w fun e w' => e = .returned (.tuple #[.int .u64 (getU l).1, .int .i64 (getU l).2.1, .int .i64 (getU l).2.2]) /\ w = w' := by
 have hlen:=h.len;have hidx:=h.idx;have hcel:=h.cells;have hsm:=h.small;go_enter func208,ntmps208;go_wp2
 all_goals
  go_loop [5,11] (fun x i=>∃ (k:Nat) (X:Int),k<=l.length/\k<=10/\i=.int .i64 k/\x=.int .u64 X/\Hid ((∀ j,j < k->128<=at8 l j)/\(k<=9->X=valU (l.take k)))) (fun _ i=>10 - (intOf i).toNat)
  case atStart=>exact ⟨0,0,by omega,by omega,rfl,rfl,⟨fun j hj=>absurd hj (by omega),fun _=>rfl⟩⟩
  obtain ⟨k,X,hkl,hk10,rfl,rfl,HI⟩:=hrel;have hc0:=zeH l k;have hc1:=zcZ l k;by_cases hlt:k < l.length/\k < 10
  ·obtain ⟨hlt,hlt10⟩:=hlt;go_wp2
   all_goals first
    | (go_round
       case rel => exact ⟨k + 1, _, by omega, by omega, by go_num, rfl, ⟨fun j hj => (by
           by_cases e : j = k
           · subst e; omega
           · exact HI.1 j (by omega)), fun h9 => ziE (HI.2 (by omega)) hlt (by omega) _ (by omega) (by omega) (by omega)⟩⟩
       case measure => simp [intOf]; omega)
    | (go_ret3
       refine ⟨?_, rfl⟩
       first
         | exact ret3 (zBF HI.1 (by omega) hlt (by assumption) (by assumption)) rfl rfl rfl
         | exact ret3 (zyU HI.1 (by omega) hlt (eq_of_beq (by assumption)) (by omega)) rfl rfl rfl
         | (have hz : (at8 l k == 0) = false := by assumption
            have hz' : at8 l k ≠ 0 := by simpa using hz
            first
              | exact ret3 (znB HI.1 (by omega) hlt (by assumption) (fun _ => by omega) (fun _ => hz')) (zx9 (HI.2 (by omega)) hlt (by assumption) (by omega) (by omega)) (by omega) rfl
              | exact ret3 (znB HI.1 (by omega) hlt (by assumption) (fun _ => by omega) (fun _ => hz')) (ziE (HI.2 (by omega)) hlt (by omega) _ (by omega) (by omega) (by omega)) (by omega) rfl)
         | exact ret3 (znB HI.1 (by omega) hlt (by assumption) (fun _ => by omega) (fun _ => by omega)) (ziE (HI.2 (by omega)) hlt (by omega) _ (by omega) (by omega) (by omega)) (by omega) rfl)
  have hge:l.length<=k∨10<=k:=by omega
  clear hlt;go_wp2
  all_goals go_ret3
  all_goals refine ⟨?_,rfl⟩
  all_goals first
   | exact ret3 (zgZ HI.1 (by omega) (by omega)) rfl rfl rfl
   | exact ret3 (zpF HI.1 (by omega) (by omega)) rfl rfl rfl
/- -/
theorem ztI (l:Bs):(getU l).2.2≠0->(getU l).1=0/\(getU l).2.1=0:=by
 intro h;unfold getU at h ⊢;simp only at h ⊢;by_cases h1:leadU 10 l=10
 ·simp [h1]
 by_cases h2:leadU 10 l=l.length
 ·simp [h2];split <;> simp
 by_cases h3:2 ^ 64<=valU (l.take (leadU 10 l + 1))
 ·simp only [if_neg h1,if_neg h2,if_pos h3];simp
 by_cases h4:0 < leadU 10 l/\at8 l (leadU 10 l)=0
 ·simp only [if_neg h1,if_neg h2,if_neg h3,if_pos h4];simp
 simp only [if_neg h1,if_neg h2,if_neg h3,if_neg h4] at h;simp at h
theorem zaU (l:Bs):(getU l).2.2=0->(getU l).1 < 2 ^ 64/\1<=(getU l).2.1/\(getU l).2.1<=l.length/\(getU l).2.1<=10:=by
 intro h;have hle:=ztF 10 l;unfold getU at h ⊢;simp only at h ⊢;by_cases h1:leadU 10 l=10
 ·simp [h1] at h
 by_cases h2:leadU 10 l=l.length
 ·simp only [if_neg h1,if_pos h2] at h;simp at h
 by_cases h3:2 ^ 64<=valU (l.take (leadU 10 l + 1))
 ·simp only [if_neg h1,if_neg h2,if_pos h3] at h;simp at h
 by_cases h4:0 < leadU 10 l/\at8 l (leadU 10 l)=0
 ·simp only [if_neg h1,if_neg h2,if_neg h3,if_pos h4] at h;simp at h
 simp only [if_neg h1,if_neg h2,if_neg h3,if_neg h4];omega
theorem zdA (l:Bs):(getU l).2.2<=7:=by
 unfold getU;simp only;split
 ·simp
 split
 ·simp
 split
 ·simp
 split <;> simp
def getB (l:Bs) (most:Int):Bs × Nat × Nat :=
 if (getU l).2.2≠0 then ([],0,(getU l).2.2)
 else if most < 0∨most < (getU l).1 then ([],0,13)
 else if l.length - (getU l).2.1 < (getU l).1 then ([],0,5)
 else ((l.drop (getU l).2.1).take (getU l).1,(getU l).2.1 + (getU l).1,0)
def zeV (w:World) (r:Bs × Nat × Nat) (e:Ending) (w':World):Prop :=
 ∃ v,e=.returned (.tuple #[v,.int .i64 (r.2.1:Nat),.int .i64 (r.2.2:Nat)])/\Own w' w.heap.size v r.1/\Below w.heap.size w w'
theorem zeV.none {w:World} {r:Bs × Nat × Nat} {k:Nat} {y:Int} (h:r=([],0,k)) (hy:y=k):zeV w r (.returned (.tuple #[.slice none 0 0,.int .i64 0,.int .i64 y])) w:=by
 subst h;subst hy;exact ⟨_,rfl,zaT w _,Below.refl _ _⟩
theorem zeV.own {w w':World} {r:Bs × Nat × Nat} {l:Bs} {n k:Nat} {v:Value} {x y:Int} (h:r=(l,n,k)) (ho:Own w' w.heap.size v l) (hb:Below w.heap.size w w') (hx:x=(n:Nat)) (hy:y=(k:Nat)) :
  zeV w r (.returned (.tuple #[v,.int .i64 x,.int .i64 y])) w':=by
 subst h hx hy;exact ⟨_,rfl,ho,hb⟩
theorem zbB (v:Value) (l:Bs) (most:Int) (hm0:-9223372036854775808<=most) (hm1:most<=9223372036854775807) (w:World) (h:Rd w v l) :
  Calls prog 156 #[v,.int .i64 most] w (zeV w (getB l most)):=by
 have hz:=ztI l;have hg:=zaU l;have hc:=zdA l;have hlen:=h.len;have hsm:=h.small;have hb:getB l most=getB l most:=rfl
 conv at hb=>rhs;unfold getB
 rcases hr:getU l with ⟨x,n,er⟩
 rw [hr] at hz hg hc hb;dsimp only at hz hg hc hb;have HR:=h_ hr;clear hr;by_cases he:er=0
 ·subst he;obtain ⟨hx,hn1,hn2,hn3⟩:=hg rfl;clear hz hg hc;rw [if_neg (by simp)] at hb;by_cases hlim:most < 0∨most < x
  ·rw [if_pos hlim] at hb;have HB:=h_ hb;clear hb;by_cases hneg:most < 0
   ·clear hlim;go_enter func156,ntmps156;go_wp2_with (go_at_call 208;refine (zaV v l _ h).mono ?_;rintro e w' ⟨rfl,rfl⟩;rw [HR.o];dsimp only);go_ret3;exact zeV.none HB.o rfl
   have hlt:most < x:=(by omega);have hge:0<=most:=(by omega);clear hlim hneg;go_enter func156,ntmps156;go_wp2_with (go_at_call 208;refine (zaV v l _ h).mono ?_;rintro e w' ⟨rfl,rfl⟩;rw [HR.o];dsimp only);go_ret3;exact zeV.none HB.o rfl
  rw [if_neg hlim] at hb;have hle:(x:Int)<=most:=by omega
  have hge:0<=most:=by omega
  clear hlim;by_cases hsh:l.length - n < x
  ·rw [if_pos hsh] at hb;have HB:=h_ hb;clear hb;have hsh':(l.length:Int) - n < x:=(by omega);have hnl:(n:Int)<=l.length:=(by omega);go_enter func156,ntmps156;go_wp2_with (go_at_call 208;refine (zaV v l _ h).mono ?_;rintro e w' ⟨rfl,rfl⟩;rw [HR.o];dsimp only);go_ret3;exact zeV.none HB.o rfl
  rw [if_neg hsh] at hb;have HB:=h_ hb;clear hb;have hsh':(x:Int)<=(l.length:Int) - n:=by omega
  have hnl:(n:Int)<=l.length:=by omega
  have hmk:=zeL (x:Int) (by omega) (by omega);rw [Int.toNat_natCast] at hmk;obtain ⟨v',hfr,hrd⟩:=h.from n hn2;have HRD:=h_ hrd;clear hrd;go_enter func156,ntmps156;have hbel:Below w.heap.size w (w.alloc (.cells (za6 (List.replicate x 0)).toArray 5)):=(Below.refl _ _).alloc l_ _;go_wp2_with (first | (go_at_call 208;refine (zaV v l _ h).mono ?_;rintro e w' ⟨rfl,rfl⟩;rw [HR.o];dsimp only) | (with_reducible refine wpl_copy_part (some ⟨w.heap.size,0,none⟩) x x ?hd v' (l.drop n) ?hs (HRD.o _ (h.alloc _)) ?hn w.heap.size 0 (List.replicate x 0) (heap_alloc_new w _) (fun _=>rfl) ?hfit w.heap.size w hbel l_ ?_))
  case hd=>rfl
  case hs=>rfl
  case hn=>rw [List.length_drop];omega
  case hfit=>simp
  intro w2 HG2 hb2;have hlen2:((l.drop n).take x).length=x:=by simp;omega
  have e:=zj4 [] ((l.drop n).take x) 0 rfl;rw [hlen2] at e;simp only [List.nil_append] at e;rw [e] at HG2;go_wp2;go_ret3;exact zeV.own HB.o (zc5 l_ HG2.o hlen2.symm l_ (by unfold maxLen;omega) (by rw [za0];exact hlen2) (List.take_of_length_le (by rw [za0];exact Nat.le_of_eq hlen2))) hb2 (by omega) rfl
 obtain ⟨hx,hn⟩:=hz he;subst hx hn;rw [if_pos he] at hb;have HB:=h_ hb;clear hb hg;have hne:((er:Int) != 0)=true:=by simp;omega
 go_enter func156,ntmps156;go_wp2_with (go_at_call 208;refine (zaV v l _ h).mono ?_;rintro e w' ⟨rfl,rfl⟩;rw [HR.o];dsimp only);go_ret3;exact zeV.none HB.o rfl
/- -/
abbrev Col:=Bs × Int
def names (cs:List Col):List Bs:=cs.map (·.1)
def zb4 (c:Nat):Bool:=decide (97<=c/\c<=122∨48<=c/\c<=57∨c=95)
def fine (n:Bs) (ahead:List Bs):Bool:=!n.isEmpty && (n.all (fun c=>zb4 c.toNat) && !ahead.contains n)
def zaF (ah:List Bs) (c:Col):Nat:=if 32 < c.1.length then 7 else if fine c.1 ah=false then 2 else if c.2 < 0∨5 < c.2 then 10 else 0
def errFrom:List Bs->List Col->Nat
 | _,[]=>0
 | ah,c :: r=>if zaF ah c≠0 then zaF ah c else errFrom (ah ++ [c.1]) r
def errS (cs:List Col):Nat:=if cs.length=0 then 4 else if 8 < cs.length then 13 else errFrom [] cs
theorem zz8 {α:Type} {l:List α} {k:Nat} (h:k < l.length) (d:α):l.drop k=l.getD k d :: l.drop (k + 1):=by
 rw [List.drop_eq_getElem_cons h];simp [List.getD,h]
theorem zhM {cs:List Col} {k:Nat} (h:k < cs.length):errFrom (names (cs.take k)) (cs.drop k)=if zaF (names (cs.take k)) (cs.getD k default)≠0 then zaF (names (cs.take k)) (cs.getD k default) else errFrom (names (cs.take (k + 1))) (cs.drop (k + 1)):=by
 rw [zz8 h default,errFrom,zaE h default];simp [names]
theorem zfI {ah:List Bs} {c:Col} (h:zaF ah c=0):c.1.length<=32/\fine c.1 ah=true/\0<=c.2/\c.2<=5:=by
 unfold zaF at h;split at h
 ·cases h
 split at h
 ·cases h
 split at h
 ·cases h
 rename_i h1 h2 h3;exact ⟨by omega,by simpa using h2,by omega,by omega⟩
theorem zhL:∀ (cs:List Col) (ah:List Bs),errFrom ah cs=0->∀ c ∈ cs,c.1.length<=32/\0<=c.2/\c.2<=5
 | [],_,_,c,hc=>absurd hc (by simp)
 | x :: r,ah,h,c,hc=>by
  rw [errFrom] at h
  split at h
  ·rename_i h1;exact absurd h h1
  ·rename_i h1
   have h0:zaF ah x=0:=Decidable.of_not_not h1
   obtain ⟨a1,_,a3,a4⟩:=zfI h0
   rcases List.mem_cons.1 hc with rfl | hc
   ·exact ⟨a1,a3,a4⟩
   ·exact zhL r _ h c hc
theorem zaM {cs:List Col} (h:errS cs=0):0 < cs.length/\cs.length<=8/\errFrom [] cs=0/\∀ c ∈ cs,c.1.length<=32/\0<=c.2/\c.2<=5:=by
 unfold errS at h;split at h
 ·cases h
 split at h
 ·cases h
 exact ⟨by omega,by omega,h,zhL cs [] h⟩
theorem zq1 (ah:List Bs) (c:Col):zaF ah c<=10:=by
 unfold zaF;split
 ·omega
 split
 ·omega
 split <;> omega
theorem zgA:∀ (cs:List Col) (ah:List Bs),errFrom ah cs<=10
 | [],_=>by rw [errFrom];omega
 | c :: r,ah=>by
  rw [errFrom]
  split
  ·exact zq1 _ _
  ·exact zgA r _
theorem zm1 (cs:List Col):errS cs<=13:=by
 unfold errS;split
 ·omega
 split
 ·omega
 have:=zgA cs [];omega
def zfP (c:Col):Bs:=encB c.1 ++ [UInt8.ofNat c.2.toNat]
def zaH (cs:List Col):Bs:=cs.flatMap zfP
def wrS (cs:List Col):Bs:=encU cs.length ++ zaH cs
theorem ziS {cs:List Col} {k:Nat} (h:k < cs.length):zaH (cs.take (k + 1))=(zaH (cs.take k) ++ encB (cs.getD k default).1) ++ [UInt8.ofNat (cs.getD k default).2.toNat]:=by
 rw [zaE h default];simp [zaH,zfP]
/- -/
theorem zBR (n:Nat):∀ (l:Bs),n < l.length->(∀ j,j < n->128<=at8 l j)->at8 l n < 128->(0 < n->at8 l n≠0)->encU (valU (l.take (n + 1)))=l.take (n + 1):=by
 induction n with
 | zero =>
  intro l hl _ h1 _;cases l with
  | nil=>simp at hl
  | cons b l =>
   simp [at8] at h1;simp only [List.take_succ_cons,List.take_zero,zbO,zfS];rw [zdQ (by omega)];congr 1;apply UInt8.toNat_inj.1;rw [UInt8.toNat_ofNat'];omega
 | succ n ih =>
  intro l hl h0 h1 h2;cases l with
  | nil=>simp at hl
  | cons b l =>
   have hb:=h0 0 (by omega);simp [at8] at hb;have e:∀ j,at8 (b :: l) (j + 1)=at8 l j:=fun j=>(by simp [at8]);have ih':=ih l (by simpa using hl) (fun j hj=>by have:=h0 (j + 1) (by omega);rwa [e] at this) (by rw [e] at h1;exact h1) (fun hn=>by have:=h2 (by omega);rwa [e] at this);rw [List.take_succ_cons,zbO];have hpos:0 < valU (l.take (n + 1)):=by
    apply Nat.pos_of_ne_zero;intro h;rw [h,zdQ (by decide)] at ih';have hlen:(l.take (n + 1)).length=1:=(by rw [<- ih'];rfl);simp at hlen;have hn0:n=0:=(by simp at hl;omega);subst hn0;cases l with
    | nil=>simp at hl
    | cons c l =>
     simp at ih';have:=h2 (by omega);rw [e] at this;apply this;simp [at8,<- ih']
   rw [zdS (by omega)];have d1:(b.toNat % 128 + 128 * valU (l.take (n + 1))) / 128=valU (l.take (n + 1)):=(by omega);have d2:128 + (b.toNat % 128 + 128 * valU (l.take (n + 1))) % 128=b.toNat:=by
    have:=b.toNat_lt;omega
   rw [d1,d2,ih'];simp
theorem znC {l:Bs} {x n:Nat} (h:getU l=(x,n,0)):encU x=l.take n:=by
 have hle:=ztF 10 l;have hge:=fun i hi=>zBB (k:=10) (l:=l) i hi;unfold getU at h;simp only at h;by_cases h1:leadU 10 l=10
 ·simp [h1] at h
 by_cases h2:leadU 10 l=l.length
 ·simp only [if_neg h1,if_pos h2] at h;simp at h
 by_cases h3:2 ^ 64<=valU (l.take (leadU 10 l + 1))
 ·simp only [if_neg h1,if_neg h2,if_pos h3] at h;simp at h
 by_cases h4:0 < leadU 10 l/\at8 l (leadU 10 l)=0
 ·simp only [if_neg h1,if_neg h2,if_neg h3,if_pos h4] at h;simp at h
 simp only [if_neg h1,if_neg h2,if_neg h3,if_neg h4,Prod.mk.injEq,and_true] at h;obtain ⟨rfl,rfl⟩:=h;exact zBR (leadU 10 l) l (by omega) hge (zvA (by omega) (by omega)) (fun hp hz=>h4 ⟨hp,hz⟩)
theorem znE {l c:Bs} {most:Int} {n:Nat} (h:getB l most=(c,n,0)):encB c=l.take n/\1<=n/\n<=l.length/\c.length<=l.length:=by
 unfold getB at h;split at h
 ·rename_i he;simp at h;exact absurd h.2.2 he
 rename_i he;have he':(getU l).2.2=0:=by omega
 obtain ⟨g1,g2,g3,g4⟩:=zaU l he';split at h
 ·simp at h
 split at h
 ·simp at h
 simp only [Prod.mk.injEq,and_true] at h;obtain ⟨rfl,rfl⟩:=h;have hu:=znC (l:=l) (x:=(getU l).1) (n:=(getU l).2.1) (by rw [<- he']);have hlen:((l.drop (getU l).2.1).take (getU l).1).length=(getU l).1:=by simp;omega
 refine ⟨?_,by omega,by omega,by simp;omega⟩;unfold encB;rw [hlen,hu,List.take_add]
/- -/
theorem zsK (x:Nat):valU (encU x)=x:=by
 by_cases h:x < 128
 ·rw [zdQ h,zbO,zfS,UInt8.toNat_ofNat'];omega
 rw [zdS h,zbO,zsK (x / 128),UInt8.toNat_ofNat'];omega
termination_by x
decreasing_by omega
theorem zcT {l m:Bs} {i:Nat} (h:i < l.length):at8 (l ++ m) i=at8 l i:=by
 unfold at8;simp [List.getD,List.getElem?_append_left h]
theorem zdY {l m:Bs} {i:Nat} (h:l.length<=i):at8 (l ++ m) i=at8 m (i - l.length):=by
 unfold at8;simp [List.getD,List.getElem?_append_right h]
theorem zC7 {x k j:Nat} (h:j < k):128<=at8 (preU x k) j:=by
 induction k with
 | zero=>omega
 | succ k ih =>
  rw [preU];by_cases e:j < k
  ·rw [zcT (by rw [zaJ];exact e)];exact ih e
  obtain rfl:j=k:=by omega
  rw [zdY (by rw [zaJ];exact l_),zaJ];simp [at8];omega
theorem zzP (x:Nat):∃ k,(encU x).length=k + 1/\(∀ j,j < k->128<=at8 (encU x) j)/\at8 (encU x) k=((x / 128 ^ k:Nat):Int)/\x / 128 ^ k < 128/\(0 < k->0 < x / 128 ^ k):=by
 obtain ⟨k,h1,h2,h3,h4⟩:=znN x;refine ⟨k,h1,fun j hj=>?_,?_,h2,h4⟩
 ·rw [h3,zcT (by rw [zaJ];exact hj)];exact zC7 hj
 rw [h3,zdY (by rw [zaJ];exact l_),zaJ];have hz:=h2;generalize x / 128 ^ k=z at hz ⊢;simp [at8];omega
theorem zeM (x:Nat) (hx:x < 2 ^ 64) (m:Bs):getU (encU x ++ m)=(x,(encU x).length,0):=by
 obtain ⟨k,h1,h2,h3,h4,h5⟩:=zzP x;have hle:=zaC x hx;have ha:∀ j,j < k + 1->at8 (encU x ++ m) j=at8 (encU x) j:=fun j hj=>zcT (by omega);have hk9:k=9->at8 (encU x ++ m) k<=1:=by
  intro e;rw [ha k (by omega),h3];subst e;have:x / 128 ^ 9 < 2:=by
   rw [Nat.div_lt_iff_lt_mul (by decide)];have:(2:Nat) * 128 ^ 9=2 ^ 64:=(by decide);omega
  omega
 have:=znB (l:=encU x ++ m) (k:=k) (fun j hj=>by rw [ha j (by omega)];exact h2 j hj) (by omega) (by simp;omega) (by rw [ha k (by omega),h3];omega) hk9 (fun hp=>by rw [ha k (by omega),h3];have:=h5 hp;omega);rw [this,<- h1,List.take_left,zsK]
theorem ztJ (x i:Nat) (hx:x < 2 ^ 64) (hi:i < (encU x).length):getU ((encU x).take i)=(0,0,5):=by
 obtain ⟨k,h1,h2,_⟩:=zzP x;have hle:=zaC x hx;have hlen:((encU x).take i).length=i:=by simp;omega
 have:=zgZ (l:=(encU x).take i) (k:=i) (fun j hj=>by
  have e:at8 ((encU x).take i) j=at8 (encU x) j:=by unfold at8;simp only [List.getD];rw [List.getElem?_take_of_lt hj]
  rw [e];exact h2 j (by omega)) (by omega) hlen.symm
 exact this
theorem zBG (l m:Bs) (hl:l.length < 2 ^ 63):getB (encB l ++ m) l.length=(l,(encB l).length,0):=by
 have h:=zeM l.length (by omega) (l ++ m);unfold getB encB;rw [List.append_assoc,h];dsimp only;rw [if_neg (by simp),if_neg (by omega),if_neg (by simp)];rw [List.drop_left,List.take_left];simp
theorem zBH (l:Bs) (i:Nat) (hl:l.length < 2 ^ 63) (hi:i < (encB l).length):getB ((encB l).take i) l.length=([],0,5):=by
 have hlen:(encB l).length=(encU l.length).length + l.length:=by simp [encB]
 by_cases h:i < (encU l.length).length
 ·have e:(encB l).take i=(encU l.length).take i:=by unfold encB;rw [List.take_append_of_le_length (by omega)]
  rw [e];unfold getB;rw [ztJ l.length i (by omega) h];simp
 have e:(encB l).take i=encU l.length ++ l.take (i - (encU l.length).length):=by
  unfold encB;rw [List.take_append,List.take_of_length_le (by omega)]
 rw [e];unfold getB;rw [zeM l.length (by omega)];dsimp only;rw [if_neg (by simp),if_neg (by omega),if_pos (by simp;omega)]
