/- -/
import Derived.Test.YtgboedffaangeaaGreatDoorVBaseA
import Derived.Maps.OwnOps
import Derived.Maps.Views
import Derived.Lib.BitFns
import Derived.Lib.Walk
import Derived.Deep.Light
import Derived.Lib.Zigzag
import Derived.Lib.Join
import Derived.RowKit
import Derived.StepT
import Derived.Calls
set_option maxHeartbeats 4000000
set_option linter.all false
set_option maxRecDepth 1000000
namespace Go.Proofs.YtgboedffaangeaaGreatDoor
open _root_.Go.Proofs.Tryz Go.RowKit Go.Maps
section
def zG5:Keyed prog 9:=string_keyed underlying9
def zDD(w:World):(zeroValue 4).run prog w=.ok (.bool false) w:=by kernel_rfl
def ze2(w:World)(m:Nat)(ahead:List Bs):Prop :=
 ∃D:DataW Unit,w.ownsMap prog 9 (plainElem prog 4) m ahead.length D/\∀l,D.atKey (.string l) (.lit (.bool false))=.lit (.bool (ahead.contains l))
def ze2.lt{w:World}{m:Nat}{a:List Bs}(h:ze2 w m a):m<w.heap.size:=by obtain⟨D,h,_⟩:=h;exact h.lt
def ze2.made(w:World):ze2 (w.alloc (.map #[] 0)) w.heap.size [] :=
 ⟨.map [],World.ownsMap_made w _ _ _,fun l=>by simp[DataW.atKey]⟩
def ze2.kept{w w':World}{m:Nat}{a:List Bs}{r:Option Nat}(h:ze2 w m a)(d:w.grownBy w' r)(b:some m≠r):ze2 w' m a:=by
 obtain⟨D,h1,c⟩:=h;exact⟨D,h1.kept d b,c⟩
variable {l:Bs} {X y:Int} {a:List Bs} {c i k m n x:Nat} {v:Value} {w w':World}
def ze2.later{B:Nat}(h:ze2 w m a)(b:Below B w w')(c:w.heap.size<=B):ze2 w' m a :=
 h.kept (r:=none) ⟨b.os,b.tape,b.output,b.size,fun j d _=>b.block j (AE d c)⟩ (by simp)
def ze2.alloc{w:World}{m:Nat}{a:List Bs}(h:ze2 w m a)(o:Obj):ze2 (w.alloc o) m a:=by
 obtain⟨D,h1,b⟩:=h;exact⟨D,h1.alloc o,b⟩
def zgX{P:Program}{e:TypeId}(a:P.underlying e=some .bool){z:DataW Unit×List MemPlace}(h:plainElem P e v=some z):∃x,v=.bool x/\z=(.lit (.bool x),[]):=by
 unfold plainElem at h;rw[a]at h;split at h
 .rename_i x h1;exact⟨x,rfl,by cases h;rfl⟩
 .cases ‹some TypeDesc.bool=some (TypeDesc.int _)›
 .cases ‹some TypeDesc.bool=some TypeDesc.string›
 cases h
def ze2.look(h:ze2 w m a)(s:ByteArray)(f:s.size<=maxLen) :(Instr.lookup 270 (.map (some m)) (.string s) false).run prog w=.ok (.bool (a.contains s.data.toList)) w:=by
 obtain⟨D,h1,c⟩:=h;obtain⟨v,ps,d,g⟩:=h1.lookup zG5 underlying270 (zDD w) (plainElem_bool underlying4 false) (WideMaps.keyOf_string_mk underlying9 f);obtain⟨x,rfl,b⟩:=zgX underlying4 g;simp only[Prod.mk.injEq]at b;rw[c]at b;have e:a.contains s.data.toList=x:=by simpa using b.1
 rw[d,e]
def zfX{d:Array Oper}{Q:Exit->Act->World->Prop}{rest:List Oper}{a:Act}{c:Option Tmp}{C:TypeId}{pos:String}{f:Array Edge}{i x v:Operand}(m:Nat)(b:List Bs)(h:ze2 w m b)(hm:a.eval i=.map (some m))(s:ByteArray)(t:s.size<=maxLen)(y:a.eval x=.string s)(u:a.eval v=.bool true)(r:b.length<maxLen)(hK:∀w',ze2 w' m (b++[s.data.toList])->w.grownBy w' (some m)->wpList prog d Q rest (a.put c undef) w') :wpList prog d Q (⟨c,.mapUpdate 270 i x v,C,pos,f,none⟩::rest) a w:=by
 obtain⟨D,h1,n⟩:=h;refine wpList_mapUpdate_own w rfl i x v 270 rfl 9 4 zG5 underlying270 (plainElem prog 4) m b.length D hm h1 r (.string s) (.bool true) (.string s.data.toList) y u (WideMaps.keyOf_string_mk underlying9 t) (.lit (.bool true)) [] (plainElem_bool underlying4 true) ?_;intro w' z A;refine hK w' ⟨_,by rw[Ae];exact z,fun l=>?_⟩ A;by_cases g:l=s.data.toList
 .subst g;rw[atKey_put_same h1.isMap (show WideAt.IsKeyLit (.string s.data.toList)from trivial)];simp
 rw[atKey_put_other (fun p=>g (by injection p)),n];have e:(b++[s.data.toList]).contains l=b.contains l:=by
  rw[Bool.eq_iff_iff];simp[g]
 rw[e]
/- -/
def encU(x:Nat):Bs :=
 if x<128 then[UInt8.ofNat x]else UInt8.ofNat (128+x%128)::encU (x/128)
termination_by x
decreasing_by omega
def zeG(h:x<128):encU x=[UInt8.ofNat x]:=by rw[encU,Ab h]
def zeI(h:¬x<128):encU x=UInt8.ofNat (128+x%128)::encU (x/128):=by rw[encU,Aa h]
def zpH(x:Nat):0<(encU x).length:=by
 by_cases h:x<128
 .rw[zeG h];simp
 rw[zeI h];simp
def preU(x:Nat):Nat->Bs
 | 0=>[]
 | k+1=>preU x k++[UInt8.ofNat (128+x/128^k%128)]
def zaM(x k:Nat):(preU x k).length=k:=by
 induction k with
 | zero=>rfl
 | succ k ih=>simp[preU,ih]
def zAY(x k:Nat):preU x (k+1)=UInt8.ofNat (128+x%128)::preU (x/128) k:=by
 induction k with
 | zero=>simp[preU]
 | succ k ih=>
  rw[preU,ih,preU];simp only[AQ,BG];rw[show 128^(k+1)=128*128^k by rw[Bl,BS]]
def zpG(x:Nat):∃k,(encU x).length=k+1/\x/128^k<128/\encU x=preU x k++[UInt8.ofNat (x/128^k)]/\(0<k->0<x/128^k):=by
 by_cases h:x<128
 .exact⟨0,by rw[zeG h];rfl,by simpa using h,by rw[zeG h];simp[preU],by omega⟩
 obtain⟨k,h1,a,b,c⟩:=zpG (x/128);have e:x/128^(k+1)=x/128/128^k:=by rw[BG,Bl,BS]
 refine⟨k+1,by rw[zeI h];simp[h1],by rw[e];exact a,by rw[zeI h,b,zAY,e];simp,fun _=>?_⟩;rw[e];by_cases d:k=0
 .subst d;simp;omega
 exact c (by omega)
termination_by x
decreasing_by omega
def zeH(x:Nat):(encU x).length=((x|||1).log2+7)/7:=by
 by_cases h:x<128
 .rw[zeG h];have a:x|||1≠0:=by
   intro c;have:=C9.1 c;omega
  have f:x|||1<2^7:=Cr (by omega) (by omega);have:=(Df a).2 f;simp only[Ap,Bh];omega
 rw[zeI h];have ih:=zeH (x/128);rw[Ap,ih];have i:(x/128|||1).log2+7=(x|||1).log2:=by
  have a:x/128|||1≠0:=by
   intro c;have:=C9.1 c;omega
  have b:x|||1≠0:=by
   intro c;have:=C9.1 c;omega
  have m:(x/128|||1).log2=(x/128).log2:=by
   apply Nat.le_antisymm
   .have g:x/128≠0:=(by omega);have d:x/128<2^((x/128).log2+1):=Nat.lt_log2_self;have e:x/128|||1<2^((x/128).log2+1):=Cr d (by have:=BP (x/128).log2;rw[Bl];omega);have:=(Df a).2 e;omega
   exact(Nat.le_log2 a).2 (Ar (Nat.log2_self_le (by omega)) Nat.left_le_or)
  have n:(x|||1).log2=x.log2:=by
   apply Nat.le_antisymm
   .have d:x<2^(x.log2+1):=Nat.lt_log2_self;have e:x|||1<2^(x.log2+1):=Cr d (by have:=BP x.log2;rw[Bl];omega);have:=(Df b).2 e;omega
   exact(Nat.le_log2 b).2 (Ar (Nat.log2_self_le (by omega)) Nat.left_le_or)
  rw[m,n];have g:x/128≠0:=by omega
  have h1:=Nat.log2_self_le g;have d:x/128<2^((x/128).log2+1):=Nat.lt_log2_self;exact((Nat.log2_eq_iff (by omega)).2 ⟨by rw[CE];omega,by rw[show(x/128).log2+7+1=((x/128).log2+1)+7 by omega,CE];omega⟩).symm
 rw[<-i];omega
termination_by x
decreasing_by omega
def zaA(x:Nat)(h:x<2^64):(encU x).length<=10:=by
 rw[zeH];have a:x|||1≠0:=by
  intro b;have:=C9.1 b;omega
 have:=(Df a).2 (Cr h (by decide:1<2^64));omega
def zs2{a b:Nat}(h:a<=b):(encU a).length<=(encU b).length:=by
 by_cases c:a<128
 .rw[zeG c];exact zpH b
 rw[zeI c,zeI (x:=b) (by omega)];have:=zs2 (a:=a/128) (b:=b/128) (by omega);simp;exact this
termination_by a
decreasing_by omega
def zig(x:Int):Nat:=if x<0 then(-2*x-1).toNat else(2*x).toNat
def zag(x:Nat):Int:=if x%2=1 then -(((x+1)/2:Nat):Int)else((x/2:Nat):Int)
def zyQ(x:Int):zag (zig x)=x:=by
 unfold zag zig;split<;>split<;>omega
def zyP(x:Nat):zig (zag x)=x:=by
 unfold zag zig;split<;>split<;>omega
def zeS(x:Int)(a:-9223372036854775808<=x)(h1:x<=9223372036854775807):zig x<2^64:=by
 unfold zig;split<;>omega
def valU(l:Bs):Nat:=l.foldr (fun b acc=>b.toNat%128+128*acc) 0
def zgN:valU []=0:=rfl
def zc0(b:UInt8)(l:Bs):valU (b::l)=b.toNat%128+128*valU l:=rfl
def zjV(l m:Bs):valU (l++m)=valU l+128^l.length*valU m:=by
 induction l with
 | nil=>simp[zgN]
 | cons b l ih=>rw[AQ,zc0,ih,zc0,Ap,Bl,Nat.mul_add,BS (128^l.length) 128,CY];omega
def zGJ(l:Bs):valU l<128^l.length:=by
 induction l with
 | nil=>simp[zgN]
 | cons b l ih=>rw[zc0,Ap,Bl];have:=Nat.mod_lt b.toNat (show 0<128 by decide);omega
def leadU:Nat->Bs->Nat
 | 0,_=>0
 | _+1,[]=>0
 | k+1,b::l=>if b.toNat<128 then 0 else leadU k l+1
def getU(l:Bs):Nat×Nat×Nat :=
 let n:=leadU 10 l
 if n=10 then(0,0,7)
 else if n=l.length then(0,0,5)
 else if 2^64<=valU (l.take (n+1))then(0,0,7)
 else if 0<n/\at8 l n=0 then(0,0,6)
 else(valU (l.take (n+1)),n+1,0)
def zvZ(k:Nat)(l:Bs):leadU k l<=k/\leadU k l<=l.length:=by
 induction k generalizing l with
 | zero=>simp[leadU]
 | succ k ih=>
  cases l with
  | nil=>simp[leadU]
  | cons b l=>
   simp only[leadU];split
   ·simp
   have:=ih l;simp;omega
def zdC(g:n<=k)(c:n<=l.length)(h1:∀i,i<n->128<=at8 l i)(d:n<k->n<l.length->at8 l n<128):leadU k l=n:=by
 induction k generalizing l n with
 | zero=>simp[leadU];omega
 | succ k ih=>
  cases l with
  | nil=>simp at c;simp[leadU,c]
  | cons b l=>
   simp only[leadU];cases n with
   | zero=>
    have:=d (by omega) (by simp);simp[at8]at this;rw[Ab (by omega)]
   | succ n=>
    have e:=h1 0 (by omega);simp[at8]at e;rw[Aa (by omega)];congr 1;refine ih (by omega) (by simpa using c) (fun i f=>?_) (fun a b'=>?_)
    .have:=h1 (i+1) (by omega);simpa[at8]using this
    have:=d (by omega) (by simpa using b');simpa[at8]using this
def zEK:∀i,i<leadU k l->128<=at8 l i:=by
 induction k generalizing l with
 | zero=>intro i a;simp[leadU]at a
 | succ k ih=>
  intro i a;cases l with
  | nil=>simp[leadU]at a
  | cons b l=>
   simp only[leadU]at a;split at a
   .omega
   cases i with
   | zero=>simp[at8];omega
   | succ i=>have:=ih (l:=l) i (by omega);simpa[at8]using this
def zy2(c:leadU k l<k)(a:leadU k l<l.length):at8 l (leadU k l)<128:=by
 induction k generalizing l with
 | zero=>omega
 | succ k ih=>
  cases l with
  | nil=>simp at a
  | cons b l=>
   simp only[leadU]at c a ⊢;split
   ·simp[at8];omega
   rename_i hb;rw[Aa hb]at c a;have:=ih (l:=l) (by omega) (by simpa using a);simpa[at8]using this
def zwS(l:Bs)(k:Nat)(h:k<l.length):l.take (k+1)=l.take k++[l[k]]:=BB h
def zq0(l:Bs)(k:Nat)(h:k<l.length):(valU (l.take (k+1)):Int)=valU (l.take k)+(at8 l k%128)*2^(7*k):=by
 rw[zwS l k h,zjV,ziY h,Aq,A7 (by omega),zc0,zgN];have e:(128:Nat)^k=2^(7*k):=by rw[Nat.pow_mul]
 rw[e];push_cast;simp only[Int.add_zero];rw[Int.mul_comm]
def zeV(l:Bs)(k:Nat)(h:k<=l.length):valU (l.take k)<2^(7*k):=by
 have:=zGJ (l.take k);rw[Aq,A7 h]at this;rwa[Nat.pow_mul]
def zEC {X:Nat}(a:X<2^(7*k))(d:X+c*2^(7*k)<2^64):bits .or .u64 (X:Int) (IntKind.u64.wrap ((c:Int)*2^(7*k)))=((X+c*2^(7*k):Nat):Int):=by
 have b:IntKind.u64.wrap ((c:Int)*2^(7*k))=((c*2^(7*k):Nat):Int):=by
  rw[show((c:Int)*2^(7*k))=((c*2^(7*k):Nat):Int) by push_cast;rfl];generalize c*2^(7*k)=y at *;simp[IntKind.wrap,IntKind.signed,IntKind.bits];omega
 rw[b,u64_or_nat X _ (by omega) (by omega)];congr 1;rw[Nat.or_comm,BS c,<-Nat.two_pow_add_eq_or_of_lt a,Nat.add_comm]
def zj9(l:Bs)(c:9<l.length):2^64<=valU (l.take (9+1))↔2<=at8 l 9%128:=by
 have h1:=zq0 l 9 c;have b:=zeV l 9 (by omega);have e:(2:Int)^(7*9)=9223372036854775808:=by decide
 rw[e]at h1;have a:(2:Nat)^(7*9)=9223372036854775808:=by decide
 rw[a]at b;have d:=zfB l 9;constructor<;>intro h<;>omega
def zhG(l:Bs)(k:Nat)(a:k<9)(b:k<l.length):valU (l.take (k+1))<2^63:=by
 have:=zeV l (k+1) (by omega);exact AE this (BE (by omega) (by omega))
section
variable{l:Bs}{k:Nat}(h1:∀j,j<k->128<=at8 l j)
include h1
def zrL(a:k=10)(b:k<=l.length):getU l=(0,0,7):=by
 subst a;have:=zdC (k:=10) (n:=10) (l:=l) (by omega) b h1 (fun h=>absurd h (by omega));simp[getU,this]
def zhT(b:k<10)(a:k=l.length):getU l=(0,0,5):=by
 subst a;have:=zdC (k:=10) (n:=l.length) (l:=l) (by omega) (by omega) h1 (fun _ h=>absurd h (by omega));simp only[getU,this];rw[Aa (by omega),Ab trivial]
def zEO(b:k=9)(c:k<l.length)(d:1<at8 l k)(a:at8 l k<128):getU l=(0,0,7):=by
 subst b;have:=zdC (k:=10) (n:=9) (l:=l) (by omega) (by omega) h1 (fun _ _=>a);simp only[getU,this];rw[Aa (by omega),Aa (by omega),Ab ((zj9 l c).2 (by omega))]
def zC3(e:k<10)(a:k<l.length)(b:at8 l k=0)(c:0<k):getU l=(0,0,6):=by
 have:=zdC (k:=10) (n:=k) (l:=l) (by omega) (by omega) h1 (fun _ _=>by omega);simp only[getU,this];rw[Aa (by omega),Aa (by omega),Aa,Ab ⟨c,b⟩];by_cases d:k=9
 .subst d;intro h;have:=(zj9 l a).1 h;omega
 have:=zhG l k (by omega) a;omega
def zp3(f:k<10)(a:k<l.length)(d:at8 l k<128)(e:k=9->at8 l k<=1)(c:0<k->at8 l k≠0):getU l=(valU (l.take (k+1)),k+1,0):=by
 have:=zdC (k:=10) (n:=k) (l:=l) (by omega) (by omega) h1 (fun _ _=>d);simp only[getU,this];rw[Aa (by omega),Aa (by omega),Aa,Aa (fun h=>c h.1 h.2)];by_cases b:k=9
 .subst b;intro h;have:=(zj9 l a).1 h;have:=e rfl;have:=zfB l 9;omega
 have:=zhG l k (by omega) a;omega
end
def zjC(a:X=valU (l.take k))(b:k<l.length)(m:k<=9)(c:Int)(e:0<=c)(g:c=at8 l k%128)(f:k=9->c<=1) :bits .or .u64 X (IntKind.u64.wrap (c*2^(7*k)))=(valU (l.take (k+1)):Int):=by
 subst a;obtain⟨n,rfl⟩:=Bq e;have i:=zq0 l k b;rw[<-g]at i;have a:=zeV l k (by omega);have p:valU (l.take (k+1))<2^64:=by
  by_cases d:k=9
  .subst d;have:=zj9 l b;have:=f rfl;omega
  have:=zhG l k (by omega) b;omega
 have h:valU (l.take (k+1))=valU (l.take k)+n*2^(7*k):=by
  have:((valU (l.take k)+n*2^(7*k):Nat):Int)=valU (l.take k)+(n:Int)*2^(7*k):=by push_cast;rfl
  omega
 rw[zEC a (by omega),h]
def zA5(b:X=valU (l.take k))(c:k<l.length)(d:(k:Int)=9)(a:0<=at8 l k)(h1:at8 l k<=1) :bits .or .u64 X (at8 l k*9223372036854775808)=(valU (l.take (k+1)):Int):=by
 obtain rfl:k=9:=by omega
 rw[<-zjC b c (by omega) (at8 l 9) a (by omega) (fun _=>h1)];congr 1;have:at8 l 9=0\/at8 l 9=1:=by omega
 rcases this with h|h<;>rw[h]<;>decide
def ret3{r:Nat×Nat×Nat} {x z:Int} {a b:Nat}(h:r=(a,b,c))(g:x=a)(i:y=b)(m:z=c){d e f:IntKind} :Ending.returned (.tuple #[.int d x,.int e y,.int f z])=.returned (.tuple #[.int d (r.1:Nat),.int e (r.2.1:Nat),.int f (r.2.2:Nat)]):=by
 subst h;rw[g,i,m]
/- -/
def zoZ(y:Int)(a:0<y)(h1:y<=255):Lib.len8 y=(y.toNat.log2+1:Nat):=by
 have h:∀n:Fin 256,n.val≠0->Lib.len8 (n.val:Int)=(n.val.log2+1:Nat):=by decide +kernel
 have:=h ⟨y.toNat,by omega⟩ (by simp;omega);simp only at this;rw[show((y.toNat:Nat):Int)=y by omega]at this;exact this
def zxZ(x s:Nat)(h:2^s<=x):x.log2=(x/2^s).log2+s:=by
 have hp:0<2^s:=BP s;have b:x/2^s≠0:=by have:=(Nat.le_div_iff_mul_le hp).2 (show 1*2^s<=x by omega);omega
 have h1:=Nat.log2_self_le b;have a:x/2^s<2^((x/2^s).log2+1):=Nat.lt_log2_self;exact(Nat.log2_eq_iff (by omega)).2
  ⟨by rw[CE];exact(Nat.le_div_iff_mul_le hp).1 h1,by rw[show(x/2^s).log2+s+1=((x/2^s).log2+1)+s by omega,CE];exact(Nat.div_lt_iff_lt_mul hp).1 a⟩
def zHA(x y:Int)(s:Nat)(c:y=((x.toNat/2^s:Nat):Int))(b:2^s<=x.toNat)(a:y<=255) :(s:Int)+Lib.len8 y=(x.toNat.log2+1:Nat):=by
 have hp:0<2^s:=BP s;have d:0<x.toNat/2^s:=(Nat.le_div_iff_mul_le hp).2 (show 1*2^s<=x.toNat by omega);rw[zoZ y (by omega) a,zxZ x.toNat s b,c,Aw];omega
def zBT(y:Int)(a:0<y)(h1:y<=255):1<=Lib.len8 y/\Lib.len8 y<=8:=by
 rw[zoZ y a h1];have:=(Df (n:=y.toNat) (k:=8) (by omega)).2 (by omega);omega
def zzP(y:Int)(h:y.toNat<Lib.len8tab.size):((Lib.len8tab[y.toNat]'h).toNat:Int)=Lib.len8 y:=by
 unfold Lib.len8;rw[getElem?_pos Lib.len8tab y.toNat h];rfl
def zDE(k z:Int)(a:0<=k)(h1:k<=56)(b:1<=z/\z<=8):wrap64 (k+wrap64 z)=k+z:=by unfold wrap64;omega
def zwL(z:Int)(a:1<=z/\z<=8):wrap64 (wrap64 z)=z:=by unfold wrap64;omega
def zgA(x y:Int)(s:Nat)(h:y.toNat<Lib.len8tab.size)(d:0<x)(e:2^s<=x.toNat)(c:s<=56)(f:y=((x.toNat/2^s:Nat):Int))(a:y<=255)(b:0<y) :wrap64 ((s:Int)+wrap64 (Lib.len8tab[y.toNat]'h).toNat)=(x.toNat.log2+1:Nat):=by
 rw[zzP,zDE _ _ (by omega) (by omega) (zBT y b a)];exact zHA x y s f e a
def zEJ(x:Int)(h:x.toNat<Lib.len8tab.size)(b:0<x)(a:x<=255) :wrap64 (wrap64 (Lib.len8tab[x.toNat]'h).toNat)=(x.toNat.log2+1:Nat):=by
 rw[zzP,zwL _ (zBT x b a),zoZ x b a]
def bits_Len64(x:Int)(a:0<x)(h1:x<=18446744073709551615)(w:World) :Calls prog 148 #[.int .u64 x] w fun e w'=>e=.returned (.int .i64 (x.toNat.log2+1:Nat))/\w=w':=by
 go_enter func148,ntmps148;go_wp2
 all_goals first
  | (go_ret;refine⟨congrArg Ending.returned (congrArg (Value.int IntKind.i64) ?_),rfl⟩;go_light)
  | (exfalso
     go_light;have b:=Lib.len8tab_size;omega)
 all_goals first
  | exact zgA x (x/4294967296/65536/256) 56 _ a (by omega) (by omega) (by omega) (by omega) (by omega)
  | exact zgA x (x/4294967296/65536) 48 _ a (by omega) (by omega) (by omega) (by omega) (by omega)
  | exact zgA x (x/4294967296/256) 40 _ a (by omega) (by omega) (by omega) (by omega) (by omega)
  | exact zgA x (x/4294967296) 32 _ a (by omega) (by omega) (by omega) (by omega) (by omega)
  | exact zgA x (x/65536/256) 24 _ a (by omega) (by omega) (by omega) (by omega) (by omega)
  | exact zgA x (x/65536) 16 _ a (by omega) (by omega) (by omega) (by omega) (by omega)
  | exact zgA x (x/256) 8 _ a (by omega) (by omega) (by omega) (by omega) (by omega)
  | exact zEJ x _ a (by omega)
/- -/
def zxT(x:Int)(a:0<=x)(h1:x<=18446744073709551615) :∃y:Int,bits .or .u64 x 1=y/\0<y/\y<=18446744073709551615/\y.toNat.log2<64/\(encU x.toNat).length=(y.toNat.log2+7)/7:=by
 refine⟨((x.toNat|||1:Nat):Int),?_,?_,?_,?_,?_⟩
 .rw[u64_or x 1 a (by omega) (by decide) (by decide)];rfl
 .have:1<=x.toNat|||1:=Nat.right_le_or;omega
 .have:x.toNat|||1<2^64:=Cr (by omega) (by decide);omega
 .rw[Aw];have h:x.toNat|||1<2^64:=Cr (by omega) (by decide);have:1<=x.toNat|||1:=Nat.right_le_or;exact(Df (by omega)).2 h
 rw[Aw,zeH]
def zpZ(x:Int)(c:0<=x)(h1:x<=18446744073709551615)(w:World) :Calls prog 135 #[.int .u64 x] w fun e w'=>e=.returned (.int .i64 ((encU x.toNat).length:Nat))/\w=w':=by
 obtain⟨y,h,d,f,g,a⟩:=zxT x c h1;have b:=h_ a;clear a;go_enter func135,ntmps135;go_wp2_with (go_at_call 148;refine(bits_Len64 _ (by omega) (by omega) _).mono ?_;rintro e w'⟨rfl,rfl⟩);go_ret;refine⟨congrArg Ending.returned (congrArg (Value.int IntKind.i64) ?_),rfl⟩;rw[b.o];generalize y.toNat.log2=q at *;omega
def zDC(x:Int)(c:-9223372036854775808<=x)(h1:x<0):bits .xor .u64 IntKind.u64.max (IntKind.u64.wrap (IntKind.u64.wrap x*2))=(zig x:Int):=by
 have a:IntKind.u64.wrap (IntKind.u64.wrap x*2)=((2^64+2*x).toNat:Nat):=by
  simp[IntKind.wrap,IntKind.signed,IntKind.bits];omega
 have b:IntKind.u64.max=((2^64-1:Nat):Int):=by decide
 rw[a,b,u64_xor_nat _ _ (by decide) (by omega),Lib.xor_ones64 _ (by omega)];unfold zig;rw[Ab h1];omega
def zDJ(x:Int)(a:-9223372036854775808<=x)(h1:x<=9223372036854775807)(w:World) :Calls prog 202 #[.int .i64 x] w fun e w'=>e=.returned (.int .u64 (zig x:Nat))/\w=w':=by
 go_enter func202,ntmps202;go_wp2
 all_goals go_ret
 all_goals refine⟨congrArg Ending.returned (congrArg (Value.int IntKind.u64) ?_),rfl⟩
 .exact zDC x a (by assumption)
 have:0<=x:=by assumption
 unfold zig;rw[Aa (by omega)];omega
def zDK(x:Int)(c:0<=x)(h1:x<=18446744073709551615)(w:World) :Calls prog 260 #[.int .u64 x] w fun e w'=>e=.returned (.int .i64 (zag x.toNat))/\w=w':=by
 go_enter func260,ntmps260;go_wp2
 all_goals go_ret
 all_goals refine⟨congrArg Ending.returned (congrArg (Value.int IntKind.i64) ?_),rfl⟩
 .have a:(x%2==1)=true:=by assumption
  have b:x%2=1:=by simpa using a
  rw[show x/2=((x.toNat/2:Nat):Int) by omega,Lib.i64_not _ (by omega)];unfold zag;rw[Ab (by omega)];omega
 have a:(x%2==1)=false:=by assumption
 have b:¬x%2=1:=by simpa using a
 unfold zag;rw[Aa (by omega)];omega
def zGV(x:Int)(a:-9223372036854775808<=x)(h1:x<=9223372036854775807)(w:World) :Calls prog 206 #[.int .i64 x] w fun e w'=>e=.returned (.int .u64 (zig x:Nat))/\w=w':=by
 go_enter func206,ntmps206;go_wp2
 all_goals go_ret
 all_goals refine⟨congrArg Ending.returned (congrArg (Value.int IntKind.u64) ?_),rfl⟩
 .have:0<=x:=by assumption
  unfold zig;rw[Aa (by omega)];omega
 have:x<0:=by assumption
 unfold zig;rw[Ab (by omega)];omega
def zGW(x:Int)(c:0<=x)(h1:x<=18446744073709551615)(w:World) :Calls prog 218 #[.int .u64 x] w fun e w'=>e=.returned (.int .i64 (zag x.toNat))/\w=w':=by
 go_enter func218,ntmps218;go_wp2
 all_goals go_ret
 all_goals refine⟨congrArg Ending.returned (congrArg (Value.int IntKind.i64) ?_),rfl⟩
 .have a:(x%2==0)=true:=by assumption
  have b:x%2=0:=by simpa using a
  unfold zag;rw[Aa (by omega)];omega
 have a:(x%2==0)=false:=by assumption
 have b:¬x%2=0:=by simpa using a
 unfold zag;rw[Ab (by omega)];omega
/- -/
def zoC(y:Nat):bits .or .u8 ((y:Int)%256) 128=((UInt8.ofNat (128+y%128)).toNat:Int):=by
 rw[show((y:Int)%256)=((y%256:Nat):Int) by omega,Lib.u8_or128_any _ (by omega) (by omega)];rw[UInt8.toNat_ofNat'];omega
def zFB(y:Nat):((UInt8.ofNat (128+y%128)).toNat:Int)=128+(y%128:Nat):=by
 rw[UInt8.toNat_ofNat'];omega
def ziB(x:Int)(J:0<=x)(h1:x<=18446744073709551615)(g n cap:Nat)(b:List Value)(w:World)(G:n=(encU x.toNat).length)(O:n<=b.length)(E:w.heap[g]?=some (.cells b.toArray 5 (0,0))) :Calls prog 136 #[.slice (some ⟨g,0,none⟩) n cap,.int .u64 x] w fun e w'=>e=.returned (.tuple #[]) /\w'.heap[g]?=some (.cells (za7 (encU x.toNat)++b.drop n).toArray 5 (0,0))/\w.grownBy w' (some g):=by
 obtain⟨m,rfl⟩:=Bq J;rw[Aw]at *;obtain⟨j,u,f,h,v⟩:=zpG m;have A:=zaA m (by omega);have N:1<=n:=by omega
 have H:n<=10:=by omega
 obtain rfl:j=n-1:=by omega
 have I:=h_ E;have C:=h_ (Al G (Al f h));clear G E u f h v A;go_enter func136,ntmps136;go_wp2;go_loopw [1,7] (fun y i wr=>∃k:Nat,k<=n/\i=.int .i64 k/\y=.int .u64 ((m:Int)/128^k)/\Hid (wr.heap[g]?=some (.cells (za7 (preU m k)++b.drop k).toArray 5 (0,0)))/\w.grownBy wr (some g)) (fun _ i _=>n-(intOf i).toNat)
 case atStart=>exact⟨0,by omega,rfl,by simp,by simpa[preU,za7,Hid]using I.o,World.grownBy.refl _ _⟩
 obtain⟨k,Q,rfl,rfl,c,d⟩:=hrel;by_cases M:k<n
 .have a:∃old,wr.cell? ⟨g,k,none⟩=some old:=by
   rw[Ag _ _ _ _ _ _ c.o];exact⟨_,Array.getElem?_eq_getElem (by simp[za1,zaM];omega)⟩
  obtain⟨old,a⟩:=a;have t:wr.frozen? ⟨g,k,none⟩=false:=At _ _ _ _ _ c.o;go_wp2;go_roundw
  case rel=>
   refine⟨k+1,by omega,by go_num,?_,?_,za0 d _⟩
   .rw[Int.pow_succ,Int.ediv_ediv_of_nonneg (Int.le_of_lt (Int.pow_pos (by decide)))]
   have:=block_setCell (k:=k) c.o (.int .u8 (bits BinOp.or IntKind.u8 ((m:Int)/128^k%256) 128));rw[zFX _ _ _ k (by simp[za1,zaM]) (by simp;omega)]at this;refine h_ (this.trans ?_);rw[show((m:Int)/128^k%256)=((m/128^k:Nat):Int)%256 by push_cast;rfl,zoC,preU,zaG,B0];rfl
  simp[intOf];omega
 obtain rfl:k=n:=by omega
 have a:wr.cell? ⟨g,k-1,none⟩=some (.int .u8 ((UInt8.ofNat (128+m/128^(k-1)%128)).toNat:Int)):=by
  rw[zF8 c.o (by simp[za1,zaM];omega)];obtain⟨i,rfl⟩:∃i,k=i+1:=⟨k-1,by omega⟩;rw[preU,zaG,Cl (by simp[za1,zaM])];simp[za7,cellB,zaM]
 have t:wr.frozen? ⟨g,k-1,none⟩=false:=At _ _ _ _ _ c.o;rw[zFB]at a;have L:m/128^(k-1)%128<128:=Nat.mod_lt _ (by decide);obtain⟨q,p⟩:=nm_ (m/128^(k-1)%128);rw[<-p]at a L;have D:=h_ p;clear p;go_wp2;go_end0;refine⟨rfl,?_,za0 d _⟩;obtain⟨i,rfl⟩:∃i,k=i+1:=⟨k-1,by omega⟩;have r:=C.o;have p:=D.o;simp only[Bv]at r p ⊢;have s:=c.o;rw[preU,zaG,An]at s;have:=block_setCell (k:=i) s (.int .u8 (128+(q:Int)-128));rw[zFX _ _ _ i (by simp[za1,zaM]) (by simp[za7])]at this;refine this.trans ?_;rw[r.2.2,zaG];have e:cellB (UInt8.ofNat (m/128^i))=.int .u8 (128+(q:Int)-128):=by
  have S:=r.2.1;rw[cellB,UInt8.toNat_ofNat'];clear s this r a c C D;generalize m/128^i=z at *;congr 1;omega
 simp[za7,e]
def zcW(x:Int)(c:0<=x)(h1:x<=18446744073709551615)(w:World) :Calls prog 95 #[.int .u64 x] w (RetB w (encU x.toNat)):=by
 have g:=zaA x.toNat (by omega);have b:=zfD ((encU x.toNat).length:Nat) (by omega) (by omega);simp only[Aw]at b;go_enter func95,ntmps95;go_wp2_with (go_at_call 135;refine(zpZ _ c h1 _).mono ?_;rintro e w'⟨rfl,rfl⟩);refine(ziB x c h1 w.heap.size _ _ (za7 (List.replicate (encU x.toNat).length 0)) _ rfl (by simp[za1]) ?_).mono ?_
 .exact AB w _
 rintro e w'⟨rfl,d,a⟩;have f:=h_ d;clear d;go_wp2;go_ret;refine⟨_,rfl,zcH l_ f.o rfl l_ (by unfold maxLen;omega) (by simp[za1]) (BR (za1 _)),?_⟩;exact((Ac _ _).alloc l_ _).grown a (by simp) (by simp)
def zv3(x:Int)(a:-9223372036854775808<=x)(h1:x<=9223372036854775807)(w:World) :Calls prog 164 #[.int .i64 x] w (RetB w (encU (zig x))):=by
 have d:=zeS x a h1;go_enter func164,ntmps164;go_wp2_with (go_at_call 202;refine(zDJ _ a h1 _).mono ?_;rintro e w'⟨rfl,rfl⟩);refine(zcW _ (by omega) (by omega) w).mono ?_;rintro e w'⟨v,rfl,c,b⟩;go_wp2;go_ret;exact⟨_,rfl,c,b⟩
def encB(l:Bs):Bs:=encU l.length++l
def zk3(l m:Bs)(n:Nat)(a:n=l.length):splice (l++List.replicate m.length 0) n m=l++m:=by
 subst a;unfold splice;rw[BR rfl,Bj (by simp)];simp
def zbG(l:Bs):(encB l).length=(encU l.length).length+l.length:=by simp[encB]
/-- Bytes: the two ways, with none and with some, alike. -/
def zhE(v:Value)(l:Bs)(w:World)(h:Rd w v l) :Calls prog 96 #[v] w (RetB w (encB l)):=by
 have z:=h.small;have r:=zaA l.length (by omega);obtain⟨hd,c⟩:=nm_ ((encU l.length).length);have m:=zfD ((hd:Int)+(l.length:Int)) (by omega) (by omega);rw[show((hd:Int)+(l.length:Int)).toNat=hd+l.length by omega]at m;have f:=h_ c;rw[<-c]at r;have a:=h.len;clear c;obtain⟨y,s,hdp,_⟩:=zmU (some ⟨w.heap.size,0,none⟩) (hd+l.length) (hd+l.length) hd (by omega) l_;rw[Nat.add_sub_cancel_left]at s;have x:=h_ hdp;clear hdp;go_enter func96,ntmps96;go_wp2_with (go_at_call 135;refine(zpZ _ (by omega) (by omega) _).mono ?_;rintro e w'⟨rfl,rfl⟩;rw[Aw,<-f.o]);refine(ziB _ (by omega) (by omega) w.heap.size _ _ (za7 (List.replicate (hd+l.length) 0)) _ (by rw[Aw];exact f.o) (by simp[za1]) (AB w _)).mono ?_;rintro e t⟨rfl,n,i⟩;rw[Aw]at n;have b:Lz w t:=((Ac _ _).alloc l_ _).grown i (by simp) (by simp);have g:t.heap[w.heap.size]?=some (.cells (za7 (encU l.length++List.replicate l.length 0)).toArray 5 (0,0)):=by
  rw[n,zaG];simp[za7]
 have u:=h_ g;have h1:=h.later b l_;clear n g i m;go_wp2_with ((with_reducible refine zv2 y l.length l.length ?hd v l ?hs h1 ?hn w.heap.size hd _ u.o ?hdp ?hfit w.heap.size w b l_ ?_))
 case hd=>rfl
 case hs=>rfl
 case hn=>exact l_
 case hdp=>intro hp;have:=x.o w.heap.size 0 rfl (by omega);rwa[A5]at this
 case hfit=>have:=f.o;simp;omega
 intro A d p;rw[zk3 _ _ _ f.o]at d;go_wp2;go_ret;have a:(encB l).length=hd+l.length:=by rw[zbG,f.o]
 exact⟨_,rfl,zcH l_ d.o a.symm l_ (by unfold maxLen;omega) (by rw[za1];exact a) (Am (by rw[za1];exact CM a)),p⟩
/- -/
def zaZ(v:Value)(l:Bs)(w:World)(h:Rd w v l) :Calls prog 237 #[v] w fun e w'=>e=.returned (.tuple #[.int .u64 (getU l).1, .int .i64 (getU l).2.1, .int .i64 (getU l).2.2])/\w=w':=by
 have p:=h.len;have g:=h.idx;have f:=h.cells;have y:=h.small;go_enter func237,ntmps237;go_wp2
 all_goals
  go_loop [5,11] (fun x i=>∃(k:Nat)(X:Int),k<=l.length/\k<=10/\i=.int .i64 k/\x=.int .u64 X/\Hid ((∀j,j<k->128<=at8 l j)/\(k<=9->X=valU (l.take k)))) (fun _ i=>10-(intOf i).toNat)
  case atStart=>exact⟨0,0,by omega,by omega,rfl,rfl,⟨fun j m=>absurd m (by omega),fun _=>rfl⟩⟩
  obtain⟨k,X,u,n,rfl,rfl,b⟩:=hrel;have r:=zfB l k;have s:=zdG l k;by_cases a:k<l.length/\k<10
  .obtain⟨a,d⟩:=a;go_wp2
   all_goals first
    | (go_round
       case rel=>exact⟨k+1,_,by omega,by omega,by go_num,rfl,⟨fun j m=>(by
           by_cases e:j=k
           · subst e;omega
           · exact b.1 j (by omega)),fun A=>zjC (b.2 (by omega)) a (by omega) _ (by omega) (by omega) (by omega)⟩⟩
       case measure=>simp[intOf];omega)
    | (go_ret3
       refine⟨?_,rfl⟩
       first
         | exact ret3 (zEO b.1 (by omega) a (by assumption) (by assumption)) rfl rfl rfl
         | exact ret3 (zC3 b.1 (by omega) a (eq_of_beq (by assumption)) (by omega)) rfl rfl rfl
         | (have z:(at8 l k==0)=false:=by assumption
            have c:at8 l k≠0:=by simpa using z
            first
              | exact ret3 (zp3 b.1 (by omega) a (by assumption) (fun _=>by omega) (fun _=>c)) (zA5 (b.2 (by omega)) a (by assumption) (by omega) (by omega)) (by omega) rfl
              | exact ret3 (zp3 b.1 (by omega) a (by assumption) (fun _=>by omega) (fun _=>c)) (zjC (b.2 (by omega)) a (by omega) _ (by omega) (by omega) (by omega)) (by omega) rfl)
         | exact ret3 (zp3 b.1 (by omega) a (by assumption) (fun _=>by omega) (fun _=>by omega)) (zjC (b.2 (by omega)) a (by omega) _ (by omega) (by omega) (by omega)) (by omega) rfl)
  have t:l.length<=k\/10<=k:=by omega
  clear a;go_wp2
  all_goals go_ret3
  all_goals refine⟨?_,rfl⟩
  all_goals first
   | exact ret3 (zhT b.1 (by omega) (by omega)) rfl rfl rfl
   | exact ret3 (zrL b.1 (by omega) (by omega)) rfl rfl rfl
/- -/
def zw1(l:Bs):(getU l).2.2≠0->(getU l).1=0/\(getU l).2.1=0:=by
 intro h;unfold getU at h ⊢;simp only at h ⊢;by_cases h1:leadU 10 l=10
 .simp[h1]
 by_cases a:leadU 10 l=l.length
 .simp[a];split<;>simp
 by_cases b:2^64<=valU (l.take (leadU 10 l+1))
 .simp only[Aa h1,Aa a,Ab b];simp
 by_cases c:0<leadU 10 l/\at8 l (leadU 10 l)=0
 .simp only[Aa h1,Aa a,Aa b,Ab c];simp
 simp only[Aa h1,Aa a,Aa b,Aa c]at h;simp at h
def zaY(l:Bs):(getU l).2.2=0->(getU l).1<2^64/\1<=(getU l).2.1/\(getU l).2.1<=l.length/\(getU l).2.1<=10:=by
 intro h;have d:=zvZ 10 l;unfold getU at h ⊢;simp only at h ⊢;by_cases h1:leadU 10 l=10
 .simp[h1]at h
 by_cases a:leadU 10 l=l.length
 .simp only[Aa h1,Ab a]at h;simp at h
 by_cases b:2^64<=valU (l.take (leadU 10 l+1))
 .simp only[Aa h1,Aa a,Ab b]at h;simp at h
 by_cases c:0<leadU 10 l/\at8 l (leadU 10 l)=0
 .simp only[Aa h1,Aa a,Aa b,Ab c]at h;simp at h
 simp only[Aa h1,Aa a,Aa b,Aa c];omega
def zdV(l:Bs):(getU l).2.2<=7:=by
 unfold getU;simp only;split
 ·simp
 split
 ·simp
 split
 ·simp
 split<;>simp
def getB(l:Bs)(most:Int):Bs×Nat×Nat :=
 if(getU l).2.2≠0 then([],0,(getU l).2.2)
 else if most<0\/most<(getU l).1 then([],0,13)
 else if l.length-(getU l).2.1<(getU l).1 then([],0,5)
 else((l.drop (getU l).2.1).take (getU l).1,(getU l).2.1+(getU l).1,0)
def zfN(w:World)(r:Bs×Nat×Nat)(e:Ending)(w':World):Prop :=
 ∃v,e=.returned (.tuple #[v,.int .i64 (r.2.1:Nat),.int .i64 (r.2.2:Nat)])/\Own w' w.heap.size v r.1/\Lz w w'
def zfN.none{w:World}{r:Bs×Nat×Nat}{k:Nat}{y:Int}(h:r=([],0,k))(a:y=k):zfN w r (.returned (.tuple #[.slice none 0 0,.int .i64 0,.int .i64 y])) w:=by
 subst h;subst a;exact⟨_,rfl,zaE w _,Ac _ _⟩
def zfN.own{r:Bs×Nat×Nat} {x:Int}(h:r=(l,n,k))(b:Own w' w.heap.size v l)(a:Lz w w')(c:x=(n:Nat))(d:y=(k:Nat)) :zfN w r (.returned (.tuple #[v,.int .i64 x,.int .i64 y])) w':=by
 subst h c d;exact⟨_,rfl,b,a⟩
def zbI(v:Value)(l:Bs)(most:Int)(Q:-9223372036854775808<=most)(S:most<=9223372036854775807)(w:World)(h:Rd w v l) :Calls prog 208 #[v,.int .i64 most] w (zfN w (getB l most)):=by
 have u:=zw1 l;have m:=zaY l;have A:=zdV l;have J:=h.len;have X:=h.small;have b:getB l most=getB l most:=rfl
 conv at b=>rhs;unfold getB
 rcases hr:getU l with⟨x,n,I⟩;rw[hr]at u m A b;dsimp only at u m A b;have g:=h_ hr;clear hr;by_cases C:I=0
 .subst C;obtain⟨L,T,G,U⟩:=m rfl;clear u m A;rw[Aa (by simp)]at b;by_cases c:most<0\/most<x
  .rw[Ab c]at b;have d:=h_ b;clear b;by_cases p:most<0
   .clear c;go_enter func208,ntmps208;go_wp2_with (go_at_call 237;refine(zaZ v l _ h).mono ?_;rintro e w'⟨rfl,rfl⟩;rw[g.o];dsimp only);go_ret3;exact zfN.none d.o rfl
   have O:most<x:=(by omega);have D:0<=most:=(by omega);clear c p;go_enter func208,ntmps208;go_wp2_with (go_at_call 237;refine(zaZ v l _ h).mono ?_;rintro e w'⟨rfl,rfl⟩;rw[g.o];dsimp only);go_ret3;exact zfN.none d.o rfl
  rw[Aa c]at b;have N:(x:Int)<=most:=by omega
  have D:0<=most:=by omega
  clear c;by_cases s:l.length-n<x
  .rw[Ab s]at b;have d:=h_ b;clear b;have t:(l.length:Int)-n<x:=(by omega);have H:(n:Int)<=l.length:=(by omega);go_enter func208,ntmps208;go_wp2_with (go_at_call 237;refine(zaZ v l _ h).mono ?_;rintro e w'⟨rfl,rfl⟩;rw[g.o];dsimp only);go_ret3;exact zfN.none d.o rfl
  rw[Aa s]at b;have d:=h_ b;clear b;have t:(x:Int)<=(l.length:Int)-n:=by omega
  have H:(n:Int)<=l.length:=by omega
  have E:=zfD (x:Int) (by omega) (by omega);rw[Aw]at E;obtain⟨Y,M,r⟩:=h.from n G;have y:=h_ r;clear r;go_enter func208,ntmps208;have i:Lz w (w.alloc (.cells (za7 (List.replicate x 0)).toArray 5)):=(Ac _ _).alloc l_ _;go_wp2_with (first|(go_at_call 237;refine(zaZ v l _ h).mono ?_;rintro e w'⟨rfl,rfl⟩;rw[g.o];dsimp only)|(with_reducible refine wpl_copy_part (some ⟨w.heap.size,0,none⟩) x x ?hd Y (l.drop n) ?hs (y.o _ (h.alloc _)) ?hn w.heap.size 0 (List.replicate x 0) (AB w _) (fun _=>rfl) ?hfit w.heap.size w i l_ ?_))
  case hd=>rfl
  case hs=>rfl
  case hn=>rw[Ay];omega
  case hfit=>simp
  intro Z f z;have a:((l.drop n).take x).length=x:=by simp;omega
  have e:=zk3 [] ((l.drop n).take x) 0 rfl;rw[a]at e;simp only[AA]at e;rw[e]at f;go_wp2;go_ret3;exact zfN.own d.o (zcH l_ f.o a.symm l_ (by unfold maxLen;omega) (by rw[za1];exact a) (Am (by rw[za1];exact CM a))) z (by omega) rfl
 obtain⟨L,hn⟩:=u C;subst L hn;rw[Ab C]at b;have d:=h_ b;clear b m;have V:((I:Int)!=0)=true:=by simp;omega
 go_enter func208,ntmps208;go_wp2_with (go_at_call 237;refine(zaZ v l _ h).mono ?_;rintro e w'⟨rfl,rfl⟩;rw[g.o];dsimp only);go_ret3;exact zfN.none d.o rfl
/- -/
abbrev Col:=Bs×Int
def names(cs:List Col):List Bs:=cs.map (·.1)
def zbB(c:Nat):Bool:=decide (97<=c/\c<=122\/48<=c/\c<=57\/c=95)
def fine(n:Bs)(ahead:List Bs):Bool:=!n.isEmpty&&(n.all (fun c=>zbB c.toNat) && !ahead.contains n)
def zaI(ah:List Bs)(c:Col):Nat:=if 32<c.1.length then 7 else if fine c.1 ah=false then 2 else if c.2<0\/5<c.2 then 10 else 0
def errFrom:List Bs->List Col->Nat
 | _,[]=>0
 | ah,c::r=>if zaI ah c≠0 then zaI ah c else errFrom (ah++[c.1]) r
def errS(cs:List Col):Nat:=if cs.length=0 then 4 else if 8<cs.length then 13 else errFrom [] cs
def zCI{α:Type}{l:List α}(h:k<l.length)(d:α):l.drop k=l.getD k d::l.drop (k+1):=by
 rw[Bf h];simp[List.getD,h]
def ziK{cs:List Col}(h:k<cs.length):errFrom (names (cs.take k)) (cs.drop k)=if zaI (names (cs.take k)) (cs.getD k default)≠0 then zaI (names (cs.take k)) (cs.getD k default)else errFrom (names (cs.take (k+1))) (cs.drop (k+1)):=by
 rw[zCI h default,errFrom,zaH h default];simp[names]
def zgF{c:Col}(h:zaI a c=0):c.1.length<=32/\fine c.1 a=true/\0<=c.2/\c.2<=5:=by
 unfold zaI at h;split at h
 .cases h
 split at h
 .cases h
 split at h
 .cases h
 rename_i h1 h2 h3;exact⟨by omega,by simpa using h2,by omega,by omega⟩
def ziJ:∀(cs:List Col)(b:List Bs),errFrom b cs=0->∀c∈cs,c.1.length<=32/\0<=c.2/\c.2<=5
 | [],_,_,c,a=>absurd a (by simp)
 | x::r,b,h,c,a=>by
  rw[errFrom]at h;split at h
  .rename_i h1;exact absurd h h1
  .rename_i h1
   have g:zaI b x=0:=Av h1;obtain⟨d,_,e,f⟩:=zgF g;rcases Ba.1 a with rfl|a
   .exact⟨d,e,f⟩
   .exact ziJ r _ h c a
def zaO{cs:List Col}(h:errS cs=0):0<cs.length/\cs.length<=8/\errFrom [] cs=0/\∀c∈cs,c.1.length<=32/\0<=c.2/\c.2<=5:=by
 unfold errS at h;split at h
 .cases h
 split at h
 .cases h
 exact⟨by omega,by omega,h,ziJ cs [] h⟩
def zs7(a:List Bs)(c:Col):zaI a c<=10:=by
 unfold zaI;split
 ·omega
 split
 ·omega
 split<;>omega
def zh5:∀(cs:List Col)(a:List Bs),errFrom a cs<=10
 | [],_=>by rw[errFrom];omega
 | c::r,a=>by
  rw[errFrom];split
  ·exact zs7 _ _
  .exact zh5 r _
def znL(cs:List Col):errS cs<=13:=by
 unfold errS;split
 ·omega
 split
 ·omega
 have:=zh5 cs [];omega
def zgL(c:Col):Bs:=encB c.1++[UInt8.ofNat c.2.toNat]
def zaK(cs:List Col):Bs:=cs.flatMap zgL
def wrS(cs:List Col):Bs:=encU cs.length++zaK cs
def zjQ{cs:List Col}(h:k<cs.length):zaK (cs.take (k+1))=(zaK (cs.take k)++encB (cs.getD k default).1)++[UInt8.ofNat (cs.getD k default).2.toNat]:=by
 rw[zaH h default];simp[zaK,zgL]
/- -/
def zEZ(n:Nat):∀(l:Bs),n<l.length->(∀j,j<n->128<=at8 l j)->at8 l n<128->(0<n->at8 l n≠0)->encU (valU (l.take (n+1)))=l.take (n+1):=by
 induction n with
 | zero=>
  intro l d _ h1 _;cases l with
  | nil=>simp at d
  | cons b l=>
   simp[at8]at h1;simp only[BC,AU,zc0,zgN];rw[zeG (by omega)];congr 1;apply UInt8.toNat_inj.1;rw[UInt8.toNat_ofNat'];omega
 | succ n ih=>
  intro l d i h1 m;cases l with
  | nil=>simp at d
  | cons b l=>
   have t:=i 0 (by omega);simp[at8]at t;have e:∀j,at8 (b::l) (j+1)=at8 l j:=fun j=>(by simp[at8]);have a:=ih l (by simpa using d) (fun j u=>by have:=i (j+1) (by omega);rwa[e]at this) (by rw[e]at h1;exact h1) (fun v=>by have:=m (by omega);rwa[e]at this);rw[BC,zc0];have p:0<valU (l.take (n+1)):=by
    apply Nat.pos_of_ne_zero;intro h;rw[h,zeG (by decide)]at a;have f:(l.take (n+1)).length=1:=(by rw[<-a];rfl);simp at f;have g:n=0:=(by simp at d;omega);subst g;cases l with
    | nil=>simp at d
    | cons c l=>
     simp at a;have:=m (by omega);rw[e]at this;apply this;simp[at8,<-a]
   rw[zeI (by omega)];have r:(b.toNat%128+128*valU (l.take (n+1)))/128=valU (l.take (n+1)):=(by omega);have s:128+(b.toNat%128+128*valU (l.take (n+1)))%128=b.toNat:=by
    have:=b.toNat_lt;omega
   rw[r,s,a];simp
def zp4(h:getU l=(x,n,0)):encU x=l.take n:=by
 have f:=zvZ 10 l;have d:=fun i e=>zEK (k:=10) (l:=l) i e;unfold getU at h;simp only at h;by_cases h1:leadU 10 l=10
 .simp[h1]at h
 by_cases a:leadU 10 l=l.length
 .simp only[Aa h1,Ab a]at h;simp at h
 by_cases b:2^64<=valU (l.take (leadU 10 l+1))
 .simp only[Aa h1,Aa a,Ab b]at h;simp at h
 by_cases c:0<leadU 10 l/\at8 l (leadU 10 l)=0
 .simp only[Aa h1,Aa a,Aa b,Ab c]at h;simp at h
 simp only[Aa h1,Aa a,Aa b,Aa c,Prod.mk.injEq,and_true]at h;obtain⟨rfl,rfl⟩:=h;exact zEZ (leadU 10 l) l (by omega) d (zy2 (by omega) (by omega)) (fun hp g=>c ⟨hp,g⟩)
def zp6 {c:Bs}{most:Int}(h:getB l most=(c,n,0)):encB c=l.take n/\1<=n/\n<=l.length/\c.length<=l.length:=by
 unfold getB at h;split at h
 .rename_i he;simp at h;exact absurd h.2.2 he
 rename_i he;have a:(getU l).2.2=0:=by omega
 obtain⟨e,f,g,i⟩:=zaY l a;split at h
 .simp at h
 split at h
 .simp at h
 simp only[Prod.mk.injEq,and_true]at h;obtain⟨rfl,rfl⟩:=h;have d:=zp4 (l:=l) (x:=(getU l).1) (n:=(getU l).2.1) (by rw[<-a]);have b:((l.drop (getU l).2.1).take (getU l).1).length=(getU l).1:=by simp;omega
 refine⟨?_,by omega,by omega,by simp;omega⟩;unfold encB;rw[b,d,Cy]
/- -/
def zv5(x:Nat):valU (encU x)=x:=by
 by_cases h:x<128
 .rw[zeG h,zc0,zgN,UInt8.toNat_ofNat'];omega
 rw[zeI h,zc0,zv5 (x/128),UInt8.toNat_ofNat'];omega
termination_by x
decreasing_by omega
def zd7 {m:Bs}(h:i<l.length):at8 (l++m) i=at8 l i:=by
 unfold at8;simp[List.getD,Cs h]
def zeO {m:Bs}(h:l.length<=i):at8 (l++m) i=at8 m (i-l.length):=by
 unfold at8;simp[List.getD,Cl h]
def zFH {j:Nat}(h:j<k):128<=at8 (preU x k) j:=by
 induction k with
 | zero=>omega
 | succ k ih=>
  rw[preU];by_cases e:j<k
  .rw[zd7 (by rw[zaM];exact e)];exact ih e
  obtain rfl:j=k:=by omega
  rw[zeO (by rw[zaM];exact l_),zaM];simp[at8];omega
def zD0(x:Nat):∃k,(encU x).length=k+1/\(∀j,j<k->128<=at8 (encU x) j)/\at8 (encU x) k=((x/128^k:Nat):Int)/\x/128^k<128/\(0<k->0<x/128^k):=by
 obtain⟨k,h1,a,b,d⟩:=zpG x;refine⟨k,h1,fun j c=>?_,?_,a,d⟩
 .rw[b,zd7 (by rw[zaM];exact c)];exact zFH c
 rw[b,zeO (by rw[zaM];exact l_),zaM];have e:=a;generalize x/128^k=z at e ⊢;simp[at8];omega
def zfE(x:Nat)(i:x<2^64)(m:Bs):getU (encU x++m)=(x,(encU x).length,0):=by
 obtain⟨k,h1,f,b,n,g⟩:=zD0 x;have h:=zaA x i;have a:∀j,j<k+1->at8 (encU x++m) j=at8 (encU x) j:=fun j d=>zd7 (by omega);have c:k=9->at8 (encU x++m) k<=1:=by
  intro e;rw[a k (by omega),b];subst e;have:x/128^9<2:=by
   rw[Nat.div_lt_iff_lt_mul (by decide)];have:(2:Nat)*128^9=2^64:=(by decide);omega
  omega
 have:=zp3 (l:=encU x++m) (k:=k) (fun j d=>by rw[a j (by omega)];exact f j d) (by omega) (by simp;omega) (by rw[a k (by omega),b];omega) c (fun hp=>by rw[a k (by omega),b];have:=g hp;omega);rw[this,<-h1,Da,zv5]
def zw2(x i:Nat)(f:x<2^64)(g:i<(encU x).length):getU ((encU x).take i)=(0,0,5):=by
 obtain⟨k,h1,b,_⟩:=zD0 x;have d:=zaA x f;have a:((encU x).take i).length=i:=by simp;omega
 have:=zhT (l:=(encU x).take i) (k:=i) (fun j c=>by
  have e:at8 ((encU x).take i) j=at8 (encU x) j:=by unfold at8;simp only[List.getD];rw[Cv c]
  rw[e];exact b j (by omega)) (by omega) a.symm
 exact this
def zEP(l m:Bs)(a:l.length<2^63):getB (encB l++m) l.length=(l,(encB l).length,0):=by
 have h:=zfE l.length (by omega) (l++m);unfold getB encB;rw[An,h];dsimp only;rw[Aa (by simp),Aa (by omega),Aa (by simp)];rw[B9,Da];simp
def zEQ(l:Bs)(i:Nat)(c:l.length<2^63)(b:i<(encB l).length):getB ((encB l).take i) l.length=([],0,5):=by
 have a:(encB l).length=(encU l.length).length+l.length:=by simp[encB]
 by_cases h:i<(encU l.length).length
 .have e:(encB l).take i=(encU l.length).take i:=by unfold encB;rw[BH (by omega)]
  rw[e];unfold getB;rw[zw2 l.length i (by omega) h];simp
 have e:(encB l).take i=encU l.length++l.take (i-(encU l.length).length):=by
  unfold encB;rw[Cd,Am (by omega)]
 rw[e];unfold getB;rw[zfE l.length (by omega)];dsimp only;rw[Aa (by simp),Aa (by omega),Ab (by simp;omega)]
end
end Go.Proofs.YtgboedffaangeaaGreatDoor
namespace Go.Proofs.YtgboedffaangeaaGreatDoor.Z
structure TO{R:Type}(V:R->Prop)(cmp:R->R->Int):Prop where
 zero:∀{a b},V a->V b->(cmp a b=0↔a=b)
 flip:∀{a b},V a->V b->cmp a b=-cmp b a
 trans:∀{a b c},V a->V b->V c->cmp a b<0->cmp b c<0->cmp a c<0
section
variable{R:Type}{V:R->Prop}{cmp:R->R->Int}
def srt(cmp:R->R->Int)(ps:List (R×Int)):Prop:=ps.Pairwise fun a b=>cmp a.1 b.1<0
def AllV(V:R->Prop)(ps:List (R×Int)):Prop:=∀p∈ps,V p.1
structure isSet(V:R->Prop)(cmp:R->R->Int)(a:List (R×Int)):Prop where
 srt:srt cmp a
 all:AllV V a
 nz:∀p∈a,p.2≠0
def TO.irr(h:TO V cmp){a:R}(b:V a):cmp a a=0:=(h.zero b b).2 rfl
def TO.ne(h:TO V cmp){a b:R}(c:V a)(d:V b)(f:cmp a b<0):a≠b:=fun e=>by
 have:=(h.zero c d).2 e;omega
def nz(ps:List (R×Int)):List (R×Int):=ps.filter fun p=>p.2 !=0
def zzV(d:TO V cmp){p:R×Int}{t:List (R×Int)}(f:srt cmp (p::t))(a:AllV V (p::t)):∀q∈t,q.1≠p.1:=fun q b e=>by
 have c:=(List.pairwise_cons.1 f).1 q b;exact d.ne (a p (by simp)) (a q (by simp[b])) c e.symm
def zIQ(d:TO V cmp){a:List (R×Int)}(c:srt cmp a)(b:AllV V a):isSet V cmp (nz a) :=
 ⟨List.Pairwise.filter _ c,fun p hp=>b p ((List.mem_filter.1 hp).1),fun p hp=>by have:=(List.mem_filter.1 hp).2;simpa using this⟩
def isSet.nil:isSet V cmp ([]:List (R×Int)):=⟨by simp[Z.srt],fun p hp=>by simp at hp,fun p hp=>by simp at hp⟩
def isSet.sub{a b:List (R×Int)}(h:isSet V cmp a)(c:b.Sublist a):isSet V cmp b:=⟨List.Pairwise.sublist c h.srt,fun p hp=>h.all p (c.mem hp),fun p hp=>h.nz p (c.mem hp)⟩
end
section
variable{R:Type}[DecidableEq R]{V:R->Prop}{cmp:R->R->Int}
def ins(cmp:R->R->Int)(r:R)(x:Int):List (R×Int)->List (R×Int)
 | []=>[(r,x)]
 | p::t=>if cmp p.1 r<0 then p::ins cmp r x t else if p.1=r then(p.1,p.2+x)::t else(r,x)::p::t
def partsFrom(cmp:R->R->Int)(acc ps:List (R×Int)):List (R×Int):=ps.foldl (fun acc p=>ins cmp p.1 p.2 acc) acc
def parts(cmp:R->R->Int)(ps:List (R×Int)):List (R×Int):=partsFrom cmp [] ps
def sumW:List (R×Int)->R->Int
 | [],_=>0
 | p::t,r=>(if p.1=r then p.2 else 0)+sumW t r
def has(ps:List (R×Int))(r:R):Prop:=∃p∈ps,p.1=r
def canon(cmp:R->R->Int)(ps:List (R×Int)):List (R×Int):=nz (parts cmp ps)
def sumW_append(a b:List (R×Int))(r:R):sumW (a++b) r=sumW a r+sumW b r:=by
 induction a with
 | nil=>simp[sumW]
 | cons p t ih=>simp only[List.cons_append,sumW,ih];omega
def zzR{a b:List (R×Int)}(h:a.Perm b)(r:R):sumW a r=sumW b r:=by
 induction h with
 | nil=>rfl
 | cons x _ ih=>simp only[sumW,ih]
 | swap x y l=>simp only[sumW];omega
 | trans _ _ h1 h2=>exact h1.trans h2
def sumW_no{ps:List (R×Int)}{r:R}(h:∀p∈ps,p.1≠r):sumW ps r=0:=by
 induction ps with
 | nil=>rfl
 | cons p t ih=>
  simp only[sumW];rw[if_neg (h p (by simp)),ih (fun q a=>h q (by simp[a]))];rfl
def sumW_mem(b:TO V cmp):∀{ps:List (R×Int)},srt cmp ps->AllV V ps->∀p∈ps,sumW ps p.1=p.2
 | [],_,_,p,hp=>by simp at hp
 | q::t,hs,hV,p,hp=>by
  have a:=zzV b hs hV;simp only[sumW];rcases List.mem_cons.1 hp with rfl|hp
  .rw[if_pos rfl,sumW_no a,Int.add_zero]
  .rw[if_neg (fun e=>a p hp e.symm),sumW_mem b (List.pairwise_cons.1 hs).2 (fun x c=>hV x (by simp[c])) p hp,Int.zero_add]
def zHC(r:R)(x:Int)(ps:List (R×Int))(q:R):sumW (ins cmp r x ps) q=sumW ps q+if r=q then x else 0:=by
 induction ps with
 | nil=>simp[ins,sumW]
 | cons p t ih=>
  simp only[ins];by_cases b:cmp p.1 r<0
  .rw[if_pos b];simp only[sumW,ih];omega
  rw[if_neg b];by_cases a:p.1=r
  .rw[if_pos a];simp only[sumW];rw[a];by_cases c:r=q
   .simp only[c,if_true];omega
   simp only[c,if_false];omega
  rw[if_neg a];simp only[sumW];omega
def ins_has(r:R)(x:Int)(ps:List (R×Int))(q:R):has (ins cmp r x ps) q↔r=q\/has ps q:=by
 induction ps with
 | nil=>simp[ins,has]
 | cons p t ih=>
  have a:∀(p:R×Int) t,has (p::t) q↔p.1=q\/has t q:=fun p t=>by simp[has]
  simp only[ins];by_cases c:cmp p.1 r<0
  .rw[if_pos c,a,a,ih];constructor
   ·rintro(h|h|h)
    .exact .inr (.inl h)
    .exact .inl h
    exact .inr (.inr h)
   rintro(h|h|h)
   .exact .inr (.inl h)
   .exact .inl h
   exact .inr (.inr h)
  rw[if_neg c];by_cases b:p.1=r
  .rw[if_pos b,a,a,b];constructor
   ·exact fun h=>.inr h
   rintro(h|h)
   .exact .inl h
   exact h
  rw[if_neg b,a]
def zHD{r:R}{x:Int}{ps:List (R×Int)}(a:AllV V ps)(c:V r):AllV V (ins cmp r x ps):=fun p hp=>by
 rcases(ins_has (cmp:=cmp) r x ps p.1).1 ⟨p,hp,rfl⟩with h|⟨q,b,h⟩
 .rw[<-h];exact c
 .rw[<-h];exact a q b
def zBZ(c:TO V cmp){r:R}{x:Int}:∀{ps:List (R×Int)},srt cmp ps->AllV V ps->V r->srt cmp (ins cmp r x ps)
 | [],_,_,_=>by simp[ins,srt]
 | p::t,hs,hV,hr=>by
  obtain⟨d,i⟩:=List.pairwise_cons.1 hs;have hp:=hV p (by simp);have b:AllV V t:=fun q a=>hV q (by simp[a]);simp only[ins];by_cases e:cmp p.1 r<0
  .rw[if_pos e]
   refine List.pairwise_cons.2 ⟨fun q a=>?_,zBZ c i b hr⟩;rcases(ins_has (cmp:=cmp) r x t q.1).1 ⟨q,a,rfl⟩with h|⟨k,g,h⟩
   .rw[<-h];exact e
   .rw[<-h];exact d k g
  .rw[if_neg e]
   by_cases f:p.1=r
   .rw[if_pos f]
    exact List.pairwise_cons.2 ⟨fun q a=>d q a,i⟩
   .rw[if_neg f]
    have j:cmp r p.1<0:=by
     have l:=c.flip hr hp;have m:¬cmp p.1 r=0:=fun h=>f ((c.zero hp hr).1 h);omega
    refine List.pairwise_cons.2 ⟨fun q a=>?_,hs⟩;rcases List.mem_cons.1 a with rfl|a
    .exact j
    .exact c.trans hr hp (b q a) j (d q a)
def ins_new{r:R}{x:Int}:∀{ps:List (R×Int)}{j:Nat},j<=ps.length->(∀i(h:i<ps.length),i<j->cmp ps[i].1 r<0)->(∀h:j<ps.length,¬cmp ps[j].1 r<0/\ps[j].1≠r)->ins cmp r x ps=ps.take j++(r,x)::ps.drop j
 | [],j,hj,_,_=>by simp[ins]
 | p::t,0,_,_,h=>by
  obtain⟨a,c⟩:=h (by simp);simp only[List.getElem_cons_zero]at a c;simp only[ins];rw[if_neg a,if_neg c];rfl
 | p::t,j+1,hj,h0,h=>by
  have a:=h0 0 (by simp) (by omega);simp only[List.getElem_cons_zero]at a;simp only[ins];rw[if_pos a,ins_new (j:=j) (by simpa using hj) (fun i d e=>by have:=h0 (i+1) (by simpa using d) (by omega);simpa using this) (fun b=>by have:=h (by simpa using b);simpa using this)]
  rfl
def ins_add{r:R}{x:Int}:∀{ps:List (R×Int)}{j:Nat}(a:j<ps.length),(∀i(h:i<ps.length),i<j->cmp ps[i].1 r<0)->¬cmp ps[j].1 r<0->ps[j].1=r->ins cmp r x ps=ps.set j (ps[j].1,ps[j].2+x)
 | [],j,a,_,_,_=>absurd a (by simp)
 | p::t,0,_,_,h1,h2=>by
  simp only[List.getElem_cons_zero]at h1 h2;simp only[ins];rw[if_neg h1,if_pos h2];rfl
 | p::t,j+1,a,h0,h1,h2=>by
  have b:=h0 0 (by simp) (by omega);simp only[List.getElem_cons_zero]at b;simp only[List.getElem_cons_succ]at h1 h2;simp only[ins];rw[if_pos b,ins_add (j:=j) (by simpa using a) (fun i c d=>by have:=h0 (i+1) (by simpa using c) (by omega);simpa using this) h1 h2];simp
def zER(ps:List (R×Int)):∀(a:List (R×Int))(q:R),sumW (partsFrom cmp a ps) q=sumW a q+sumW ps q:=by
 induction ps with
 | nil=>intro a q;simp[partsFrom,sumW]
 | cons p t ih=>
  intro a q;have:=ih (ins cmp p.1 p.2 a) q;rw[zHC]at this;show sumW (partsFrom cmp (ins cmp p.1 p.2 a) t) q=_;rw[this];simp only[sumW];omega
def zES(ps:List (R×Int)):∀(a:List (R×Int))(q:R),has (partsFrom cmp a ps) q↔has a q\/has ps q:=by
 induction ps with
 | nil=>intro a q;simp[partsFrom,has]
 | cons p t ih=>
  intro a q;have:=ih (ins cmp p.1 p.2 a) q;rw[ins_has]at this;show has (partsFrom cmp (ins cmp p.1 p.2 a) t) q↔_;rw[this];have b:has (p::t) q↔p.1=q\/has t q:=by simp[has]
  rw[b];constructor
  ·rintro((h|h)|h)
   .exact .inr (.inl h)
   .exact .inl h
   exact .inr (.inr h)
  rintro(h|h|h)
  .exact .inl (.inr h)
  .exact .inl (.inl h)
  exact .inr h
def zHF(e:TO V cmp)(ps:List (R×Int)):∀(a:List (R×Int)),srt cmp a->AllV V a->AllV V ps->srt cmp (partsFrom cmp a ps)/\AllV V (partsFrom cmp a ps):=by
 induction ps with
 | nil=>intro a c b _;exact⟨c,b⟩
 | cons p t ih=>
  intro a c b d;have hp:=d p (by simp);exact ih _ (zBZ e c b hp) (zHD b hp) (fun q f=>d q (by simp[f]))
def zeZ(ps:List (R×Int))(q:R):sumW (parts cmp ps) q=sumW ps q:=by
 have:=zER (cmp:=cmp) ps [] q;rw[show sumW ([]:List (R×Int)) q=0 from rfl,Int.zero_add]at this;exact this
def parts_has(ps:List (R×Int))(q:R):has (parts cmp ps) q↔has ps q:=by
 have:=zES (cmp:=cmp) ps [] q;rw[show(has [] q\/has ps q)↔has ps q from by simp[has]]at this;exact this
def zeE(a:TO V cmp){ps:List (R×Int)}(b:AllV V ps):srt cmp (parts cmp ps)/\AllV V (parts cmp ps):=zHF a ps [] (by simp[srt]) (fun p hp=>by simp at hp) b
def parts_snoc(ps:List (R×Int))(p:R×Int):parts cmp (ps++[p])=ins cmp p.1 p.2 (parts cmp ps):=by
 simp[parts,partsFrom]
def ext(i:TO V cmp):∀{a b:List (R×Int)},srt cmp a->srt cmp b->AllV V a->AllV V b->(∀r,has a r↔has b r)->(∀r,sumW a r=sumW b r)->a=b
 | [],[],_,_,_,_,_,_=>rfl
 | [],q::b,_,_,_,_,h,_=>absurd ((h q.1).2 ⟨q,by simp,rfl⟩) (by simp[has])
 | p::a,[],_,_,_,_,h,_=>absurd ((h p.1).1 ⟨p,by simp,rfl⟩) (by simp[has])
 | p::a,q::b,ha,hb,va,vb,h,hw=>by
  have hp:=va p (by simp);have u:=vb q (by simp);have s:p.1=q.1:=by
   obtain⟨z,d,e⟩:=(h p.1).1 ⟨p,by simp,rfl⟩;obtain⟨A,f,n⟩:=(h q.1).2 ⟨q,by simp,rfl⟩;rcases List.mem_cons.1 d with rfl|d
   .exact e.symm
   .rcases List.mem_cons.1 f with rfl|f
    .exact n
    .have j:=(List.pairwise_cons.1 hb).1 z d
     have k:=(List.pairwise_cons.1 ha).1 A f;rw[e]at j;rw[n]at k;have:=i.flip hp u;omega
  have t:p.2=q.2:=by
   have j:=sumW_mem i ha va p (by simp);have k:=sumW_mem i hb vb q (by simp);rw[<-j,<-k,hw,s]
  have e:p=q:=Prod.ext s t;subst e;have v:=zzV i ha va;have w:=zzV i hb vb;have l:AllV V a:=fun x c=>va x (by simp[c]);have m:AllV V b:=fun x c=>vb x (by simp[c]);rw[ext i (List.pairwise_cons.1 ha).2 (List.pairwise_cons.1 hb).2 l m (fun r=>?_) (fun r=>?_)]
  .constructor
   ·rintro⟨x,c,rfl⟩
    obtain⟨y,g,e⟩:=(h x.1).1 ⟨x,by simp[c],rfl⟩;rcases List.mem_cons.1 g with rfl|g
    .exact absurd e.symm (v x c)
    .exact⟨y,g,e⟩
   .rintro⟨x,c,rfl⟩
    obtain⟨y,g,e⟩:=(h x.1).2 ⟨x,by simp[c],rfl⟩;rcases List.mem_cons.1 g with rfl|g
    .exact absurd e.symm (w x c)
    .exact⟨y,g,e⟩
  .have:=hw r
   simp only[sumW]at this;omega
def isSet.has(c:TO V cmp){a:List (R×Int)}(h:isSet V cmp a)(r:R):has a r↔sumW a r≠0:=by
 constructor
 ·rintro⟨p,hp,rfl⟩;rw[sumW_mem c h.srt h.all p hp];exact h.nz p hp
 intro d;by_cases b:Z.has a r
 .exact b
 exact absurd (sumW_no fun p hp e=>b ⟨p,hp,e⟩) d
def zGP(c:TO V cmp){a b:List (R×Int)}(d:isSet V cmp a)(e:isSet V cmp b)(h:∀r,sumW a r=sumW b r):a=b :=
 ext c d.srt e.srt d.all e.all (fun r=>by rw[d.has c,e.has c,h]) h
def zIP(f:TO V cmp){a:List (R×Int)}(c:srt cmp a)(b:AllV V a)(r:R):sumW (nz a) r=sumW a r:=by
 induction a with
 | nil=>rfl
 | cons p t ih=>
  have ih:=ih (List.pairwise_cons.1 c).2 (fun x d=>b x (by simp[d]));by_cases h:p.2=0
  .have e:nz (p::t)=nz t:=(by simp[nz,h]);rw[e,ih];simp only[sumW];split<;>omega
  have e:nz (p::t)=p::nz t:=by simp[nz,h]
  rw[e];simp only[sumW,ih]
def canon_set(a:TO V cmp){ps:List (R×Int)}(b:AllV V ps):isSet V cmp (canon cmp ps):=zIQ a (zeE a b).1 (zeE a b).2
def canon_sum(a:TO V cmp){ps:List (R×Int)}(b:AllV V ps)(r:R):sumW (canon cmp ps) r=sumW ps r:=by
 unfold canon;rw[zIP a (zeE a b).1 (zeE a b).2,zeZ]
def canon_of(b:TO V cmp){ps a:List (R×Int)}(c:AllV V ps)(h:isSet V cmp a)(d:∀r,sumW a r=sumW ps r):canon cmp ps=a :=
 zGP b (canon_set b c) h (fun r=>by rw[canon_sum b c,d])
def parts_all(a:TO V cmp){ps:List (R×Int)}(g:AllV V ps){I:Int->Prop}(f:I 0):(∀p∈parts cmp ps,I p.2)↔∀r,I (sumW ps r):=by
 obtain⟨b,c⟩:=zeE a g;constructor
 ·intro h r;by_cases d:Z.has (parts cmp ps) r
  .obtain⟨p,hp,rfl⟩:=d;rw[<-zeZ (cmp:=cmp),sumW_mem a b c p hp];exact h p hp
  rw[<-zeZ (cmp:=cmp),sumW_no fun p hp e=>d ⟨p,hp,e⟩];exact f
 intro h p hp;rw[<-sumW_mem a b c p hp,zeZ];exact h p.1
end
end Go.Proofs.YtgboedffaangeaaGreatDoor.Z
/- -/
namespace Go.Proofs.YtgboedffaangeaaGreatDoor
def Result.world{α:Type}:Result α->World
 | .ok _ w=>w
 | .halt _ w=>w
def zmA{α:Type}:∀(a:Ask α)(w:World),w.drawn<=(w.ask a).2.drawn
 | .done _,_=>Nat.le_refl _
 | .ask what range k,w=>by
  unfold World.ask;dsimp only;split
  ·exact zmA _ w
  .exact Nat.le_trans (Nat.le_succ _) (zmA (k _) { w with drawn:=w.drawn+1})
def sys_drawn(c:Sys)(w:World):w.drawn<=(w.sys c).2.drawn:=by
 unfold World.sys;have h:=zmA (Kernel.perform c w.os) w;generalize w.ask (Kernel.perform c w.os)=x at h;obtain⟨⟨r,os⟩,w'⟩:=x;cases r<;>first|exact Nat.le_refl _|exact h
variable {l:List Addr} {n:Nat} {p:Program} {c:Prop} {v:Value} {w w':World}
def zjU{at_:Addr}{u:TypeId}{k:Addr}{a:Bool}(h:w.viewStore p at_ u k v a=.ok (w',l)):w'.drawn=w.drawn:=by
 unfold World.viewStore at h;simp only[bind,Except.bind,pure,Except.pure]at h
 repeat' split at h
 all_goals first|(cases h;rfl)|cases h
def zmH{a:Addr}{b:Bool}(h:w.farStore p a v b=.ok (w',l)):w'.drawn=w.drawn:=by
 unfold World.farStore at h;split at h
 .split at h
  .rename_i r hr;cases h;exact zjU hr
  cases h
 cases h
def zqJ{α:Type}(p:Program):∀(s:Sem α)(w:World),w.drawn<=(Result.world (s.run p w)).drawn :=by
 intro s
 induction s with
 | pure a=>intro w;exact Nat.le_refl _
 | load m a k ih=>
  intro w;unfold Sem.run;split
  ·exact ih _ w
  split
  ·exact ih _ w
  exact Nat.le_refl _
 | store m a v k ih=>
  intro w;cases v
  all_goals first
   | exact Nat.le_refl _
   | (rw[Sem.run]
      · split
        · split
          · exact Nat.le_refl _
          · exact ih (w.setCell _ _)
        · split
          · rename_i hw
            rw[<-zmH hw];exact ih _
          · exact Nat.le_refl _
      all_goals(intros;first|contradiction|simp_all))
 | new o k ih=>intro w;unfold Sem.run;exact ih w.heap.size { w with heap:=w.heap.push o}
 | shape r k ih=>intro w;exact ih _ _
 | freeze a n k ih=>
  intro w;refine Nat.le_trans ?_ (ih (w.freeze a n));unfold World.freeze;split<;>exact Nat.le_refl _
 | frozen a k ih=>intro w;exact ih _ _
 | getObj r k ih=>
  intro w;unfold Sem.run;split
  ·exact Nat.le_refl _
  .exact ih _ _
  exact Nat.le_refl _
 | setObj r o k ih=>
  intro w;unfold Sem.run;split
  ·exact Nat.le_refl _
  .exact ih { w with heap:=w.heap.setIfInBounds r o}
  exact Nat.le_refl _
 | choose q k ih=>
  intro w;unfold Sem.run;split
  ·exact ih _ w
  exact Nat.le_trans (Nat.le_succ _) (ih _ { w with drawn:=w.drawn+1})
 | sys c k ih=>intro w;exact Nat.le_trans (sys_drawn c w) (ih _ _)
 | program k ih=>intro w;exact ih _ _
 | mark m k ih=>intro w;exact ih _
 | halt h=>intro w;exact Nat.le_refl _
def ok_drawn{α:Type}{s:Sem α}{a:α}(h:s.run p w=.ok a w'):w.drawn<=w'.drawn:=by
 have:=zqJ p s w;rwa[h]at this
def halt_drawn{α:Type}{s:Sem α}{a:Halt}(h:s.run p w=.halt a w'):w.drawn<=w'.drawn:=by
 have:=zqJ p s w;rwa[h]at this
def GStep.fwd(w:World):GStep->Prop
 | .go _ w' _=>w.drawn<=w'.drawn
 | .comm _ _ _ _ w' _=>w.drawn<=w'.drawn
 | .spawn _ _ w' _=>w.drawn<=w'.drawn
 | .count _ w' _=>w.drawn<=w'.drawn
 | .timer _ _ w' _=>w.drawn<=w'.drawn
 | .alone _ _ w' _=>w.drawn<=w'.drawn
 | .newcoro _ _ _ w' _=>w.drawn<=w'.drawn
 | .coroswitch _ _ _ w' _=>w.drawn<=w'.drawn
 | .collect _ w' _=>w.drawn<=w'.drawn
 | .watch _ w' _=>w.drawn<=w'.drawn
 | .ended ..=>True
def GStep.fwd_after(es:Array Event)(w:World)(s:GStep):GStep.fwd w (s.after es)↔GStep.fwd w s:=by cases s<;>rfl
def GStep.fwd_trans{a b:World}(h:a.drawn<=b.drawn){s:GStep}(k:GStep.fwd b s):GStep.fwd a s:=by
 cases s<;>first|trivial|exact Nat.le_trans h k
def zuE(w:World)(a:Nat)(t:ByteArray)(o:Outcome):GStep.fwd w (endWith w a t o):=by
 unfold endWith;dsimp only;repeat' split
 all_goals trivial
def zf5(a:Frame)(m:String)(w:World):GStep.fwd w (endThrow a m w):=Nat.le_refl _
def zf6(p:Program)(a:Frame)(v:Value)(w:World):GStep.fwd w (endPrinting p a v w):=by
 unfold endPrinting;dsimp only;repeat' split
 all_goals first|trivial|exact Nat.le_refl _
def ziO(p:Program)(a:Frame)(cs:List Frame)(d:Option Dying)(m:String)(w:World):GStep.fwd w (endFatal p a cs d m w):=by
 unfold endFatal;dsimp only;split
 ·exact ok_drawn (by assumption)
 all_goals trivial
def fwd_ite[Decidable c]{a b:GStep}(d:GStep.fwd w a)(e:GStep.fwd w b):GStep.fwd w (if c then a else b):=by split<;>assumption
def zt2(p:Program)(a:Frame)(d:Dying)(f:Fatal)(w:World):GStep.fwd w (writeOn p a d f w):=by
 unfold writeOn;simp only[Sem.runT_eq];split
 ·trivial
 split
 ·rename_i h;exact ok_drawn (congrArg Prod.fst h)
 .rename_i h;exact halt_drawn (congrArg Prod.fst h)
 all_goals trivial
def zcK(p:Program)(b:Bool)(a:Frame)(cs:List Frame)(d:Option Dying)(v:Value)(w:World):GStep.fwd w (doReturn p b a cs d v w):=by
 unfold doReturn;dsimp only;repeat' split
 all_goals first|trivial|exact Nat.le_refl _
def zj6(p:Program)(a:Frame)(cs:List Frame)(d:Option Dying)(v:Deferred)(w:World):GStep.fwd w (callDeferred p a cs d v w):=by
 unfold callDeferred;simp only[Sem.runT_eq];refine fwd_ite trivial ?_;rw[GStep.fwd_after];split
 all_goals first
  | trivial|(exact ok_drawn (by assumption))|(exact halt_drawn (by assumption))
  | (split<;>(exact ok_drawn (by assumption)))
  | (exact GStep.fwd_trans (halt_drawn (by assumption)) (ziO ..))
  | (exact GStep.fwd_trans (halt_drawn (by assumption)) (zf5 ..))
def zwO(p:Program)(b:Bool)(a:Frame)(cs:List Frame)(d:Option Dying)(w:World):GStep.fwd w (unwind p b a cs d w):=by
 unfold unwind;simp only[Sem.runT_eq];split
 ·rw[GStep.fwd_after];split
  ·exact ok_drawn (by assumption)
  trivial
 ·exact zj6 ..
 split
 ·trivial
 ·refine fwd_ite trivial ?_;split
  ·exact Nat.le_refl _
  split
  ·refine fwd_ite (Nat.le_refl _) ?_;split
   ·exact ok_drawn (by assumption)
   all_goals trivial
  split
  ·exact zf6 ..
  trivial
 split
 ·exact zcK ..
 rw[GStep.fwd_after];split
 ·exact GStep.fwd_trans (ok_drawn (by assumption)) (zcK ..)
 all_goals trivial
def zHO(p:Program)(a:Frame)(d:Dying)(w:World):GStep.fwd w (die p a d w):=by
 unfold die;simp only[Sem.runT_eq];split
 ·exact zt2 ..
 split
 ·exact fwd_ite (Nat.le_refl _) (zuE ..)
 split
 ·exact Nat.le_refl _
 .split
  ·exact ok_drawn (by assumption)
  trivial
 ·rw[GStep.fwd_after];split
  ·exact ok_drawn (by assumption)
  .exact ok_drawn (by assumption)
  .trivial
  ·exact GStep.fwd_trans (halt_drawn (by assumption)) (zf6 ..)
  trivial
 trivial
def zCH(p:Program)(a:Frame)(cs:List Frame)(d:Option Dying)(g:Nat)(w:World):GStep.fwd w (early p a cs d g w):=by
 unfold early;dsimp only
 repeat' split
 all_goals first|trivial|exact Nat.le_refl _|exact(ok_drawn (by assumption))|(rename_i e _ _ _ _;exact(ok_drawn e:))
def zhD(p:Program)(l:Bool)(b:Frame)(cs:List Frame)(d:Option Dying)(s:Sem Next)(w:World):GStep.fwd w (stepG.apply p l b cs d s w):=by
 unfold stepG.apply;have a:(if l=true then s.runT p w #[]else(s.run p w,#[])).1=s.run p w:=by split<;>simp[Sem.runT_eq]
 generalize (if l=true then s.runT p w #[]else(s.run p w,#[]))=x at a;obtain⟨r,es⟩:=x;dsimp only at a ⊢;rw[GStep.fwd_after];subst a;split
 all_goals first
  | trivial|(exact ok_drawn (by assumption))|(exact halt_drawn (by assumption))
  | (exact GStep.fwd_trans (halt_drawn (by assumption)) (ziO ..))
  | (exact GStep.fwd_trans (halt_drawn (by assumption)) (zf5 ..))
  | (exact GStep.fwd_trans (halt_drawn (by assumption)) (zCH ..))
  | (exact fwd_ite (GStep.fwd_trans (ok_drawn (by assumption)) (zf5 ..)) (ok_drawn (by assumption)))
  | (split<;>(exact ok_drawn (by assumption)))
def zvR(p:Program)(l:Bool)(a:Frame)(cs:List Frame)(d:Option Dying)(w:World):GStep.fwd w (stepG.oper p l a cs d w):=by
 unfold stepG.oper;split
 ·trivial
 split<;>exact zhD ..
def zEV(p:Program)(b l:Bool)(a:Frame)(cs:List Frame)(d:Option Dying)(w:World):GStep.fwd w (stepG.exec p b l a cs d w):=by
 unfold stepG.exec;simp only[Sem.runT_eq];split
 all_goals first
  | exact Nat.le_refl _
  | trivial
  | exact zhD ..
  | exact zvR ..
  | (split<;>first|(rw[GStep.fwd_after];split;(exact GStep.fwd_trans (ok_drawn (by assumption)) (zcK ..));trivial)|trivial|exact Nat.le_refl _|exact fwd_ite (Nat.le_refl _) trivial)
  | (rw[GStep.fwd_after];split
     · first|exact GStep.fwd_trans (ok_drawn (by assumption)) (zhD ..)|exact ok_drawn (by assumption)
     all_goals first|trivial|exact halt_drawn (by assumption))
  | skip
 .cases exitTo _ _
  .dsimp only[Option.elim];split<;>first|(rw[GStep.fwd_after];split;(exact GStep.fwd_trans (ok_drawn (by assumption)) (zcK ..));trivial)|trivial|exact Nat.le_refl _|exact fwd_ite (Nat.le_refl _) trivial
  exact Nat.le_refl _
 .cases gotoIn _ _
  .dsimp only[Option.elim];split<;>first|(rw[GStep.fwd_after];split;(exact GStep.fwd_trans (ok_drawn (by assumption)) (zcK ..));trivial)|trivial|exact Nat.le_refl _|exact fwd_ite (Nat.le_refl _) trivial
  exact Nat.le_refl _
 .cases Extern.next _
  .trivial
  exact zhD ..
 .refine fwd_ite (Nat.le_refl _) ?_;split
  ·exact ok_drawn (by assumption)
  trivial
 exact fwd_ite (zvR ..) (Nat.le_refl _)
def zzU(p:Program)(b:Bool)(g:Goroutine)(w:World)(l:Bool):GStep.fwd w (stepG p b g w l):=by
 unfold stepG;dsimp only;split
 ·exact zHO ..
 .exact zEV ..
 exact zwO ..
def Stepped.fwd(n:Nat):Stepped->Prop
 | .next m=>n<=m.world.drawn
 | .ended ..=>True
def Stepped.fwd_ite[Decidable c]{a b:Stepped}(d:Stepped.fwd n a)(e:Stepped.fwd n b):Stepped.fwd n (if c then a else b):=by split<;>assumption
def zvX(p:Program)(a:Array Goroutine)(rest:Rest)(w:World):Stepped.fwd w.drawn (look p a rest w):=by
 unfold look;dsimp only;split
 ·refine Stepped.fwd_ite trivial ?_;split
  ·trivial
  split
  ·rename_i h;exact(ok_drawn h:)
  all_goals trivial
 trivial
def zjT{rest:Rest}{cases:Array CommCase}(h:waitingAt rest cases w=some w'):w'.drawn=w.drawn:=by
 unfold waitingAt at h;split at h
 .split at h
  .cases h;rfl
  cases h
 cases h;rfl
def zlI(p:Program)(rest:Rest)(d:Array Goroutine)(i:Nat)(g:Goroutine)(cases:Array CommCase)(b:Bool)(c:CommShape)(w:World):Stepped.fwd w.drawn (communicate p rest d i g cases b c w).1:=by
 unfold communicate;dsimp only;split
 ·trivial
 split
 ·split
  ·split
   ·rename_i h;exact Nat.le_of_eq (zjT h).symm
   trivial
  exact Nat.le_refl _
 split
 ·trivial
 rename_i h;have a:=ok_drawn h;split
 ·split
  ·rename_i k;exact Nat.le_trans a (halt_drawn k:)
  trivial
 ·exact a
 .exact a
 .split
  ·exact a
  split
  ·rename_i k;exact Nat.le_trans a (ok_drawn k:)
  trivial
 ·exact a
 .exact a
 trivial
def zuF(w:World)(c:Nat):(drain w c).2.drawn=w.drawn:=by unfold drain;split<;>rfl
def ziG(m:Machine)(k:Nat)(t:Timer)(a b:Nat):(retime m k t a b).2.world.drawn=m.world.drawn:=by
 unfold retime;dsimp only;split
 ·exact zuF ..
 rfl
def zoK{m a:Machine}{b:TimerOp}(h:timerOp m b=.ok (v,a)):a.world.drawn=m.world.drawn:=by
 unfold timerOp at h;split at h
 .split at h
  .cases h;rfl
  split at h
  .split at h
   .cases h
   cases h;rfl
  cases h
 .unfold timerOp.named at h;split at h
  .have:=congrArg (fun x:Except Halt (Value×Machine)=>match x with|.ok y=>y.2.world.drawn|_=>0) h;dsimp only at this;rw[<-this];exact ziG ..
  cases h
 .split at h
  .rename_i m2 ho;have hm:m2.world.drawn=m.world.drawn:=by
    unfold timerOp.opened at ho;split at ho
    .split at ho
     .cases ho;rfl
     cases ho
    cases ho;rfl
   unfold timerOp.named at h;split at h
   .have:=congrArg (fun x:Except Halt (Value×Machine)=>match x with|.ok y=>y.2.world.drawn|_=>0) h;dsimp only at this;rw[<-this,ziG];exact hm
   cases h
  cases h
 cases h;rfl
def Stepped.fwd_le{a b:Nat}(h:a<=b){s:Stepped}(k:Stepped.fwd b s):Stepped.fwd a s:=by cases s;exact Nat.le_trans h k;trivial
def zDW(p:Program)(m:Machine)(i:Nat)(l:Bool):Stepped.fwd m.world.drawn (runT p m i l).1:=by
 unfold runT;dsimp only;have a:=zzU p (i==0) (m.gs.swapAt! i { (default:Goroutine)with status:=.finished}).1 m.world l;generalize stepG p (i==0) (m.gs.swapAt! i { (default:Goroutine)with status:=.finished}).1 m.world l=s at a;cases s
 case go=>exact a
 case spawn=>exact a
 case ended=>trivial
 case comm=>
  dsimp only[GStep.fwd]at a ⊢;exact Stepped.fwd_le a (zlI ..)
 case count=>exact Stepped.fwd_ite trivial a
 case alone=>exact a
 case collect=>
  exact Stepped.fwd_le a (zvX ..)
 case watch=>exact a
 case newcoro=>exact a
 case coroswitch=>
  dsimp only[GStep.fwd]at a ⊢;split
  ·exact a
  .split
   ·rename_i h;cases h;exact a
   trivial
  trivial
 dsimp only[GStep.fwd]at a ⊢;split
 ·rename_i h;exact Nat.le_trans a (Nat.le_of_eq (zoK h).symm)
 .split
  ·rename_i h;cases h;exact a
  trivial
 all_goals trivial
def zzX(p:Program)(m:Machine)(k:Nat):Stepped.fwd m.world.drawn (serve p m k):=by
 unfold serve;split
 ·trivial
 ·exact Nat.le_refl _
 dsimp only;split
 ·trivial
 exact Nat.le_refl _
def Move.fwd(n:Nat):Move->Prop
 | .goroutine m _=>n<=m.world.drawn
 | .machine s _=>Stepped.fwd n s
def Move.fwd_ite[Decidable c]{a b:Move}(d:Move.fwd n a)(e:Move.fwd n b):Move.fwd n (if c then a else b):=by split<;>assumption
def zD1(p:Program)(m:Machine):Move.fwd m.world.drawn (askOn p m):=by
 unfold askOn;dsimp only;split
 ·trivial
 rename_i h;have a:=ok_drawn h;refine Move.fwd_ite (Stepped.fwd_le a (zzX p { m with world:=_} _)) ?_;split
 ·split
  ·exact a
  refine Move.fwd_ite a ?_;split<;>trivial
 split
 ·split
  ·trivial
  rename_i b;refine Move.fwd_ite (Nat.le_trans a (ok_drawn b:)) ?_;split
  ·trivial
  rename_i d;exact Nat.le_trans a (Nat.le_trans (ok_drawn b:) (ok_drawn d:))
 split
 ·trivial
 ·rename_i k;have c:=Nat.le_trans a (ok_drawn k);split
  ·trivial
  rename_i b;refine Move.fwd_ite (Nat.le_trans c (ok_drawn b:)) ?_;split
  ·trivial
  rename_i d;exact Nat.le_trans c (Nat.le_trans (ok_drawn b:) (ok_drawn d:))
 .rename_i k;exact Nat.le_trans a (ok_drawn k:)
 rename_i k;have c:=Nat.le_trans a (ok_drawn k);split
 ·trivial
 rename_i b;refine Move.fwd_ite (Nat.le_trans c (ok_drawn b:)) ?_;split
 ·trivial
 rename_i d;exact Nat.le_trans c (Nat.le_trans (ok_drawn b:) (ok_drawn d:))
def zEG(p:Program)(m:Machine):Move.fwd m.world.drawn (move p m):=by
 have d:∀a:Machine,m.world.drawn<=a.world.drawn->Move.fwd m.world.drawn (ask p a):=by
  intro a b;have hm:∀{m3:Machine},a.world.drawn<=m3.world.drawn->Move.fwd m.world.drawn (askOn p m3):=by
   intro m3 c;have:=zD1 p m3;revert this;cases askOn p m3
   .exact fun k=>Nat.le_trans b (Nat.le_trans c k)
   exact fun k=>Stepped.fwd_le (Nat.le_trans b c) k
  unfold ask;split
  ·split
   ·trivial
   ·rename_i wn h;have e:=zvX p a.gs a.rest wn;generalize look p a.gs a.rest wn=y at e;cases y
    .exact hm (Nat.le_trans (ok_drawn h) e)
    trivial
   rename_i h;exact hm (m3:={ a with world:=_}) (ok_drawn h)
  exact hm (Nat.le_refl _)
 unfold move;split
 ·exact Move.fwd_ite (Nat.le_refl _) trivial
 split
 ·exact Move.fwd_ite (Nat.le_refl _) (d _ (Nat.le_refl _))
 exact d _ (Nat.le_refl _)
def zDR(p:Program)(m:Machine):Stepped.fwd m.world.drawn (step p m):=by
 have h:=zEG p m;unfold step stepT;revert h;cases move p m
 .exact fun k=>Stepped.fwd_le k (zDW ..)
 exact fun k=>k
def Steps.drawn{P:Program}{m c:Machine}(h:Steps P m c):m.world.drawn<=c.world.drawn:=by
 obtain⟨n,a⟩:=h
 induction n generalizing m with
 | zero=>simp[runN]at a;rw[a];exact Nat.le_refl _
 | succ n ih=>
  simp only[runN]at a;have b:=zDR P m;cases h1:step P m with
  | next m1=>rw[h1]at a b;exact Nat.le_trans b (ih a)
  | ended o w=>rw[h1]at a;cases a
def Calls.drawn{P:Program}{f:FuncId}{args:Array Value}{w:World}{R:Ending->World->Prop}(h:Calls P f args w R) :Calls P f args w fun e w'=>R e w'/\(e≠.outgrown->w.drawn<=w'.drawn):=by
 intro cs;obtain⟨e,w',b,d,a,i,j⟩:=h cs;refine⟨e,w',b,⟨d,?_⟩,a,i,j⟩;intro g;cases e with
 | returned v=>exact Steps.drawn a
 | panicked c=>exact Steps.drawn a
 | outgrown=>exact absurd rfl g
end Go.Proofs.YtgboedffaangeaaGreatDoor
/- -/
namespace Go.Proofs.YtgboedffaangeaaGreatDoor.Z
section
variable{R:Type}[DecidableEq R]{V:R->Prop}{cmp:R->R->Int}
def mg(acc:Int):List (R×Int)->List (R×Int)
 | []=>[]
 | [p]=>[(p.1,acc+p.2)]
 | p::q::t=>if p.1=q.1 then mg (acc+p.2) (q::t)else(p.1,acc+p.2)::mg 0 (q::t)
def zBK:∀(t:List (R×Int))(p:R×Int)(a:Int)(r:R),sumW (mg a (p::t)) r=sumW (p::t) r+if p.1=r then a else 0
 | [],p,a,r=>by
  simp only[mg,sumW];split<;>omega
 | q::t,p,a,r=>by
  simp only[mg];by_cases h:p.1=q.1
  .rw[if_pos h,zBK t q (a+p.2) r]
   conv=>rhs;rw[sumW]
   rw[h];by_cases b:q.1=r
   .rw[if_pos b,if_pos b,if_pos b];omega
   .rw[if_neg b,if_neg b,if_neg b];omega
  .rw[if_neg h,sumW,zBK t q 0 r]
   conv=>rhs;rw[sumW]
   by_cases hp:p.1=r
   .rw[if_pos hp,if_pos hp,if_pos hp];split<;>omega
   .rw[if_neg hp,if_neg hp,if_neg hp];split<;>omega
def zvW:∀(t:List (R×Int))(p:R×Int)(a:Int)(r:R),has (mg a (p::t)) r↔has (p::t) r
 | [],p,a,r=>by simp[mg,has]
 | q::t,p,a,r=>by
  have b:∀(x:R×Int)(l:List (R×Int)),has (x::l) r↔x.1=r\/has l r:=fun x l=>by simp[has]
  simp only[mg];by_cases h:p.1=q.1
  .rw[if_pos h,zvW t q _ r,b p (q::t),b q t,h]
   constructor
   ·exact .inr
   .rintro(c|c)
    .exact .inl c
    .exact c
  .rw[if_neg h,b,zvW t q _ r,<-b p (q::t)]
def zBM{l:List (R×Int)}{a:Int}{x:R×Int}(h:x∈mg a l):∃y∈l,y.1=x.1:=by
 cases l with
 | nil=>simp[mg]at h
 | cons p t=>exact(zvW t p a x.1).1 ⟨x,h,rfl⟩
def zIT{l:List (R×Int)}(b:AllV V l)(a:Int):AllV V (mg a l):=fun x c=>by
 obtain⟨y,d,e⟩:=zBM c;rw[<-e];exact b y d
def wsrt(cmp:R->R->Int)(ps:List (R×Int)):Prop:=ps.Pairwise fun a b=>cmp a.1 b.1<=0
def zBL(d:TO V cmp):∀(l:List (R×Int))(c:Int),AllV V l->wsrt cmp l->srt cmp (mg c l)
 | [],_,_,_=>by simp[mg,srt]
 | [p],_,_,_=>by simp[mg,srt]
 | p::q::t,c,hV,hw=>by
  have b:AllV V (q::t):=fun x k=>hV x (by simp[k]);obtain⟨m,i⟩:=List.pairwise_cons.1 hw;simp only[mg];by_cases h:p.1=q.1
  .rw[if_pos h];exact zBL d (q::t) _ b i
  .rw[if_neg h]
   refine List.pairwise_cons.2 ⟨fun x k=>?_,zBL d (q::t) _ b i⟩;obtain⟨y,g,e⟩:=zBM k;have hp:=hV p (by simp);have j:=hV q (by simp);have s:=m q (by simp);have u:cmp p.1 q.1≠0:=fun r=>h ((d.zero hp j).1 r);rw[<-e];show cmp p.1 y.1<0;have a:cmp p.1 q.1<0:=by omega
   rcases List.mem_cons.1 g with rfl|g
   .exact a
   .have f:=b y (by simp[g])
    have v:=(List.pairwise_cons.1 i).1 y g;by_cases n:cmp q.1 y.1=0
    .rw[<-(d.zero j f).1 n];exact a
    .exact d.trans hp j f a (by omega)
def mg_parts(d:TO V cmp){ps a:List (R×Int)}(hp:a.Perm ps)(f:AllV V ps)(g:wsrt cmp a):mg 0 a=parts cmp ps:=by
 have b:AllV V a:=fun x c=>f x (hp.mem_iff.1 c);refine ext d (zBL d a 0 b g) (zeE d f).1 (zIT b 0) (zeE d f).2 (fun r=>?_) (fun r=>?_)
 .rw[parts_has];cases a with
  | nil=>rw[List.nil_perm.1 hp];simp[mg]
  | cons p t=>
   rw[zvW];constructor
   ·rintro⟨x,c,e⟩;exact⟨x,hp.mem_iff.1 c,e⟩
   rintro⟨x,c,e⟩;exact⟨x,hp.mem_iff.2 c,e⟩
 rw[zeZ,<-zzR hp];cases a with
 | nil=>simp[mg]
 | cons p t=>rw[zBK];split<;>omega
end
end Go.Proofs.YtgboedffaangeaaGreatDoor.Z
