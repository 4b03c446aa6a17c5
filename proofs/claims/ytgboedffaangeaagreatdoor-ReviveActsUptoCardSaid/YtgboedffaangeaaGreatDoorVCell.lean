/- -/
import Derived.Lib.ValidLaws
import Derived.Lib.DecodeNEq
import Derived.Test.YtgboedffaangeaaGreatDoorShelf1
import Derived.Test.YtgboedffaangeaaGreatDoorDeep
import Derived.Lib.Bytealg
import Derived.Lib.LaidU8T
import Derived.PinnedBridge
import Derived.Lay
import Derived.Handed
import Derived.OpenVars
import Derived.Shelf.Vars
import Derived.Deep.MidRow
import Derived.Lib.SmallJoins
import Derived.RangeFuncNested
import Derived.RangeFuncBound
import Derived.RangeFuncCalls
import Derived.RangeFuncLeaves
import Derived.Shelf.Abstract
import Derived.Shelf.RegionOpen
import Derived.OwnWalkIn
import Derived.TacticsInMore
import Derived.LoopNIn
import Derived.LoopIn
import Derived.Stop.RegionWithIn
import Derived.Test.YtgboedffaangeaaGreatDoorVWire
import Derived.Test.YtgboedffaangeaaGreatDoorShelf5
import Derived.Shelf.Strings.SlTrimAscii
import Derived.Laws.BitsAll
import Derived.Lib.SlBytesConst
set_option maxHeartbeats 8000000
set_option linter.all false
set_option maxRecDepth 1000000
namespace Go.Proofs.YtgboedffaangeaaGreatDoor
open _root_.Go.Proofs.Tryz
section
open Go.Lib
variable {b:Nat} {w w':World}
def zwC(a:b<256):b/64=2↔¬(b<128\/191<b):=by omega
def zz0(c:UInt8)(r:Bs)(h:194<=c.toNat/\c.toNat<224)(ih:∀a:Bs,a.length<=r.length->validD a=utf8 a):validD (c::r)=utf8 (c::r):=by
 have g:zc3 c.toNat=some (1,c.toNat%32,128):=by unfold zc3;rw[Ab (by omega)]
 rw[validD_lead _ (by simp) (by simp;omega),zdN (by omega) g];simp only[BJ,BK];rw[firstT_C2 h];rw[show accLo (2/16)=128 from by decide,show accHi (2/16)=191 from by decide,show(2%8:Nat)=2 from rfl];unfold checkN;rw[Ab rfl]
 match r with
 | []=>simp[zc1]
 | b::a=>
  have e:b.toNat<256:=b.toNat_lt;simp only[BJ,Ap,zc1];by_cases d:b.toNat/64=2
  .have f:=(zwC e).1 d;rw[Aa (by omega),Ab d];simp only[C4,Bz];rw[show runeOK 128 (64*(c.toNat%32)+b.toNat%64)=true from by unfold runeOK;simp;omega,Bool.true_and];exact ih a (by simp)
  have f:=fun h=>d ((zwC e).2 h);rw[Ab (by omega),Aa d]
def zfY(c:UInt8)(r:Bs)(f e i:Nat)(h:224<=c.toNat/\c.toNat<240)(j:firstT c.toNat=i)(t:i%8=3)(p:accLo (i/16)=f)(k:accHi (i/16)=e)(C:(f=128/\e=191/\c.toNat≠224/\c.toNat≠237)\/(f=160/\e=191/\c.toNat=224)\/(f=128/\e=159/\c.toNat=237))(ih:∀g:Bs,g.length<=r.length->validD g=utf8 g):validD (c::r)=utf8 (c::r):=by
 have u:zc3 c.toNat=some (2,c.toNat%16,2048):=by unfold zc3;rw[Aa (by omega),Ab (by omega)]
 rw[validD_lead _ (by simp) (by simp;omega),zdN (by omega) u];simp only[BJ,BK];rw[j,p,k,t];unfold checkN;rw[Aa (by decide),Ab rfl]
 match r with
 | []=>simp[zc1]
 | [b]=>
  simp only[zc1,Ap,Bh];rw[Ab (.inl (by omega))];by_cases a:b.toNat/64=2
  .rw[Ab a]
  rw[Aa a]
 | b::d::g=>
  have w:b.toNat<256:=b.toNat_lt;have A:d.toNat<256:=d.toNat_lt;simp only[BJ,BK,Ap,zc1];by_cases a:b.toNat/64=2
  .by_cases s:d.toNat/64=2
   .rw[Ab a,Ab s];simp only[C4,Bz];by_cases v:b.toNat<f\/e<b.toNat
    .rw[Ab (by omega)];rw[show runeOK 2048 (64*(64*(c.toNat%16)+b.toNat%64)+d.toNat%64)=false from by unfold runeOK;simp;omega,Bool.false_and]
    rw[Aa (by omega)];rw[show runeOK 2048 (64*(64*(c.toNat%16)+b.toNat%64)+d.toNat%64)=true from by unfold runeOK;simp;omega,Bool.true_and];exact ih g (by simp;omega)
   rw[Ab a,Aa s,Ab (by omega)]
  rw[Aa a,Ab (by omega)]
def zhF(c:UInt8)(r:Bs)(i f k:Nat)(h:240<=c.toNat/\c.toNat<245)(p:firstT c.toNat=k)(v:k%8=4)(t:accLo (k/16)=i)(s:accHi (k/16)=f)(G:(i=128/\f=191/\c.toNat≠240/\c.toNat≠244)\/(i=144/\f=191/\c.toNat=240)\/(i=128/\f=143/\c.toNat=244))(ih:∀j:Bs,j.length<=r.length->validD j=utf8 j):validD (c::r)=utf8 (c::r):=by
 have w:zc3 c.toNat=some (3,c.toNat%8,65536):=by unfold zc3;rw[Aa (by omega),Aa (by omega),Ab (by omega)]
 rw[validD_lead _ (by simp) (by simp;omega),zdN (by omega) w];simp only[BJ,BK];rw[p,t,s,v];unfold checkN;rw[Aa (by decide),Aa (by decide),Ab rfl]
 match r with
 | []=>simp[zc1]
 | [b]=>
  simp only[zc1,Ap,Bh];rw[Ab (.inl (by omega))];by_cases a:b.toNat/64=2
  .rw[Ab a]
  rw[Aa a]
 | [b,d]=>
  simp only[zc1,Ap,Bh];rw[Ab (.inl (by omega))];by_cases a:b.toNat/64=2
  .by_cases e:d.toNat/64=2
   .rw[Ab a,Ab e]
   rw[Ab a,Aa e]
  rw[Aa a]
 | b::d::g::j=>
  have C:b.toNat<256:=b.toNat_lt;have D:d.toNat<256:=d.toNat_lt;have E:g.toNat<256:=g.toNat_lt;simp only[BJ,BK,Ap,zc1];by_cases a:b.toNat/64=2
  .by_cases e:d.toNat/64=2
   .by_cases u:g.toNat/64=2
    .rw[Ab a,Ab e,Ab u];simp only[C4,Bz];by_cases A:b.toNat<i\/f<b.toNat
     .rw[Ab (by omega)];rw[show runeOK 65536 (64*(64*(64*(c.toNat%8)+b.toNat%64)+d.toNat%64)+g.toNat%64)=false from by unfold runeOK;simp;omega,Bool.false_and]
     rw[Aa (by omega)];rw[show runeOK 65536 (64*(64*(64*(c.toNat%8)+b.toNat%64)+d.toNat%64)+g.toNat%64)=true from by unfold runeOK;simp;omega,Bool.true_and];exact ih j (by simp;omega)
    rw[Ab a,Ab e,Aa u,Ab (by omega)]
   rw[Ab a,Aa e,Ab (by omega)]
  rw[Aa a,Ab (by omega)]
def zgO:∀(k:Nat)(l:Bs),l.length<=k->validD l=utf8 l
 | _,[],_=>by rw[validD_nil,zjA]
 | 0,c::r,h=>by simp at h
 | k+1,c::r,h=>by
  have s:r.length<=k:=by simpa using h
  have ih:∀d:Bs,d.length<=r.length->validD d=utf8 d:=fun d t=>zgO k d (by omega);have p:c.toNat<256:=c.toNat_lt;by_cases g:c.toNat<128
  .rw[validD_cons c r g,zv6 g];exact ih r l_
  .by_cases i:c.toNat<194
   .rw[validD_lead _ (by simp) (by simp;omega),zjW (by omega) (by unfold zc3;rw[Aa (by omega),Aa (by omega),Aa (by omega)])]
    simp only[BJ];rw[show firstT c.toNat=241 from by simp[firstT,show ¬c.toNat<128 by omega,i]]
    rfl
   .by_cases j:c.toNat<224
    .exact zz0 c r ⟨by omega,j⟩ ih
    .by_cases e:c.toNat<240
     .by_cases a:c.toNat=224
      .exact zfY c r 160 191 19 ⟨by omega,e⟩ (firstT_E0 a) rfl (by decide) (by decide) (.inr (.inl ⟨rfl,rfl,a⟩)) ih
      .by_cases b:c.toNat=237
       .exact zfY c r 128 159 35 ⟨by omega,e⟩ (firstT_ED b) rfl (by decide) (by decide) (.inr (.inr ⟨rfl,rfl,b⟩)) ih
       .exact zfY c r 128 191 3 ⟨by omega,e⟩ (firstT_E1 (by omega)) rfl (by decide) (by decide) (.inl ⟨rfl,rfl,a,b⟩) ih
     .by_cases f:c.toNat<245
      .by_cases a:c.toNat=240
       .exact zhF c r 144 191 52 ⟨by omega,f⟩ (firstT_F0 a) rfl (by decide) (by decide) (.inr (.inl ⟨rfl,rfl,a⟩)) ih
       .by_cases b:c.toNat=244
        .exact zhF c r 128 143 68 ⟨by omega,f⟩ (firstT_F4 b) rfl (by decide) (by decide) (.inr (.inr ⟨rfl,rfl,b⟩)) ih
        .exact zhF c r 128 191 4 ⟨by omega,f⟩ (firstT_F1 (by omega)) rfl (by decide) (by decide) (.inl ⟨rfl,rfl,a,b⟩) ih
      .rw[validD_lead _ (by simp) (by simp;omega),zjW (by omega) (by unfold zc3;rw[Aa (by omega),Aa (by omega),Aa (by omega)])]
       simp only[BJ];rw[show firstT c.toNat=241 from by unfold firstT;rw[Aa (by omega),Aa (by omega),Aa (by omega),Aa (by omega),Aa (by omega),Aa (by omega),Aa (by omega),Aa (by omega),Aa (by omega),Aa (by omega)]]
       rfl
def zwN(l:Bs):validD l=utf8 l:=zgO l.length l l_
/- -/
open Go.RowKit Go.Shelf
def Tabs(w:World):Prop:=Lib.Utf8Tabs (Tryz.laysValid_ren.g 3) (Tryz.laysValid_ren.g 4) w
def Tabs.later(h:Tabs w)(a:Lz w w'):Tabs w':=Utf8Tabs_below h a
def RdS.dl{s:ByteArray}{l:Bs}(h:RdS s l):s.data.toList=l:=by rw[h.eq]
def zrE(s:ByteArray)(l:Bs)(w:World)(h:RdS s l)(a:Tabs w) :Calls prog 225 #[.string s] w fun e w'=>e=.returned (.bool (utf8 l))/\Lz w w':=by
 have c:Calls prog 225 #[.string s] w _:=Any.utf8_ValidString Tryz.laysValid s w (by rw[h.eq];have:=h.small;simp[ByteArray.size];omega) a;rw[h.dl,zwN]at c;exact c
def zkY(s t:ByteArray)(l m:Bs)(w:World)(a:RdS s l)(b:RdS t m) :Calls prog 156 #[.string s,.string t] w fun e w'=>e=.returned (.int .i64 (Lib.compareBytes l m))/\w'=w:=by
 have c:Calls prog 156 #[.string s,.string t] w _:=Any.strings_Compare Tryz.laysCompare s t w;rw[a.dl,b.dl]at c;exact c
def isOfC(kind:Int)(num:Nat)(l:Bs):Bool :=
 if kind=3 then decide (num=0)else if kind=4 then decide (num=0)&&utf8 l else if kind=2 then l.isEmpty&&decide (num<=1)else l.isEmpty
def zCP(kind:Int)(p:0<=kind/\kind<=5)(num:Nat)(s:ByteArray)(l:Bs)(w:World)(h:RdS s l)(j:Tabs w) :Calls prog 193 #[.int .i64 kind,cellV num s] w fun e w'=>e=.returned (.bool (isOfC kind num l))/\Lz w w':=by
 have b:s.toList.isEmpty=l.isEmpty:=by rw[h.toList]
 have a:Lz w (w.alloc (.cells #[.int .u64 (num:Int),.string s] 65)):=(Ac _ _).alloc l_ _;unfold cellV;obtain rfl|rfl|rfl|rfl|rfl|rfl:kind=0\/kind=1\/kind=2\/kind=3\/kind=4\/kind=5:=by omega
 .rw[show isOfC 0 num l=l.isEmpty from rfl];cases hl:l.isEmpty with
  | true=>
   rw[hl]at b;go_enter func193,ntmps193;go_wp2;go_ret;exact⟨rfl,a⟩
  | false=>
   rw[hl]at b;go_enter func193,ntmps193;go_wp2;go_ret;exact⟨rfl,a⟩
 .rw[show isOfC 1 num l=l.isEmpty from rfl];cases hl:l.isEmpty with
  | true=>
   rw[hl]at b;go_enter func193,ntmps193;go_wp2;go_ret;exact⟨rfl,a⟩
  | false=>
   rw[hl]at b;go_enter func193,ntmps193;go_wp2;go_ret;exact⟨rfl,a⟩
 .rw[show isOfC 2 num l=(l.isEmpty&&decide (num<=1))from rfl];cases hl:l.isEmpty with
  | true=>
   rw[hl]at b;by_cases d:num<=1
   .have i:decide ((num:Int)<=1)=true:=Ah (by omega);rw[Ah d];go_enter func193,ntmps193;go_wp2;go_ret;exact⟨rfl,a⟩
   have i:decide ((num:Int)<=1)=false:=Af (by omega);rw[Af d];go_enter func193,ntmps193;go_wp2;go_ret;exact⟨rfl,a⟩
  | false=>
   rw[hl]at b;go_enter func193,ntmps193;go_wp2;go_ret;exact⟨rfl,a⟩
 .rw[show isOfC 3 num l=decide (num=0)from rfl];by_cases d:num=0
  .subst d;go_enter func193,ntmps193;go_wp2;go_ret;exact⟨rfl,a⟩
  have i:((num:Int)==0)=false:=by simp;omega
  rw[Af d];go_enter func193,ntmps193;go_wp2;go_ret;exact⟨rfl,a⟩
 .rw[show isOfC 4 num l=(decide (num=0)&&utf8 l)from rfl];by_cases d:num=0
  .subst d;rw[show decide ((0:Nat)=0)=true from rfl,Bool.true_and];have c:=zrE s l _ h (j.later a);cases hu:utf8 l with
   | true=>
    rw[hu]at c;go_enter func193,ntmps193;go_wp2_with fail;refine c.mono ?_;rintro e k⟨rfl,g⟩;have f:=a.trans (g.mono a.size);clear g a hu;go_wp2;go_ret;exact⟨rfl,f⟩
   | false=>
    rw[hu]at c;go_enter func193,ntmps193;go_wp2_with fail;refine c.mono ?_;rintro e k⟨rfl,g⟩;have f:=a.trans (g.mono a.size);clear g a hu;go_wp2;go_ret;exact⟨rfl,f⟩
  have i:((num:Int)==0)=false:=by simp;omega
  rw[Af d];go_enter func193,ntmps193;go_wp2;go_ret;exact⟨rfl,a⟩
 rw[show isOfC 5 num l=l.isEmpty from rfl];cases hl:l.isEmpty with
 | true=>
  rw[hl]at b;go_enter func193,ntmps193;go_wp2;go_ret;exact⟨rfl,a⟩
 | false=>
  rw[hl]at b;go_enter func193,ntmps193;go_wp2;go_ret;exact⟨rfl,a⟩
def zgI(kind:Int)(num:Nat)(l:Bs)(b:0<=kind/\kind<=5):checkC kind num l=if isOfC kind num l=true then(if 256<l.length then 7 else 0)else 11:=by
 unfold checkC;rw[Aa (by omega)];obtain rfl|rfl|rfl|rfl|rfl|rfl:kind=0\/kind=1\/kind=2\/kind=3\/kind=4\/kind=5:=by omega
 .rw[show isOfC 0 num l=l.isEmpty from rfl];cases l<;>simp
 .rw[show isOfC 1 num l=l.isEmpty from rfl];cases l<;>simp
 .rw[show isOfC 2 num l=(l.isEmpty&&decide (num<=1))from rfl];cases l with
  | nil=>by_cases h:num<=1<;>simp[h]<;>omega
  | cons a r=>simp
 .rw[show isOfC 3 num l=decide (num=0)from rfl];by_cases h:num=0<;>simp[h]
 .rw[show isOfC 4 num l=(decide (num=0)&&utf8 l)from rfl];by_cases h:num=0<;>cases hu:utf8 l<;>simp[h]
 rw[show isOfC 5 num l=l.isEmpty from rfl];cases l<;>simp
def zcN:Nat:=max (Tryz.laysValid_ren.g 3) (Tryz.laysValid_ren.g 4)+1
def zoL(h:Tabs w):zcN<=w.heap.size:=by
 have a:=AI w _ (h.1 0 (by omega));have b:=AI w _ (h.2 0 (by omega)).1;simp only at a b;unfold zcN;omega
def zgS(h:Tabs w)(a:∀j,j<zcN->w'.heap[j]?=w.heap[j]?):Tabs w':=by
 have e:Tryz.laysValid_ren.g 3<zcN:=by unfold zcN;omega
 have b:Tryz.laysValid_ren.g 4<zcN:=by unfold zcN;omega
 exact⟨fun c f=>(Bi (a _ e)).trans (h.1 c f),fun i d=>⟨(Bi (a _ b)).trans (h.2 i d).1,(Bi (a _ b)).trans (h.2 i d).2⟩⟩
def zIX{o:Obj}(h:w.heap[b]?=some o)(d:Lz w w'):w'.heap[b]?=some o:=by
 have c:b<w.heap.size:=by
  rcases Cu b w.heap.size with a|a
  .exact a
  rw[Array.getElem?_eq_none a]at h;cases h
 exact(d.block b c).trans h
def new1(w:World)(x:Obj):(w.alloc x).heap.size=w.heap.size+1/\(w.alloc x).heap[w.heap.size]?=some x/\Lz w (w.alloc x) :=
 ⟨by simp,AB _ _,(Ac _ w).alloc l_ _⟩
def zcV(kind:Int)(num:Nat)(s:ByteArray)(l:Bs)(w:World)(h:RdS s l)(G:Tabs w) :Calls prog 150 #[.int .i64 kind,cellV num s] w fun e w'=>e=.returned (.int .i64 (checkC kind num l:Nat))/\Lz w w':=by
 obtain⟨C,f,c⟩:=new1 w (.cells #[.int .u64 (num:Int),.string s] 65);obtain⟨r,a⟩:=nm_ (w.alloc (.cells #[.int .u64 (num:Int),.string s] 65));rw[<-a]at C f c;have D:=za2 (i:=0) f rfl;have E:=za2 (i:=1) f rfl;have H:∀n u,cellV n u=.agg #[.int .u64 (n:Int),.string u]:=fun _ _=>rfl;have v:=h.len;by_cases j:0<=kind/\kind<=5
 .have b:=zgI kind num l j;have t:=zCP kind j num s l r h (G.later c);go_enter func150,ntmps150;go_wp2_with fail;rw[<-a];refine(zlX kind r).mono ?_;rintro e J⟨rfl,rfl⟩;rw[Ah j];clear a;go_wp2_with fail;refine t.mono ?_;rintro e M⟨rfl,p⟩;have k:=h_ (c.trans (p.mono c.size));have A:=(p.block _ (by omega)).trans f;have L:=za2 (i:=1) A rfl;clear p f c D E t A;cases hi:isOfC kind num l with
  | false=>
   rw[hi]at b;have d:=h_ b;clear hi b;go_wp2;go_ret;exact⟨by rw[d.o];rfl,k.o⟩
  | true=>
   rw[hi]at b;by_cases g:256<l.length
   .have I:decide ((l.length:Int)>256)=true:=Ah (by omega);rw[Ab rfl,Ab g]at b;have d:=h_ b;clear hi b g;go_wp2;go_ret;exact⟨by rw[d.o];rfl,k.o⟩
   have I:decide ((l.length:Int)>256)=false:=Af (by omega);rw[Ab rfl,Aa g]at b;have d:=h_ b;clear hi b g;go_wp2;go_ret;exact⟨by rw[d.o];rfl,k.o⟩
 rw[show checkC kind num l=10 from by unfold checkC;rw[Ab (by omega)]];go_enter func150,ntmps150;go_wp2_with fail;rw[<-a];refine(zlX kind r).mono ?_;rintro e J⟨rfl,rfl⟩;rw[Af j];clear a;go_wp2;go_ret;exact⟨rfl,c⟩
/- -/
def zd2:∀(l m:Bs),Lib.compareBytes l m=if Op.bytesLess l m=true then -1 else if Op.bytesLess m l=true then 1 else 0
 | [],[]=>by simp[Lib.compareBytes,Op.bytesLess]
 | [],_::_=>by simp[Lib.compareBytes,Op.bytesLess]
 | _::_,[]=>by simp[Lib.compareBytes,Op.bytesLess]
 | a::r,b::t=>by
  have ih:=zd2 r t;unfold Lib.compareBytes Op.bytesLess;by_cases c:a<b
  .have d:¬b<a:=by simp only[UInt8.lt_iff_toNat_lt]at *;omega
   simp[c,d]
  .by_cases d:b<a
   .have f:a≠b:=fun e=>by subst e;exact c d
    simp[c,d,f]
   .have e:a=b:=by
     have f:¬a.toNat<b.toNat:=by rw[<-UInt8.lt_iff_toNat_lt];exact c
     have g:¬b.toNat<a.toNat:=by rw[<-UInt8.lt_iff_toNat_lt];exact d
     exact UInt8.toNat_inj.1 (by omega)
    subst e;simp[c,ih]
def zf0{c:Array Value}{t:TypeId}{i:Nat}{u:Value}(h:w.heap[b]?=some (.cells c t (0,0)))(f:c[i]?=some u)(a:Ord.GW w.drew):a.val.cell? ⟨b,i,none⟩=some u:=by
 have e:b<w.heap.size:=by
  rcases Cu b w.heap.size with d|d
  .exact d
  rw[Array.getElem?_eq_none d]at h;cases h
 exact za2 ((a.grew.block b e).trans h) f
section
variable{x y:Nat}{l m:Bs}
def zfK{kind:Int}(a:checkC kind x l=0)(b:checkC kind y m=0):cmpC kind x l y m=if aheadK kind x l y m=true then -1 else if aheadK kind y m x l=true then 1 else 0:=by
 unfold cmpC;rw[Aa (by simp[a,b])]
def zGD(a:checkC 0 x l=0)(b:checkC 0 y m=0):cmpC 0 x l y m=ordZ (wrap64 (x:Int)) (wrap64 (y:Int)):=by
 rw[zfK a b];simp[aheadK,ordZ]
def zGC(a:checkC 1 x l=0)(b:checkC 1 y m=0):cmpC 1 x l y m=ordZ (x:Int) (y:Int):=by
 rw[zfK a b];simp[aheadK,ordZ]
def zGB(a:checkC 2 x l=0)(b:checkC 2 y m=0):cmpC 2 x l y m=ordZ (x:Int) (y:Int):=by
 rw[zfK a b];simp[aheadK,ordZ]
def zGA(a:checkC 3 x l=0)(b:checkC 3 y m=0):cmpC 3 x l y m=Lib.compareBytes l m:=by
 rw[zfK a b,zd2];rfl
def zG9(a:checkC 4 x l=0)(b:checkC 4 y m=0):cmpC 4 x l y m=Lib.compareBytes l m:=by
 rw[zfK a b,zd2];rfl
def zG8(a:checkC 5 x l=0)(b:checkC 5 y m=0):cmpC 5 x l y m=ordZ (tkey x+9223372036854775808) (tkey y+9223372036854775808):=by
 rw[zfK a b];simp[aheadK,ordZ]
end
def zsJ(kind:Int)(x y:Nat)(hx:x<18446744073709551616)(hy:y<18446744073709551616)(s t:ByteArray)(l m:Bs)(w:World)(hs:RdS s l)(ht:RdS t m)(hT:Tabs w) :Calls prog 104 #[.int .i64 kind,cellV x s,cellV y t] w fun e w'=>e=.returned (.int .i64 (cmpC kind x l y m))/\Lz w w':=by
 obtain⟨N0,D,I,Z⟩:=new2 w (.cells #[.int .u64 (x:Int),.string s] 65) (.cells #[.int .u64 (y:Int),.string t] 65);obtain⟨w0,g⟩:=nm_ ((w.alloc (.cells #[.int .u64 (x:Int),.string s] 65)).alloc (.cells #[.int .u64 (y:Int),.string t] 65));rw[<-g]at N0 D I Z;have T:=h_ Z;have a0:=za2 (i:=0) D rfl;have a1:=za2 (i:=1) D rfl;have E:=zcV kind x s l w0 hs (hT.later Z);have j:=fun(H:World)(h1:Lz w0 H)=>zcV kind y t m H ht ((hT.later Z).later h1);have az:∀n u,cellV n u=.agg #[.int .u64 (n:Int),.string u]:=fun _ _=>rfl;clear Z hT;by_cases c:checkC kind x l=0
 .by_cases f:checkC kind y m=0
  .have aA:=zdY c;obtain rfl|rfl|rfl|rfl|rfl|rfl:kind=0\/kind=1\/kind=2\/kind=3\/kind=4\/kind=5:=by omega
   .rw[show cmpC 0 x l y m=ordZ (wrap64 (x:Int)) (wrap64 (y:Int))from zGD c f];have J:=h_ c;have N:=h_ f;clear c f;go_enter func104,ntmps104;go_wp2_with fail;rw[<-g];clear g;refine E.mono ?_;rintro e H⟨rfl,a⟩;rw[J.o];have G:=(a.block _ (by omega)).trans D;have k:=(a.block _ (by omega)).trans I;have L:=za2 (i:=0) k rfl;have M:=za2 (i:=1) k rfl;have p:=h_ (T.trans (a.mono (by omega)));have Q:=a.size;have C:=j H a;clear a D I E;go_wp2_with fail;refine C.mono ?_;rintro e X⟨rfl,b⟩;rw[N.o];have A:=(b.block _ (by omega)).trans G;have v:=(b.block _ (by omega)).trans k;have c0:=za2 (i:=0) A rfl;have c1:=za2 (i:=1) A rfl;have d0:=za2 (i:=0) v rfl;have d1:=za2 (i:=1) v rfl;have r:=bT p b;have S:=b.size;clear b G k L M C j;go_wp2_with fail;have g0:=zf0 (i:=0) A rfl;have g1:=zf0 (i:=1) A rfl;have g2:=zf0 (i:=0) v rfl;have g3:=zf0 (i:=1) v rfl;refine AY Ord.way [(0,false),(2,false),(1,true),(3,true),(4,true),(5,false)] (by kernel_rfl) rfl (by kernel_rfl) (by kernel_rfl) (fun _ _ _ d _ h=>by cases d<;>exact h) ?_;iterate 2 (refine Ak rfl rfl (by kernel_rfl) (fun K hK=>?_);go_big_quiet_op;refine hK _ ?_;clear hK K)
    refine Ax rfl (by kernel_rfl) (fun K hK=>?_);go_big_op;refine(zlY x hx s _).mono ?_;rintro e w3⟨rfl,O⟩;have aC:X.drew.heap.size=X.heap.size:=rfl;have t3:=(O.block _ (by omega)).trans v;have af:=h_ (r.drew.trans (O.mono r.drew.size));have d2:=za2 (i:=0) t3 rfl;have d3:=za2 (i:=1) t3 rfl;have aB:=O.size;refine hK _ _ O ?_;clear O;clear hK K;refine Ax rfl (by kernel_rfl) (fun K hK=>?_);go_big_op;refine(zlY y hy t _).mono ?_;rintro e w4⟨rfl,Y⟩;have ag:=bT af Y;refine hK _ _ Y ?_;clear Y;clear hK K;refine Ax rfl (by kernel_rfl) (fun K hK=>?_);go_big_op;refine(zHV _ _ _).mono ?_;rintro e w5⟨rfl,rfl⟩;refine hK _ _ (Ord.Grew.refl _) ?_;clear hK K;refine Ak rfl rfl (by kernel_rfl) (fun K hK=>?_);go_big_quiet_op;refine hK _ ?_;clear hK K;refine Bk ?_;go_wp2;go_ret;exact⟨rfl,ag.o⟩
   .rw[show cmpC 1 x l y m=ordZ (x:Int) (y:Int)from zGC c f];have J:=h_ c;have N:=h_ f;clear c f;go_enter func104,ntmps104;go_wp2_with fail;rw[<-g];clear g;refine E.mono ?_;rintro e H⟨rfl,a⟩;rw[J.o];have G:=(a.block _ (by omega)).trans D;have k:=(a.block _ (by omega)).trans I;have L:=za2 (i:=0) k rfl;have M:=za2 (i:=1) k rfl;have p:=h_ (T.trans (a.mono (by omega)));have Q:=a.size;have C:=j H a;clear a D I E;go_wp2_with fail;refine C.mono ?_;rintro e X⟨rfl,b⟩;rw[N.o];have A:=(b.block _ (by omega)).trans G;have v:=(b.block _ (by omega)).trans k;have c0:=za2 (i:=0) A rfl;have c1:=za2 (i:=1) A rfl;have d0:=za2 (i:=0) v rfl;have d1:=za2 (i:=1) v rfl;have r:=bT p b;have S:=b.size;clear b G k L M C j;go_wp2_with fail;refine(zuO _ _ _).mono ?_;rintro e w3⟨rfl,rfl⟩;go_wp2;go_ret;exact⟨rfl,r.o⟩
   .rw[show cmpC 2 x l y m=ordZ (x:Int) (y:Int)from zGB c f];have J:=h_ c;have N:=h_ f;clear c f;go_enter func104,ntmps104;go_wp2_with fail;rw[<-g];clear g;refine E.mono ?_;rintro e H⟨rfl,a⟩;rw[J.o];have G:=(a.block _ (by omega)).trans D;have k:=(a.block _ (by omega)).trans I;have L:=za2 (i:=0) k rfl;have M:=za2 (i:=1) k rfl;have p:=h_ (T.trans (a.mono (by omega)));have Q:=a.size;have C:=j H a;clear a D I E;go_wp2_with fail;refine C.mono ?_;rintro e X⟨rfl,b⟩;rw[N.o];have A:=(b.block _ (by omega)).trans G;have v:=(b.block _ (by omega)).trans k;have c0:=za2 (i:=0) A rfl;have c1:=za2 (i:=1) A rfl;have d0:=za2 (i:=0) v rfl;have d1:=za2 (i:=1) v rfl;have r:=bT p b;have S:=b.size;clear b G k L M C j;go_wp2_with fail;refine(zuO _ _ _).mono ?_;rintro e w3⟨rfl,rfl⟩;go_wp2;go_ret;exact⟨rfl,r.o⟩
   .rw[show cmpC 3 x l y m=Lib.compareBytes l m from zGA c f];have J:=h_ c;have N:=h_ f;clear c f;go_enter func104,ntmps104;go_wp2_with fail;rw[<-g];clear g;refine E.mono ?_;rintro e H⟨rfl,a⟩;rw[J.o];have G:=(a.block _ (by omega)).trans D;have k:=(a.block _ (by omega)).trans I;have L:=za2 (i:=0) k rfl;have M:=za2 (i:=1) k rfl;have p:=h_ (T.trans (a.mono (by omega)));have Q:=a.size;have C:=j H a;clear a D I E;go_wp2_with fail;refine C.mono ?_;rintro e X⟨rfl,b⟩;rw[N.o];have A:=(b.block _ (by omega)).trans G;have v:=(b.block _ (by omega)).trans k;have c0:=za2 (i:=0) A rfl;have c1:=za2 (i:=1) A rfl;have d0:=za2 (i:=0) v rfl;have d1:=za2 (i:=1) v rfl;have r:=bT p b;have S:=b.size;clear b G k L M C j;go_wp2_with fail;refine(zkY s t l m _ hs ht).mono ?_;rintro e w3⟨rfl,rfl⟩;go_wp2;go_ret;exact⟨rfl,r.o⟩
   .rw[show cmpC 4 x l y m=Lib.compareBytes l m from zG9 c f];have J:=h_ c;have N:=h_ f;clear c f;go_enter func104,ntmps104;go_wp2_with fail;rw[<-g];clear g;refine E.mono ?_;rintro e H⟨rfl,a⟩;rw[J.o];have G:=(a.block _ (by omega)).trans D;have k:=(a.block _ (by omega)).trans I;have L:=za2 (i:=0) k rfl;have M:=za2 (i:=1) k rfl;have p:=h_ (T.trans (a.mono (by omega)));have Q:=a.size;have C:=j H a;clear a D I E;go_wp2_with fail;refine C.mono ?_;rintro e X⟨rfl,b⟩;rw[N.o];have A:=(b.block _ (by omega)).trans G;have v:=(b.block _ (by omega)).trans k;have c0:=za2 (i:=0) A rfl;have c1:=za2 (i:=1) A rfl;have d0:=za2 (i:=0) v rfl;have d1:=za2 (i:=1) v rfl;have r:=bT p b;have S:=b.size;clear b G k L M C j;go_wp2_with fail;refine(zkY s t l m _ hs ht).mono ?_;rintro e w3⟨rfl,rfl⟩;go_wp2;go_ret;exact⟨rfl,r.o⟩
   rw[show cmpC 5 x l y m=ordZ (tkey x+9223372036854775808) (tkey y+9223372036854775808)from zG8 c f];have J:=h_ c;have N:=h_ f;clear c f;go_enter func104,ntmps104;go_wp2_with fail;rw[<-g];clear g;refine E.mono ?_;rintro e H⟨rfl,a⟩;rw[J.o];have G:=(a.block _ (by omega)).trans D;have k:=(a.block _ (by omega)).trans I;have L:=za2 (i:=0) k rfl;have M:=za2 (i:=1) k rfl;have p:=h_ (T.trans (a.mono (by omega)));have Q:=a.size;have C:=j H a;clear a D I E;go_wp2_with fail;refine C.mono ?_;rintro e X⟨rfl,b⟩;rw[N.o];have A:=(b.block _ (by omega)).trans G;have v:=(b.block _ (by omega)).trans k;have c0:=za2 (i:=0) A rfl;have c1:=za2 (i:=1) A rfl;have d0:=za2 (i:=0) v rfl;have d1:=za2 (i:=1) v rfl;have r:=bT p b;have S:=b.size;clear b G k L M C j;go_wp2_with fail;have g0:=zf0 (i:=0) A rfl;have g1:=zf0 (i:=1) A rfl;have g2:=zf0 (i:=0) v rfl;have g3:=zf0 (i:=1) v rfl;refine AY Ord.way [(0,false),(1,false),(3,false),(4,false),(2,true),(5,true),(6,true),(7,false)] (by kernel_rfl) rfl (by kernel_rfl) (by kernel_rfl) (fun _ _ _ d _ h=>by cases d<;>exact h) ?_;iterate 4 (refine Ak rfl rfl (by kernel_rfl) (fun K hK=>?_);go_big_quiet_op;refine hK _ ?_;clear hK K)
   refine Ax rfl (by kernel_rfl) (fun K hK=>?_);go_big_op;refine(zsI x hx _).mono ?_;rintro e w3⟨rfl,rfl⟩;refine hK _ _ (Ord.Grew.refl _) ?_;clear hK K;refine Ax rfl (by kernel_rfl) (fun K hK=>?_);go_big_op;refine(zsI y hy _).mono ?_;rintro e w4⟨rfl,rfl⟩;refine hK _ _ (Ord.Grew.refl _) ?_;clear hK K;refine Ax rfl (by kernel_rfl) (fun K hK=>?_);go_big_op;refine(zuO _ _ _).mono ?_;rintro e w5⟨rfl,rfl⟩;refine hK _ _ (Ord.Grew.refl _) ?_;clear hK K;refine Ak rfl rfl (by kernel_rfl) (fun K hK=>?_);go_big_quiet_op;refine hK _ ?_;clear hK K;refine Bk ?_;go_wp2;go_ret;exact⟨rfl,r.drew⟩
  rw[show cmpC kind x l y m=0 from by unfold cmpC;rw[Ab (.inr f)]];have J:=h_ c;obtain⟨cy,V⟩:∃cy,checkC kind y m=cy:=⟨_,rfl⟩;rw[V]at f j;have ak:((cy:Int)!=0)=true:=by simp;omega
  clear c V;go_enter func104,ntmps104;go_wp2_with fail;rw[<-g];clear g;refine E.mono ?_;rintro e H⟨rfl,a⟩;rw[J.o];have k:=(a.block _ (by omega)).trans I;have L:=za2 (i:=0) k rfl;have M:=za2 (i:=1) k rfl;have p:=h_ (T.trans (a.mono (by omega)));have C:=j H a;clear a D I E j;go_wp2_with fail;refine C.mono ?_;rintro e X⟨rfl,b⟩;have r:=bT p b;clear b k L M C;go_wp2;go_ret;exact⟨rfl,r.o⟩
 rw[show cmpC kind x l y m=0 from by unfold cmpC;rw[Ab (.inl c)]];obtain⟨cx,U⟩:∃cx,checkC kind x l=cx:=⟨_,rfl⟩;rw[U]at c E;have ak:((cx:Int)!=0)=true:=by simp;omega
 clear U j;go_enter func104,ntmps104;go_wp2_with fail;rw[<-g];clear g;refine E.mono ?_;rintro e H⟨rfl,a⟩;have p:=h_ (T.trans (a.mono (by omega)));clear a D I E;go_wp2;go_ret;exact⟨rfl,p.o⟩
/- -/
section
def zBC(a b:Int):ordZ a b=-ordZ b a:=by unfold ordZ;split<;>split<;>first|rfl|(split<;>first|rfl|omega)|omega
def zBA(a b:Int):ordZ a b=0↔a=b:=by
 unfold ordZ;constructor
 ·intro h;split at h
  .cases h
  split at h
  .cases h
  omega
 rintro rfl;rw[Aa (by omega),Aa (by omega)]
def zH4(a b:Int):ordZ a b<0↔a<b:=by
 unfold ordZ;split
 ·simp;assumption
 split<;>simp<;>omega
def zBB(a b:Int):0<ordZ a b↔b<a:=by
 unfold ordZ;split
 ·simp;omega
 split<;>simp<;>omega
def zEB(a b:Int):-1<=ordZ a b/\ordZ a b<=1:=by
 unfold ordZ;split
 ·decide
 split<;>decide
open _root_.Go.Lib in
def zCR:∀l m:Bs,compareBytes l m=-compareBytes m l
 | [],[]=>rfl
 | [],_::_=>rfl
 | _::_,[]=>rfl
 | a::r,b::t=>by
  unfold compareBytes;by_cases d:a<b
  .have c:¬b<a:=by simp only[UInt8.lt_iff_toNat_lt]at *;omega
   simp[d,c]
  .by_cases c:b<a
   .simp[d,c]
   .simp[d,c,zCR r t]
open _root_.Go.Lib in
def zCQ:∀l m:Bs,compareBytes l m=0↔l=m
 | [],[]=>by simp[compareBytes]
 | [],_::_=>by simp[compareBytes]
 | _::_,[]=>by simp[compareBytes]
 | a::r,b::t=>by
  unfold compareBytes;by_cases c:a<b
  .have f:a≠b:=fun e=>by subst e;simp only[UInt8.lt_iff_toNat_lt]at c;omega
   simp[c,f]
  .by_cases d:b<a
   .have f:a≠b:=fun e=>by subst e;exact c d
    simp[c,d,f]
   .have e:a=b:=by
     simp only[UInt8.lt_iff_toNat_lt]at c d;exact UInt8.toNat_inj.1 (by omega)
    subst e;simp[c,zCQ r t]
open _root_.Go.Lib in
def zGE:∀l m:Bs,-1<=compareBytes l m/\compareBytes l m<=1
 | [],[]=>by simp[compareBytes]
 | [],_::_=>by simp[compareBytes]
 | _::_,[]=>by simp[compareBytes]
 | a::r,b::t=>by
  unfold compareBytes;split
  ·decide
  .split
   ·decide
   .exact zGE r t
open _root_.Go.Lib in
def zpK:∀l m n:Bs,compareBytes l m<=0->compareBytes m n<=0->compareBytes l n<=0/\((compareBytes l m<0\/compareBytes m n<0)->compareBytes l n<0)
 | [],[],[],_,_=>by simp[compareBytes]
 | [],[],_::_,_,_=>by simp[compareBytes]
 | [],_::_,[],_,h=>by simp[compareBytes]at h
 | [],_::_,_::_,_,_=>by simp[compareBytes]
 | _::_,[],_,h,_=>by simp[compareBytes]at h
 | _::_,_::_,[],_,h=>by simp[compareBytes]at h
 | a::r,b::t,c::q,h1,h2=>by
  have i:=_root_.Go.Lib.hid (zpK r t q);unfold compareBytes at h1 h2 ⊢;simp only[UInt8.lt_iff_toNat_lt]at h1 h2 ⊢;by_cases g:a.toNat<b.toNat
  .by_cases e:b.toNat<c.toNat
   .rw[Ab (by omega:a.toNat<c.toNat)];exact⟨by decide,fun _=>by decide⟩
   .rw[Aa e]at h2
    by_cases d:c.toNat<b.toNat
    .rw[Ab d]at h2;exact absurd h2 (by decide)
    .rw[Ab (by omega:a.toNat<c.toNat)];exact⟨by decide,fun _=>by decide⟩
  .rw[Aa g]at h1
   by_cases f:b.toNat<a.toNat
   .rw[Ab f]at h1;exact absurd h1 (by decide)
   .rw[Aa f]at h1
    by_cases e:b.toNat<c.toNat
    .rw[Ab (by omega:a.toNat<c.toNat)];exact⟨by decide,fun _=>by decide⟩
    .rw[Aa e]at h2
     by_cases d:c.toNat<b.toNat
     .rw[Ab d]at h2;exact absurd h2 (by decide)
     .rw[Aa d]at h2
      rw[Aa g,Aa f,Aa e,Aa d,Aa (by omega:¬a.toNat<c.toNat),Aa (by omega:¬c.toNat<a.toNat)];exact i.o h1 h2
end
section
variable{kind:Int}{x y z:Nat}{l m n:Bs}
def zsF(h:checkC kind x l=0)(c:¬(kind=3\/kind=4)):l=[]:=by
 have b:=zdY h;rw[zgI kind x l b]at h;obtain rfl|rfl|rfl|rfl|rfl|rfl:kind=0\/kind=1\/kind=2\/kind=3\/kind=4\/kind=5:=by omega
 all_goals first|(exfalso;simp at c;done)|(cases l with
  | nil=>rfl
  | cons a r=>simp[isOfC]at h)
def zsE(h:checkC kind x l=0)(c:kind=3\/kind=4):x=0:=by
 have b:=zdY h;rw[zgI kind x l b]at h;rcases c with rfl|rfl
 .by_cases a:x=0
  .exact a
  simp[isOfC,a]at h
 by_cases a:x=0
 .exact a
 simp[isOfC,a]at h
def keyC(kind:Int)(x:Nat):Int:=if kind=0 then wrap64 (x:Int)else if kind=5 then tkey x+9223372036854775808 else(x:Int)
def keyC_inj(c:x<18446744073709551616)(d:y<18446744073709551616)(h:keyC kind x=keyC kind y):x=y:=by
 unfold keyC at h;by_cases a:kind=0
 .rw[Ab a,Ab a]at h;unfold wrap64 at h;omega
 rw[Aa a,Aa a]at h;by_cases b:kind=5
 .rw[Ab b,Ab b]at h;unfold tkey at h;split at h<;>split at h<;>omega
 rw[Aa b,Aa b]at h;omega
def zjL(g:¬(kind=3\/kind=4))(a:checkC kind x l=0)(b:checkC kind y m=0):cmpC kind x l y m=ordZ (keyC kind x) (keyC kind y):=by
 have h:=zdY a;have c:∀q:Nat,keyC 0 q=wrap64 (q:Int):=fun q=>by unfold keyC;rw[Ab rfl]
 have d:∀q:Nat,keyC 1 q=(q:Int):=fun q=>by unfold keyC;rw[Aa (by decide),Aa (by decide)]
 have e:∀q:Nat,keyC 2 q=(q:Int):=fun q=>by unfold keyC;rw[Aa (by decide),Aa (by decide)]
 have f:∀q:Nat,keyC 5 q=tkey q+9223372036854775808:=fun q=>by unfold keyC;rw[Aa (by decide),Ab rfl]
 obtain rfl|rfl|rfl|rfl|rfl|rfl:kind=0\/kind=1\/kind=2\/kind=3\/kind=4\/kind=5:=by omega
 .rw[c,c];exact zGD a b
 .rw[d,d];exact zGC a b
 .rw[e,e];exact zGB a b
 .simp at g
 .simp at g
 rw[f,f];exact zG8 a b
def zjK(c:kind=3\/kind=4)(a:checkC kind x l=0)(b:checkC kind y m=0):cmpC kind x l y m=Lib.compareBytes l m:=by
 rcases c with rfl|rfl
 .exact zGA a b
 exact zG9 a b
def zCM(k:x<18446744073709551616)(r:y<18446744073709551616)(d:checkC kind x l=0)(e:checkC kind y m=0)(f:checkC kind z n=0) :cmpC kind x l y m=-cmpC kind y m x l/\(cmpC kind x l y m=0↔x=y/\l=m)/\(-1<=cmpC kind x l y m/\cmpC kind x l y m<=1) /\(cmpC kind x l y m<=0->cmpC kind y m z n<=0->cmpC kind x l z n<=0)/\(cmpC kind x l y m<0->cmpC kind y m z n<0->cmpC kind x l z n<0):=by
 by_cases c:kind=3\/kind=4
 .rw[zjK c d e,zjK c e d,zjK c e f,zjK c d f];have p:=zsE d c;have s:=zsE e c;refine⟨zCR l m,?_,zGE l m,fun a b=>(zpK l m n a b).1,fun a b=>(zpK l m n (by omega) (by omega)).2 (.inl a)⟩;rw[zCQ];constructor
  ·intro h;exact⟨by omega,h⟩
  intro h;exact h.2
 rw[zjL c d e,zjL c e d,zjL c e f,zjL c d f];have j:=zsF d c;have hm:=zsF e c;refine⟨zBC _ _,?_,zEB _ _,fun a b=>?_,fun a b=>?_⟩
 .rw[zBA];constructor
  ·intro h;exact⟨keyC_inj k r h,by rw[j,hm]⟩
  rintro⟨rfl,_⟩;rfl
 .have g:¬0<ordZ (keyC kind x) (keyC kind y):=by omega
  have i:¬0<ordZ (keyC kind y) (keyC kind z):=by omega
  rw[zBB]at g i;have:¬0<ordZ (keyC kind x) (keyC kind z):=by rw[zBB];omega
  omega
 rw[zH4]at *;omega
end
/- -/
abbrev CP:=ColB×CellB
def chk(x:CP):Nat:=checkC x.1.2 x.2.1 x.2.2.data.toList
def errP:List CP->Nat
 | []=>0
 | x::r=>if chk x≠0 then chk x else errP r
def zgD:∀(l m:List CP),errP (l++m)=if errP l≠0 then errP l else errP m
 | [],m=>by simp[errP]
 | x::r,m=>by
  rw[AQ,errP,zgD r m,errP];by_cases h:chk x=0
  .have a:¬chk x≠0:=fun b=>b h
   rw[Aa a,Aa a]
  .rw[Ab h,Ab h,Ab h]
def zlC(l:List CP)(x:CP)(h:errP l=0):errP (l++[x])=chk x:=by
 rw[zgD,h,Aa (by simp),errP,errP];by_cases h:chk x=0
 .rw[Aa (by simpa using h),h]
 rw[Ab h]
def zrX{l:List CP}{k:Nat}(h:errP (l.take k)≠0):errP l=errP (l.take k):=by
 have:=zgD (l.take k) (l.drop k);rw[A0,Ab h]at this;exact this
def zsG(kind:Int)(n:Nat)(l:Bs):checkC kind n l<=11:=by
 unfold checkC
 repeat' split
 all_goals omega
def znM:∀l:List CP,errP l<=11
 | []=>by simp[errP]
 | x::r=>by
  rw[errP];split
  ·exact zsG _ _ _
  .exact znM r
def zrW{l:List CP}(h:errP l=0):∀x∈l,chk x=0:=by
 induction l with
 | nil=>intro x b;simp at b
 | cons a r ih=>
  rw[errP]at h;by_cases c:chk a=0
  .rw[Aa (by simpa using c)]at h;intro x b;rcases Ba.1 b with rfl|b
   .exact c
   exact ih h x b
  rw[Ab c]at h;exact absurd h c
def zCB{l:List CP}(h:∀x∈l,chk x=0):errP l=0:=by
 induction l with
 | nil=>rfl
 | cons a r ih=>
  rw[errP,Aa (by simpa using h a (by simp))];exact ih fun x b=>h x (by simp[b])
def errC(cs:List ColB)(rs:List CellB):Nat:=if rs.length=cs.length then errP (cs.zip rs)else 2
def zy8(cs:List ColB)(a:List CellB):errC cs a<=11:=by
 unfold errC;split
 ·exact znM _
 omega
end
section
open Go.ChangeShapes Go.WideShapes Go.ChangeAt Go.RowKit Go.Shelf Go.Deep
def zGK:U8Extra prog Tryz.laysValid_ren:=⟨by kernel_rfl,by kernel_rfl,by kernel_rfl,by kernel_rfl,by kernel_rfl,by kernel_rfl,by kernel_rfl⟩
def zD7:(Rows.laid_unicode_utf8_acceptRanges:DataW Unit)=Lib.acceptData:=by kernel_rfl
variable {B a c:Nat} {W w:World}
def zGN(a:Lib.VarReads prog W "unicode/utf8.first" Rows.laid_unicode_utf8_first)(b:Lib.VarReads prog W "unicode/utf8.acceptRanges" Rows.laid_unicode_utf8_acceptRanges):Tabs W :=
 utf8Tabs_of_readsT (U8Types.of196 Tryz.laysValid) zGK (Pinned.utf8First_eq ▸ a) (zD7 ▸ b)
section
variable{H:Type}{enc:TypeId×Value->H}{W:World}
def znT:prog.cellsOf 65=2:=by kernel_rfl
def zCO{m:Nat}{cs:List Value}{x:DataW H×List MemPlace}(h:DataW.trod enc prog W 0 (fun _=>true) true m 65 cs=some x) :∃(n:Nat)(s:ByteArray),cs=[.int .u64 (n:Int),.string s]/\x.1=.agg [.lit (.int .u64 (n:Int)),.lit (.string s.data.toList)]/\n<18446744073709551616:=by
 obtain⟨u,v,k,j,f,d,e⟩:=trod_struct2 underlying65 h;rw[znT]at f
 match cs,f with
 | [c0,c1],_=>
  have p:prog.cellsOf 63=1:=by kernel_rfl
  have l:prog.cellsOf 9=1:=by kernel_rfl
  simp[p,l]at d e;obtain⟨a,b,g,r⟩:=DataW.trod_int underlying63 d;obtain⟨s,c,i,_⟩:=DataW.trod_string underlying9 e;simp at b c;subst b c;have t:=zJ2 r;obtain⟨n,rfl⟩:∃n:Nat,a=n:=⟨a.toNat,by omega⟩;exact⟨n,s,rfl,by rw[j];simp[g,i],by omega⟩
def zb6{P:Program}{e:TypeId}{d:DataW H}{n:Nat}(b:n∈d.weights P e):∀{l:List (DataW H)},d∈l->n∈DataW.weightsAll P e l
 | [],h=>by simp at h
 | a::r,h=>by
  rw[DataW.weightsAll,AD];rcases Ba.1 h with rfl|h
  .exact .inl b
  .exact .inr (zb6 b h)
def zyG{m:Nat}{cs:List Value}{x:DataW H×List MemPlace}(h:DataW.trod enc prog W 0 (fun _=>true) true m 65 cs=some x) :∃(c:CellB),cs=cellVs c/\x.1=.agg [.lit (.int .u64 (c.1:Int)),.lit (.string c.2.data.toList)]/\c.1<18446744073709551616:=by
 obtain⟨n,s,a,b,d⟩:=zCO h;exact⟨(n,s),a,b,d⟩
def zyF{t:Nat}{v:Value}{d:DataW H}{ps:List MemPlace}(Y:DataW.trod enc prog W 0 (fun _=>true) true t 67 [v]=some (d,ps))(E:∀n∈d.weights prog 67,n<=reachBytes):∃cs,RdE W v cs/\CES cs:=by
 have J:1<=prog.bytesOf 65:=CQ (by kernel_rfl);rcases open_slice underlying67 Y with⟨r,_⟩|⟨x,len,c,m,n,D,Pl,r,_,hl,hm,w,S,l⟩
 .obtain rfl:v=.slice none 0 0:=by simpa using r
  exact⟨[],RdE.nil W,fun c M=>absurd M (by simp)⟩
 obtain rfl:v=.slice (some x) len c:=by simpa using r
 simp only[Prod.mk.injEq]at S;obtain⟨rfl,_⟩:=S;simp only[if_true]at w;subst w;have hw:∀i,i<len->∀k∈(D i).weights prog 65,k<=reachBytes:=fun i g k hk=>by
  refine E k ?_;rw[DataW.weights];simp only[underlying67];refine Ct _ (AD.2 (.inl (zb6 hk ?_)));exact Au.2 ⟨i,B3.2 g,rfl⟩
 have hs:=E _ (by rw[DataW.weights];simp only[underlying67];exact Cz ..);simp only[Ad,Cn,reachBytes]at hs;have O:len<=140737488351232:=by
  have:(len+(m-len))*1<=(len+(m-len))*prog.bytesOf 65:=Bn _ J;omega
 rw[znT]at l;obtain⟨L,I⟩:=choose_lt (α:=CellB) (p:=fun i a=>ceS a/\∀j u,(cellVs a)[j]?=some u->W.cell? ((x.add (i*2)).add j)=some u) (n:=len) (fun i g=>by
  obtain⟨T,U,V⟩:=l i (by omega);obtain⟨_,h3,X⟩:=Dc U;obtain⟨a,rfl,C,N⟩:=zyG V;have Q:=hw i g a.2.data.toList.length (by
   dsimp only at C;rw[C];simp[DataW.weights,underlying65,DataW.weightsEach])
  refine⟨a,⟨N,by simpa[reachBytes]using Q⟩,fun j u A=>?_⟩;have Z:j<2:=by have:=(AG.1 A).1;simpa[cellVs]using this
  rw[X j Z,A])
 have f:((List.range len).map L).length=len:=by simp
 have e:∀i,i<len->((List.range len).map L).getD i default=L i:=fun i g=>by simp[List.getD,g]
 have y:0<len->∃b o,x=⟨b,o,none⟩:=by
  intro hp;have G:=(I 0 hp).2 0 _ rfl;obtain⟨b,o,sp⟩:=x;cases sp with
  | none=>exact⟨b,o,rfl⟩
  | some s=>
   exfalso;simp only[Addr.add,if_true,World.cell?]at G;split at G<;>simp at G
 refine⟨(List.range len).map L,⟨⟨some x,_,by rw[Ad,f],by rw[Ad,f];omega,(by intro h;cases h),fun hp=>?_⟩,?_,?_,by rw[Ad,f];exact O⟩,?_⟩
 .rw[Ad,f]at hp;obtain⟨b,o,rfl⟩:=y hp;exact⟨b,o,rfl⟩
 .intro i g j u A;rw[Ad,f]at g;rw[getD_map cellVs _ i (by rw[f];exact g) default,e i g]at A;have:=(I i g).2 j u A;obtain⟨b,o,rfl⟩:=y (by omega);rw[Addr.add_mid,Addr.add_mid,BD]at this;rw[zaF];exact this
 .intro z hz;obtain⟨c,_,rfl⟩:=Au.1 hz;rfl
 intro c M;obtain⟨i,g,rfl⟩:=Au.1 M;exact(I i (B3.1 g)).1
end
/- -/
section
variable{H:Type}{enc:TypeId×Value->H}{W:World}
def ziQ:prog.cellsOf 62=2:=by kernel_rfl
def zF3{m:Nat}{cs:List Value}{x:DataW H×List MemPlace}(h:DataW.trod enc prog W 0 (fun _=>true) true m 62 cs=some x) :∃(c:ColB),cs=colV c/\x.1=.agg [.lit (.string c.1.data.toList),.lit (.int .i64 c.2)]/\-9223372036854775808<=c.2/\c.2<=9223372036854775807:=by
 obtain⟨u,v,k,n,i,e,f⟩:=trod_struct2 underlying62 h;rw[ziQ]at i
 match cs,i with
 | [c0,c1],_=>
  have r:prog.cellsOf 3=1:=by kernel_rfl
  have p:prog.cellsOf 9=1:=by kernel_rfl
  simp[r,p]at e f;obtain⟨s,d,l,_⟩:=DataW.trod_string underlying9 e;obtain⟨a,b,j,t⟩:=DataW.trod_int underlying3 f;simp at b d;subst b d;have g:=zCZ t;exact⟨(s,a),rfl,by rw[n];simp[j,l],g.1,g.2⟩
def zCK{base:Nat}{v:Value}{d:DataW H}{ps:List MemPlace}{ts:List TypeId}{V:List (DataW H)}{j:Nat}(C:Value.okWide prog W .any base 22 v)(h:DataW.Trod enc prog W 0 (fun _=>true) true 22 v d ps)(U:(DataW.weightsEach prog ts V).all (·<=reachBytes)=true)(ht:ts[j]?=some 22)(hd:V[j]?=some d):∃cs,RdC W v cs/\CS cs:=by
 have G:∀n∈d.weights prog 22,n<=reachBytes:=fun n hn=>by
  have:=CV.1 U _ (DataW.weights_mem_each ht hd n hn);simpa using this
 obtain⟨a0,len,cap,rfl⟩:=okWide_slice underlying22 C;obtain⟨X,hf⟩:=h;have M:1<=prog.bytesOf 62:=CQ (by kernel_rfl);rcases open_slice underlying22 hf with⟨t,_⟩|⟨x,l,c,m,n,D,Pl,t,_,hl,hm,w,Y,r⟩
 .simp[Value.cells]at t;obtain⟨rfl,rfl,rfl⟩:=t;exact⟨[],RdC.nil W,fun c N=>absurd N (by simp)⟩
 simp[Value.cells]at t;obtain⟨rfl,rfl,rfl⟩:=t;simp only[Prod.mk.injEq]at Y;obtain⟨rfl,_⟩:=Y;simp only[if_true]at w;subst w;have hw:∀i,i<len->∀k∈(D i).weights prog 62,k<=reachBytes:=fun i g k hk=>by
  refine G k ?_;rw[DataW.weights];simp only[underlying22];refine Ct _ (AD.2 (.inl (zb6 hk ?_)));exact Au.2 ⟨i,B3.2 g,rfl⟩
 have hs:=G _ (by rw[DataW.weights];simp only[underlying22];exact Cz ..);simp only[Ad,Cn,reachBytes]at hs;have S:len<=140737488351232:=by
  have:(len+(m-len))*1<=(len+(m-len))*prog.bytesOf 62:=Bn _ M;omega
 rw[ziQ]at r;obtain⟨L,J⟩:=choose_lt (α:=ColB) (p:=fun i a=>(a.1.size<=140737488351232/\-9223372036854775808<=a.2/\a.2<=9223372036854775807)/\∀j u,(colV a)[j]?=some u->W.cell? ((x.add (i*2)).add j)=some u) (n:=len) (fun i g=>by
  obtain⟨Z,h1,h2⟩:=r i (by omega);obtain⟨_,h3,h4⟩:=Dc h1;obtain⟨a,rfl,E,O,Q⟩:=zF3 h2;have T:=hw i g a.1.data.toList.length (by
   dsimp only at E;rw[E];simp[DataW.weights,underlying62,DataW.weightsEach])
  refine⟨a,⟨by simpa[reachBytes]using T,O,Q⟩,fun j u A=>?_⟩;have hj:j<2:=by have:=(AG.1 A).1;simpa[colV]using this
  rw[h4 j hj,A])
 have f:((List.range len).map L).length=len:=by simp
 have e:∀i,i<len->((List.range len).map L).getD i default=L i:=fun i g=>by simp[List.getD,g]
 have y:0<len->∃b o,x=⟨b,o,none⟩:=by
  intro hp;have I:=(J 0 hp).2 0 _ rfl;obtain⟨b,o,sp⟩:=x;cases sp with
  | none=>exact⟨b,o,rfl⟩
  | some s=>
   exfalso;simp only[Addr.add,if_true,World.cell?]at I;split at I<;>simp at I
 refine⟨(List.range len).map L,⟨⟨some x,_,by rw[Ad,f],by rw[Ad,f];omega,(by intro h;cases h),fun hp=>?_⟩,?_,?_,by rw[Ad,f];exact S⟩,?_⟩
 .rw[Ad,f]at hp;obtain⟨b,o,rfl⟩:=y hp;exact⟨b,o,rfl⟩
 .intro i g j u A;rw[Ad,f]at g;rw[getD_map colV _ i (by rw[f];exact g) default,e i g]at A;have:=(J i g).2 j u A;obtain⟨b,o,rfl⟩:=y (by omega);rw[Addr.add_mid,Addr.add_mid,BD]at this;rw[zaF];exact this
 .intro z U;obtain⟨c,_,rfl⟩:=Au.1 U;rfl
 intro c N;obtain⟨i,g,rfl⟩:=Au.1 N;exact(J i (B3.1 g)).1
def znS:prog.cellsOf 69=2:=by kernel_rfl
def zB2{m:Nat}{cs:List Value}{x:DataW H×List MemPlace}(h:DataW.trod enc prog W 0 (fun _=>true) true m 69 cs=some x)(s:∀n∈x.1.weights prog 69,n<=reachBytes) :∃t:TriB,cs=triV t/\RdE W t.1 t.2.1/\CES t.2.1/\inW t.2.2:=by
 obtain⟨g,A,k,u,f,c,e⟩:=trod_struct2 underlying69 h;rw[znS]at f
 match cs,f with
 | [c0,c1],_=>
  have w:prog.cellsOf 2=1:=by kernel_rfl
  have v:prog.cellsOf 67=1:=by kernel_rfl
  simp[w,v]at c e;obtain⟨a,b,z,y⟩:=DataW.trod_int underlying2 e;simp at b;subst b;have i:=zCZ y;obtain⟨r,p,j⟩:=zyF (d:=g.1) (ps:=g.2) c (fun n l=>s n (by
   rw[u];simp only[DataW.weights,underlying69];simp[DataW.weightsEach,l]))
  exact⟨(c0,(r,a)),rfl,p,j,i⟩
def zxK{y:Nat}{v:Value}{d:DataW H}{pl:List MemPlace}(hf:DataW.trod enc prog W 0 (fun _=>true) true y 33 [v]=some (d,pl))(I:∀n∈d.weights prog 33,n<=reachBytes):∃ps,RdP W v ps/\PSO ps/\ps.length*32<=140737488351232:=by
 have N:1<=prog.bytesOf 69:=CQ (by kernel_rfl);rcases open_slice underlying33 hf with⟨w,_⟩|⟨x,len,c,m,n,D,Pl,w,_,hl,hm,A,T,l⟩
 .obtain rfl:v=.slice none 0 0:=by simpa using w
  exact⟨[],RdP.nil W,fun c Z=>absurd Z (by simp),by simp⟩
 obtain rfl:v=.slice (some x) len c:=by simpa using w
 simp only[Prod.mk.injEq]at T;obtain⟨rfl,_⟩:=T;simp only[if_true]at A;subst A;have hw:∀i,i<len->∀k∈(D i).weights prog 69,k<=reachBytes:=fun i g k hk=>by
  refine I k ?_;rw[DataW.weights];simp only[underlying33];refine Ct _ (AD.2 (.inl (zb6 hk ?_)));exact Au.2 ⟨i,B3.2 g,rfl⟩
 have S:=I _ (by rw[DataW.weights];simp only[underlying33];exact Cz ..);simp only[Ad,Cn,reachBytes]at S;have Q:len<=140737488351232:=by
  have:(len+(m-len))*1<=(len+(m-len))*prog.bytesOf 69:=Bn _ N;omega
 have O:prog.bytesOf 69=32:=by kernel_rfl
 rw[O]at S;rw[znS]at l;obtain⟨L,M⟩:=choose_lt (α:=TriB) (p:=fun i a=>(RdE W a.1 a.2.1/\CES a.2.1/\inW a.2.2)/\∀j u,(triV a)[j]?=some u->W.cell? ((x.add (i*2)).add j)=some u) (n:=len) (fun i g=>by
  obtain⟨U,V,X⟩:=l i (by omega);obtain⟨_,h3,Y⟩:=Dc V;obtain⟨a,rfl,hr⟩:=zB2 X (hw i g);refine⟨a,hr,fun j u G=>?_⟩;have hj:j<2:=by have:=(AG.1 G).1;simpa[triV]using this
  rw[Y j hj,G])
 have f:((List.range len).map L).length=len:=by simp
 have e:∀i,i<len->((List.range len).map L).getD i default=L i:=fun i g=>by simp[List.getD,g]
 have C:0<len->∃b o,x=⟨b,o,none⟩:=by
  intro hp;have J:=(M 0 hp).2 0 _ rfl;obtain⟨b,o,sp⟩:=x;cases sp with
  | none=>exact⟨b,o,rfl⟩
  | some s=>
   exfalso;simp only[Addr.add,if_true,World.cell?]at J;split at J<;>simp at J
 have r:∀t∈(List.range len).map L,RdE W t.1 t.2.1/\CES t.2.1/\inW t.2.2:=by
  intro t E;obtain⟨i,g,rfl⟩:=Au.1 E;exact(M i (B3.1 g)).1
 refine⟨((List.range len).map L).map (·.2),⟨(List.range len).map L,rfl,⟨⟨some x,_,by rw[Ad,f],by rw[Ad,f];omega,(by intro h;cases h),fun hp=>?_⟩,?_,?_,by rw[Ad,f];exact Q⟩,fun t E=>(r t E).1⟩,?_,by simp;omega⟩
 .rw[Ad,f]at hp;obtain⟨b,o,rfl⟩:=C hp;exact⟨b,o,rfl⟩
 .intro i g j u G;rw[Ad,f]at g;rw[getD_map triV _ i (by rw[f];exact g) default,e i g]at G;have:=(M i g).2 j u G;obtain⟨b,o,rfl⟩:=C (by omega);rw[Addr.add_mid,Addr.add_mid,BD]at this;rw[zaF];exact this
 .intro z hz;obtain⟨t,_,rfl⟩:=Au.1 hz;rfl
 intro p hp;obtain⟨t,E,rfl⟩:=Au.1 hp;exact(r t E).2
end
/- -/
attribute [local go_sem] Oper.semAt_some
def Mine(n0 b1 b2:Nat)(j:Nat):Prop:=n0<=j/\j≠b1/\j≠b2
def znD {d:Nat} {b:World}(h:Only (Mine a c d) W b)(f:a<=W.heap.size):Below a W b:=h.toBelow (fun j e=>e.1) f
def zBD{S:Nat->Prop}{A B C:World}(h:Only S A B)(k:Only S B C):Only S A C:=h.trans k
def zBE {b:Nat}(i:c<=w.heap.size)(e:a<w.heap.size)(f:b<w.heap.size)(W:World)(l:Nat)(o d:Obj)(g:w.heap.size<=l)(h:W.heap[l]?=some o)(_:o.isCells=false)(_:o.isWalk=false):Only (Mine c a b) W (W.putObj l d) :=
 (Only.refl _ W).grown (grownBy_putObj' W l d) ⟨by omega,by omega,by omega⟩
def zmC{β:Type}{J:β->World->Prop}(h:AbidesFrom B J){s:β}(a:J s W):J s W.drew :=
 h s W W.drew none a ⟨rfl,rfl,rfl,l_,fun _ _ _=>rfl⟩ (fun r e=>by cases e)
def zo5{α β:Type}[Inhabited α][Inhabited β](a:List α)(b:List β)(h:a.length=b.length)(k:Nat)(c:k<a.length):(a.zip b).take (k+1)=(a.zip b).take k++[(a.getD k default,b.getD k default)]:=by
 have d:k<(a.zip b).length:=by rw[Bd];omega
 rw[BB d];simp[List.getD,c,show k<b.length from by omega]
def zyO{α β:Type}[Inhabited α][Inhabited β](a:List α)(b:List β)(h:a.length=b.length)(k:Nat)(c:k<a.length):(a.getD k default,b.getD k default)∈a.zip b:=by
 have d:k<(a.zip b).length:=by rw[Bd];omega
 have e:(a.getD k default,b.getD k default)=(a.zip b)[k]:=by simp[List.getD,c,show k<b.length from by omega]
 rw[e];exact AM _
def Through{α:Type}(n:Nat)(P:Program)(gf:Nat)(lb:Array Value)(encs:α->Array Value)(zs:List α)(Kp:World->World->Prop)(w:World):Prop :=
 SeqStopsK (α:={ x // x∈zs}) Fence.wide n P gf lb (fun x=>encs x.1) Kp (fun ys=>ys.map (·.1)=zs) (fun pre=>∃k,k<=zs.length/\pre.map (·.1)=zs.take k) zs.length w
def ztY{α β:Type}{g:World->World->Prop}{I:List β->World->Prop}{d:Code->List β->World->Prop}(f:α->β){i:List α}:∀(e:Exit)(a:Act)(b:World),ownPostG B g I d (i.map f) W e a b->ownPostG B g (fun p=>I (p.map f)) (fun c p=>d c (p.map f)) i W e a b:=by
 intro e a b h;cases e<;>exact h
def zeC{α:Type}{n:Nat}{P:Program}{g:Operand}{ps:Array Tmp}{d r:Code}{Q:Exit->Act->World->Prop}{a:Act}(h1:1<=n){gf:Nat}{lb:Array Value}(hg:a.eval g=.func (.func gf) #[] lb)(eg:∀args w,(callFunc gf args).run P w=.ok (.enter gf args) w){i:α->Array Value}{m:List α}{u:World->World->Prop}(M:Through (n-1) P gf lb i m u w)(X:∀{A B C:World},u A B->u B C->u A C)(V:∀(W:World)(l:Nat)(o o':Obj),w.heap.size<=l->W.heap[l]?=some o->o.isCells=false->o.isWalk=false->u W (W.putObj l o'))(Z:∀x,(i x).size=ps.size)(I:List α->World->Prop)(O:Code->List α->World->Prop)(hI:OwnFrom w.heap.size I)(U:∀c,OwnFrom w.heap.size (O c))(h0:I [] w)(N:α->Act->World->Prop)(S:∀x f,OwnFrom w.heap.size (fun(_:Unit) W=>N x f W))(j:∀(l:Nat)(b:List α)(x:α)(W:World)(K:Act->World->Prop),I b W->x∈m->(∀f L,KeepsFrom w.heap.size W L->u W L->I b L->N x f L->K f L) ->d.wpIn (Fence.wide.inRound l) (n-1-1) P (Exit.then K (fun _ _ _=>False)) { tmps:=(ps.zip (i x)).foldl (fun t(p,v)=>t.setIfInBounds p v) a.tmps,defers:=[]} W)(z:∀(l:Nat)(b:List α)(x:α)(f:Act)(W:World),I b W->N x f W->b.length<m.length->x∈m->r.wpIn (Fence.wide.inRound l) (n-1-1) P (ownPostG w.heap.size u I O (b++[x]) W) f W)(E:∀(D:Nat)(W:World),w.heap.size<=D->I m W->W.heap[D]?=some (.deferred (some []))->Q .normal { a with defers:={ target:=.collected D,args:=#[]}::a.defers} W)(J:∀(D:Nat)(c:Code)(k:Nat)(W:World),w.heap.size<=D->k<=m.length->O c (m.take k) W->W.heap[D]?=some (.deferred (some []))->c.wpIn Fence.wide n P Q { a with defers:={ target:=.collected D,args:=#[]}::a.defers} W) :(Code.rangeFunc g ps d r).wpIn Fence.wide n P Q a w:=by
 refine wpIn_rangeFunc_ownH (α:={ x // x∈m}) (F:=Fence.wide) rfl h1 hg trivial eg M (fun h k=>X h k) V (Ac _ _) (fun x=>Z x.1)
  (fun b W=>I (b.map (·.1)) W) (fun c b W=>O c (b.map (·.1)) W) (fun s=>hI (s.map (·.1))) (fun c s=>U c (s.map (·.1))) h0 (fun x f W=>N x.1 f W) (fun x f=>S x.1 f) ?_ ?_ ?_ ?_
 .intro l b x W K G hK
  exact j l _ x.1 W K G x.2 hK
 .intro l b x f W _ _ G hx Y
  have:=z l (b.map (·.1)) x.1 f W G hx (by rw[Ad];exact Y) x.2;refine wpIn_mono this ?_;intro e a3 W3 hp;refine ztY (fun y:{ x // x∈m}=>y.1) e a3 W3 ?_;rw[AC];exact hp
 .intro D xs W T hS G hK
  refine E D W T ?_ hK;rw[<-hS];exact G
 .intro D c b W T ⟨k,hk,hp⟩ G hK
  refine J D c k W T hk ?_ hK;rw[<-hp];exact G
def zF0(x:ColB×CellB):Array Value:=#[.agg #[.string x.1.1,.int .i64 x.1.2],.agg #[.int .u64 (x.2.1:Int),.string x.2.2]]
def zCW(n:Nat)(hn:1<=n)(l p r:Nat)(v1 v2:Value)(cs:List ColB)(c:List CellB)(s:cs.length=c.length)(d:World)(J Jx:List (ColB×CellB)->World->Prop)(B:Nat)(hJ:AbidesFrom B J)(X:∀W,Lz d W->RdC W v1 cs)(h2:∀W,Lz d W->RdE W v2 c)(hY:∀a x W,J a W->a.length<cs.length->x∈cs.zip c->YieldAt Fence.wide (n-1) prog l (zF0 x) W fun e f=>(e=.returned (.bool true)/\J (a++[x]) f/\Only (Mine d.heap.size p r) W f)\/(e=.returned (.bool false)/\Jx (a++[x]) f))(W:World)(M:Lz d W)(D:W.cell? ⟨p,0,none⟩=some v1)(E:W.cell? ⟨r,0,none⟩=some v2)(h0:J [] W) :CallsIn Fence.wide n prog 191 #[.func (.yield l) #[] #[],.pointer (some ⟨p,0,none⟩),.pointer (some ⟨r,0,none⟩)] W fun e f=>(∃v,e=.returned v) /\((∃ys,ys=cs.zip c/\J ys f)\/(∃a,(∃k,k<=cs.length/\a=(cs.zip c).take k)/\Jx a f)):=by
 have am:=M.size;have aj:=(X W M).len;have al:=(X W M).small;obtain⟨m,hm⟩:=nm_ cs.length;rw[<-hm]at aj al;have HM:=h_ hm;have Y:p<W.heap.size:=AI W _ D;have Z:r<W.heap.size:=AI W _ E;have HW:=h_ M;have aa:=h_ D;have ab:=h_ E;have H1:=h_ X;have H2:=h_ h2;have HJ:=h_ hJ;have HY:=h_ hY;have T:=h_ s;have w:=h_ (Only.refl (Mine d.heap.size p r) W);have H0:=h_ (show J ((cs.zip c).take 0) W from h0);clear hm M E X h2 hJ hY s h0;refine callsIn_of_wp func191 rfl trivial ?_ rfl;simp only[ntmps191,Br,Ap,Bh,Nat.reduceAdd,Nat.reduceSub,BU,BV,Cc,B7,AA,AQ];gi_wp2;gi_loopw [7] (fun i wr=>∃k:Nat,k<=m/\i=.int .i64 k/\Hid (J ((cs.zip c).take k) wr)/\Hid (Only (Mine d.heap.size p r) W wr))
  (fun i _=>m-(intOf i).toNat)
 case atStart=>exact⟨0,Bg _,rfl,H0,w⟩
 case round=>
  clear H0 w D;obtain⟨k,hk,rfl,u,w⟩:=hrel;by_cases Q:k<m
  .have I:Lz d wr:=HW.trans (znD w.o am)
   have S:k<cs.length:=by rw[<-HM.o];exact Q
   have k2:k<c.length:=by rw[<-T.o];exact S
   obtain⟨ba,oa,ah,N,_⟩:=(H1.o wr I).get S;obtain⟨bb,ob,ai,O,_⟩:=(H2.o wr I).get k2;obtain⟨y,z⟩:=N _ (H1.o wr I);obtain⟨A,C⟩:=O _ (H2.o wr I);have q1:wr.cell? ⟨p,0,none⟩=some v1:=(Bi (w.block p Y (fun h=>h.2.1 rfl))).trans aa.o;have q2:wr.cell? ⟨r,0,none⟩=some v2:=(Bi (w.block r Z (fun h=>h.2.2 rfl))).trans ab.o;have U:=h_ (zo5 cs c T.o k S);have G:=HY.o _ (cs.getD k default,c.getD k default) wr.drew (zmC HJ.o u.o) (by rw[Aq,Bd];omega) (zyO cs c T.o k S);rcases hga:cs.getD k default with⟨xa,ya⟩;rcases hgb:c.getD k default with⟨xb,yb⟩;rw[hga]at y z U G;rw[hgb]at A C U G;clear hga hgb;obtain⟨fn,aD,V,aw,hy,hR⟩:=G;unfold zF0 at hy;dsimp only at hy y z A C;have HR:=h_ (hR.mono (R':=fun e f=>∃b,e=.returned (.bool b)/\Hid ((b=true/\J ((cs.zip c).take (k+1)) f/\Only (Mine d.heap.size p r) wr.drew f)\/(b=false/\Jx ((cs.zip c).take (k+1)) f))) (by
    rintro e f (⟨rfl,h5,h6⟩|⟨rfl,h5⟩)
    .exact⟨true,rfl,h_ (.inl ⟨rfl,by rw[U.o];exact h5,h6⟩)⟩
    .exact⟨false,rfl,h_ (.inr ⟨rfl,by rw[U.o];exact h5⟩)⟩))
   clear hR N O S k2 I u;have ak:prog.follows .mixedOrders=true:=by kernel_rfl
   gi_wp2;gi_region_with ((refine HR.mono ?_;rintro e W3⟨b,rfl,j⟩))
   all_goals
    clear HR y z A C q1 q2 ah ai hy ak;rcases j.o with⟨rfl,g,L⟩|⟨rfl,g⟩
    .have t:=h_ g
     have ae:=h_ (w.drew.trans L);clear j g L;gi_wp2;go_roundw
     case rel=>exact⟨k+1,by omega,by go_num,t,ae⟩
     case measure=>simp[intOf];omega
    .have t:=h_ g
     clear j g;gi_wp2;refine bodyPost_ret (results_none rfl _ _ _) rfl ?_;exact⟨⟨_,rfl⟩,.inr ⟨_,⟨k+1,by rw[<-HM.o];omega,rfl⟩,t.o⟩⟩
  .obtain rfl:k=m:=by omega
   have ac:=h_ (show J (cs.zip c) wr from by
    have:=u.o;rwa[Am (by rw[Bd,<-T.o,<-HM.o];omega)]at this)
   clear Q;gi_wp2;go_end0;exact⟨⟨_,rfl⟩,.inl ⟨_,rfl,ac.o⟩⟩
def zmI(n:Nat)(hn:1<=n)(g h:Nat)(E G:Value)(cs:List ColB)(f:List CellB)(t:cs.length=f.length)(c:World)(S:∀W,Lz c W->RdC W E cs)(T:∀W,Lz c W->RdE W G f)(w:World)(I:Lz c w)(m:w.cell? ⟨g,0,none⟩=some E)(r:w.cell? ⟨h,0,none⟩=some G) :Through n prog 191 #[.pointer (some ⟨g,0,none⟩),.pointer (some ⟨h,0,none⟩)] zF0 (cs.zip f) (Only (Mine c.heap.size g h)) w:=by
 intro l J L W y X Y hY Q;have z:g<w.heap.size:=AI w _ m;have C:h<w.heap.size:=AI w _ r;have hz:(cs.zip f).length=cs.length:=by rw[Bd];omega
 refine(zCW n hn l g h E G cs f t c (fun a W=>∃p:List { x // x∈cs.zip f},p.map (·.1)=a/\J p W) (fun a W=>∃p:List { x // x∈cs.zip f},p.map (·.1)=a/\L p W) W.heap.size
  ?_ S T ?_ W (I.trans (y.mono I.size)) ((y.cell (p:=⟨g,0,none⟩) z).trans m) ((y.cell (p:=⟨h,0,none⟩) C).trans r) ⟨[],rfl,Q⟩).mono ?_
 .rintro s A B row⟨p,hp,d⟩hg hr;exact⟨p,hp,X p A B row d hg hr⟩
 .rintro a x N⟨p,hp,d⟩ac D
  obtain⟨O,u,b,j,hy,Z⟩:=hY p ⟨x,D⟩ N d (by
   have V:=congrArg List.length hp;rw[Ad]at V;omega)
  refine⟨O,u,b,j,hy,Z.mono ?_⟩;rintro e M (⟨i,v,U⟩|⟨i,v⟩)
  .exact .inl ⟨i,⟨p++[⟨x,D⟩],by rw[AC,hp];rfl,v⟩,U⟩
  exact .inr ⟨i,⟨p++[⟨x,D⟩],by rw[AC,hp];rfl,v⟩⟩
 rintro e M⟨i,⟨ys,rfl,p,hp,d⟩|⟨a,⟨k,hk,rfl⟩,p,hp,d⟩⟩
 .exact⟨i,.inl ⟨p,hp,d⟩⟩
 exact⟨i,.inr ⟨p,⟨k,by omega,hp⟩,d⟩⟩
def zuT(a b:Value)(cs:List ColB)(f:List CellB)(w:World)(c:RdC w a cs)(d:RdE w b f) :Calls prog 149 #[a,b] w fun e w'=>e=.returned (.func (.func 191) #[] #[.pointer (some ⟨w.heap.size,0,none⟩),.pointer (some ⟨w.heap.size+1,0,none⟩)]) /\w'=(w.alloc (.cells #[a] 22)).alloc (.cells #[b] 67):=by
 obtain⟨h,cap,rfl,_⟩:=RdG.shape c;obtain⟨i,g,rfl,_⟩:=RdG.shape d;generalize (cs.map colV).length=n1;generalize (f.map cellVs).length=n2;clear c d;go_enter func149,ntmps149;go_wp2;go_ret;exact⟨rfl,rfl⟩
def zCF(x:CellB×CellB):Array Value:=#[.agg #[.int .u64 (x.1.1:Int),.string x.1.2],.agg #[.int .u64 (x.2.1:Int),.string x.2.2]]
def zCV(n:Nat)(hn:1<=n)(l p r:Nat)(v1 v2:Value)(cs:List CellB)(c:List CellB)(s:cs.length=c.length)(d:World)(J Jx:List (CellB×CellB)->World->Prop)(B:Nat)(hJ:AbidesFrom B J)(X:∀W,Lz d W->RdE W v1 cs)(h2:∀W,Lz d W->RdE W v2 c)(hY:∀a x W,J a W->a.length<cs.length->x∈cs.zip c->YieldAt Fence.wide (n-1) prog l (zCF x) W fun e f=>(e=.returned (.bool true)/\J (a++[x]) f/\Only (Mine d.heap.size p r) W f)\/(e=.returned (.bool false)/\Jx (a++[x]) f))(W:World)(M:Lz d W)(D:W.cell? ⟨p,0,none⟩=some v1)(E:W.cell? ⟨r,0,none⟩=some v2)(h0:J [] W) :CallsIn Fence.wide n prog 151 #[.func (.yield l) #[] #[],.pointer (some ⟨p,0,none⟩),.pointer (some ⟨r,0,none⟩)] W fun e f=>(∃v,e=.returned v) /\((∃ys,ys=cs.zip c/\J ys f)\/(∃a,(∃k,k<=cs.length/\a=(cs.zip c).take k)/\Jx a f)):=by
 have am:=M.size;have aj:=(X W M).len;have al:=(X W M).small;obtain⟨m,hm⟩:=nm_ cs.length;rw[<-hm]at aj al;have HM:=h_ hm;have Y:p<W.heap.size:=AI W _ D;have Z:r<W.heap.size:=AI W _ E;have HW:=h_ M;have aa:=h_ D;have ab:=h_ E;have H1:=h_ X;have H2:=h_ h2;have HJ:=h_ hJ;have HY:=h_ hY;have T:=h_ s;have w:=h_ (Only.refl (Mine d.heap.size p r) W);have H0:=h_ (show J ((cs.zip c).take 0) W from h0);clear hm M E X h2 hJ hY s h0;refine callsIn_of_wp func151 rfl trivial ?_ rfl;simp only[ntmps151,Br,Ap,Bh,Nat.reduceAdd,Nat.reduceSub,BU,BV,Cc,B7,AA,AQ];gi_wp2;gi_loopw [7] (fun i wr=>∃k:Nat,k<=m/\i=.int .i64 k/\Hid (J ((cs.zip c).take k) wr)/\Hid (Only (Mine d.heap.size p r) W wr))
  (fun i _=>m-(intOf i).toNat)
 case atStart=>exact⟨0,Bg _,rfl,H0,w⟩
 case round=>
  clear H0 w D;obtain⟨k,hk,rfl,u,w⟩:=hrel;by_cases Q:k<m
  .have I:Lz d wr:=HW.trans (znD w.o am)
   have S:k<cs.length:=by rw[<-HM.o];exact Q
   have k2:k<c.length:=by rw[<-T.o];exact S
   obtain⟨ba,oa,ah,N,_⟩:=(H1.o wr I).get S;obtain⟨bb,ob,ai,O,_⟩:=(H2.o wr I).get k2;obtain⟨y,z⟩:=N _ (H1.o wr I);obtain⟨A,C⟩:=O _ (H2.o wr I);have q1:wr.cell? ⟨p,0,none⟩=some v1:=(Bi (w.block p Y (fun h=>h.2.1 rfl))).trans aa.o;have q2:wr.cell? ⟨r,0,none⟩=some v2:=(Bi (w.block r Z (fun h=>h.2.2 rfl))).trans ab.o;have U:=h_ (zo5 cs c T.o k S);have G:=HY.o _ (cs.getD k default,c.getD k default) wr.drew (zmC HJ.o u.o) (by rw[Aq,Bd];omega) (zyO cs c T.o k S);rcases hga:cs.getD k default with⟨xa,ya⟩;rcases hgb:c.getD k default with⟨xb,yb⟩;rw[hga]at y z U G;rw[hgb]at A C U G;clear hga hgb;obtain⟨fn,aD,V,aw,hy,hR⟩:=G;unfold zCF at hy;dsimp only at hy y z A C;have HR:=h_ (hR.mono (R':=fun e f=>∃b,e=.returned (.bool b)/\Hid ((b=true/\J ((cs.zip c).take (k+1)) f/\Only (Mine d.heap.size p r) wr.drew f)\/(b=false/\Jx ((cs.zip c).take (k+1)) f))) (by
    rintro e f (⟨rfl,h5,h6⟩|⟨rfl,h5⟩)
    .exact⟨true,rfl,h_ (.inl ⟨rfl,by rw[U.o];exact h5,h6⟩)⟩
    .exact⟨false,rfl,h_ (.inr ⟨rfl,by rw[U.o];exact h5⟩)⟩))
   clear hR N O S k2 I u;have ak:prog.follows .mixedOrders=true:=by kernel_rfl
   gi_wp2;gi_region_with ((refine HR.mono ?_;rintro e W3⟨b,rfl,j⟩))
   all_goals
    clear HR y z A C q1 q2 ah ai hy ak;rcases j.o with⟨rfl,g,L⟩|⟨rfl,g⟩
    .have t:=h_ g
     have ae:=h_ (w.drew.trans L);clear j g L;gi_wp2;go_roundw
     case rel=>exact⟨k+1,by omega,by go_num,t,ae⟩
     case measure=>simp[intOf];omega
    .have t:=h_ g
     clear j g;gi_wp2;refine bodyPost_ret (results_none rfl _ _ _) rfl ?_;exact⟨⟨_,rfl⟩,.inr ⟨_,⟨k+1,by rw[<-HM.o];omega,rfl⟩,t.o⟩⟩
  .obtain rfl:k=m:=by omega
   have ac:=h_ (show J (cs.zip c) wr from by
    have:=u.o;rwa[Am (by rw[Bd,<-T.o,<-HM.o];omega)]at this)
   clear Q;gi_wp2;go_end0;exact⟨⟨_,rfl⟩,.inl ⟨_,rfl,ac.o⟩⟩
def zfW(n:Nat)(hn:1<=n)(g h:Nat)(E G:Value)(cs:List CellB)(f:List CellB)(t:cs.length=f.length)(c:World)(S:∀W,Lz c W->RdE W E cs)(T:∀W,Lz c W->RdE W G f)(w:World)(I:Lz c w)(m:w.cell? ⟨g,0,none⟩=some E)(r:w.cell? ⟨h,0,none⟩=some G) :Through n prog 151 #[.pointer (some ⟨g,0,none⟩),.pointer (some ⟨h,0,none⟩)] zCF (cs.zip f) (Only (Mine c.heap.size g h)) w:=by
 intro l J L W y X Y hY Q;have z:g<w.heap.size:=AI w _ m;have C:h<w.heap.size:=AI w _ r;have hz:(cs.zip f).length=cs.length:=by rw[Bd];omega
 refine(zCV n hn l g h E G cs f t c (fun a W=>∃p:List { x // x∈cs.zip f},p.map (·.1)=a/\J p W) (fun a W=>∃p:List { x // x∈cs.zip f},p.map (·.1)=a/\L p W) W.heap.size
  ?_ S T ?_ W (I.trans (y.mono I.size)) ((y.cell (p:=⟨g,0,none⟩) z).trans m) ((y.cell (p:=⟨h,0,none⟩) C).trans r) ⟨[],rfl,Q⟩).mono ?_
 .rintro s A B row⟨p,hp,d⟩hg hr;exact⟨p,hp,X p A B row d hg hr⟩
 .rintro a x N⟨p,hp,d⟩ac D
  obtain⟨O,u,b,j,hy,Z⟩:=hY p ⟨x,D⟩ N d (by
   have V:=congrArg List.length hp;rw[Ad]at V;omega)
  refine⟨O,u,b,j,hy,Z.mono ?_⟩;rintro e M (⟨i,v,U⟩|⟨i,v⟩)
  .exact .inl ⟨i,⟨p++[⟨x,D⟩],by rw[AC,hp];rfl,v⟩,U⟩
  exact .inr ⟨i,⟨p++[⟨x,D⟩],by rw[AC,hp];rfl,v⟩⟩
 rintro e M⟨i,⟨ys,rfl,p,hp,d⟩|⟨a,⟨k,hk,rfl⟩,p,hp,d⟩⟩
 .exact⟨i,.inl ⟨p,hp,d⟩⟩
 exact⟨i,.inr ⟨p,⟨k,by omega,hp⟩,d⟩⟩
def zm6(a b:Value)(cs:List CellB)(f:List CellB)(w:World)(c:RdE w a cs)(d:RdE w b f) :Calls prog 103 #[a,b] w fun e w'=>e=.returned (.func (.func 151) #[] #[.pointer (some ⟨w.heap.size,0,none⟩),.pointer (some ⟨w.heap.size+1,0,none⟩)]) /\w'=(w.alloc (.cells #[a] 67)).alloc (.cells #[b] 67):=by
 obtain⟨h,cap,rfl,_⟩:=RdG.shape c;obtain⟨i,g,rfl,_⟩:=RdG.shape d;generalize (cs.map cellVs).length=n1;generalize (f.map cellVs).length=n2;clear c d;go_enter func103,ntmps103;go_wp2;go_ret;exact⟨rfl,rfl⟩
end
section
open Go.RowKit Go.Shelf
def lettersL:Bs:=[97,98,99,100,101,102,103,104,105,106,107,108,109,110,111,112,113,114,115,116,117,118,119,120,121,122,48,49,50,51,52,53,54,55,56,57,95]
def zu5(c:UInt8):lettersL.contains c=zbB c.toNat:=by
 have:∀n:Fin 256,lettersL.contains (UInt8.ofNat n.val)=zbB n.val:=by decide +kernel
 have h:=this ⟨c.toNat,c.toNat_lt⟩;rwa[UInt8.ofNat_toNat]at h
def zq3(l:Bs):(Lib.trimLeftS l lettersL).isEmpty=l.all (fun c=>zbB c.toNat):=by
 unfold Lib.trimLeftS
 induction l with
 | nil=>rfl
 | cons a r ih=>
  rw[List.dropWhile_cons,List.all_cons,<-zu5 a];by_cases b:lettersL.contains a=true
  .rw[Ab b,ih,b];rfl
  rw[Aa b];simp only[Bool.not_eq_true]at b;rw[b];rfl
def zu4(s:ByteArray)(l:Bs)(w:World)(h:RdS s l) :Calls prog 184 #[.string s,.string ({ data:=#[97,98,99,100,101,102,103,104,105,106,107,108,109,110,111,112,113,114,115,116,117,118,119,120,121,122,48,49,50,51,52,53,54,55,56,57,95]}:ByteArray)] w fun e w'=>e=.returned (.string ⟨(Lib.trimLeftS l lettersL).toArray⟩)/\Lz w w':=by
 have c:Calls prog 184 #[.string s,.string ({ data:=#[97,98,99,100,101,102,103,104,105,106,107,108,109,110,111,112,113,114,115,116,117,118,119,120,121,122,48,49,50,51,52,53,54,55,56,57,95]}:ByteArray)] w _:=Any.strings_TrimLeft_laid Tryz.laysTrim (by kernel_rfl) s _ w (by decide) (ascii_of_all (by decide));rw[show s.data.toList=l from by rw[h.eq]]at c;exact c
structure Were(w:World)(c m:Nat)(ah:List Bs):Prop where
 var:w.heap[c]?=some (.cells #[.map (some m)] 270 (0,0))
 set:ze2 w m ah
 ne:c≠m
def Were.later{w w':World}{c m:Nat}{a:List Bs}(h:Were w c m a){B:Nat}(d:Below B w w')(b:w.heap.size<=B):Were w' c m a :=
 ⟨(d.block c (AE (Aj.1 h.var).1 b)).trans h.var,h.set.later d b,h.ne⟩
def Were.kept{w w':World}{c m g:Nat}{a:List Bs}(h:Were w c m a)(b:w.grownBy w' (some g))(d:c≠g)(e:m≠g):Were w' c m a :=
 ⟨(b.block c (Aj.1 h.var).1 (by simpa using d)).trans h.var,h.set.kept b (by simpa using e),h.ne⟩
def Were.alloc{w:World}{c m:Nat}{a:List Bs}(h:Were w c m a)(o:Obj):Were (w.alloc o) c m a:=h.later ((Ac w.heap.size w).alloc l_ o) l_
def Were.lt{w:World}{c m:Nat}{a:List Bs}(h:Were w c m a):c<w.heap.size/\m<w.heap.size:=⟨(Aj.1 h.var).1,h.set.lt⟩
def ziF(w:World) :Calls prog 133 #[] w fun e w'=>e=.returned (.func (.func 183) #[] #[.pointer (some ⟨w.heap.size+1,0,none⟩)])/\Were w' (w.heap.size+1) w.heap.size []/\Lz w w':=by
 have j:=@run_makeMap prog;have i:∀(a:Fn)(first cap:Array Value)(w:World),(Instr.makeFunc a first cap).run prog w=.ok (.func a first cap) w:=fun _ _ _ _=>rfl;have b:=ze2.made w;obtain⟨k,l,c,d⟩:=new2 w (.map #[] 0) (.cells #[.map (some w.heap.size)] 270);have h:=h_ (b.alloc (.cells #[.map (some w.heap.size)] 270));have f:=h_ c;have g:=h_ d;clear b k l c d;go_enter func133,ntmps133;go_wp2;go_ret;exact⟨rfl,⟨f.o,h.o,by omega⟩,g.o⟩
def zHI(l:Bs)(a:List Bs):fine l a=(!l.isEmpty&&((Lib.trimLeftS l lettersL).isEmpty && !a.contains l)):=by
 unfold fine;rw[zq3]
variable {cs:List ColB} {k m:Nat} {w:World}
def zl1 {e f:World}(a:Lz w e)(b:e.grownBy f (some m)):w.grownBy f (some m) :=
 ⟨b.os.trans a.os,b.tape.trans a.tape,b.output.trans a.output,Ar a.size b.size,fun j d c=>(b.block j (AE d a.size) c).trans (a.block j d)⟩
def Were.put {w':World} {c:Nat}{b a:List Bs}(h:Were w c m b)(e:ze2 w' m a)(d:w.grownBy w' (some m)):Were w' c m a :=
 ⟨(d.block c (Aj.1 h.var).1 (by simpa using h.ne)).trans h.var,e,h.ne⟩
def zk7(s:ByteArray)(l:Bs)(c m:Nat)(j:List Bs)(w:World)(h:RdS s l)(G:Were w c m j)(Z:j.length<1000) :Calls prog 183 #[.string s,.pointer (some ⟨c,0,none⟩)] w fun e w'=>e=.returned (.bool (fine l j))/\Were w' c m (j++[l])/\w.grownBy w' (some m):=by
 have J:s.data.toList=l:=by rw[h.eq]
 have O:=h.small;have v:s.size<=maxLen:=by rw[h.eq];simp[ByteArray.size];unfold maxLen;omega
 have a:=h.toList;have C:=h_ (zHI l j);have H:=h_ J;have I:=h_ G;by_cases z:l=[]
 .have Q:(s.toList !=[])=false:=by rw[a,z];rfl
  have S:s.toList.isEmpty=true:=by rw[a,z];rfl
  have D:=cell_of_one G.var;have n:=h_ (show fine l j=false by rw[C.o,z];rfl);clear C z a J G;go_enter func183,ntmps183;go_wp2_with (at_mapUpdate;refine zfX m j I.set ?_ s v ?_ ?_ ?_ ?_)
  .rfl
  .rfl
  .rfl
  .unfold maxLen;omega
  intro N b g;rw[H.o]at b;have p:=h_ b;have d:=h_ g;clear b g D;go_wp2;go_ret;exact⟨by rw[n.o];rfl,I.put p.o d.o,d.o⟩
 have Q:(s.toList !=[])=true:=by rw[a];simpa using z
 have S:s.toList.isEmpty=false:=by rw[a];cases l<;>simp_all
 have u:l.isEmpty=false:=by cases l<;>simp_all
 have E:=zu4 s l w h;obtain⟨T,t⟩:=nm_ (⟨(Lib.trimLeftS l lettersL).toArray⟩:ByteArray);have k:T.toList=Lib.trimLeftS l lettersL:=by rw[t,Lib.toList_data]
 rw[<-t]at E;by_cases i:(Lib.trimLeftS l lettersL).isEmpty=true
 .have U:T.toList.isEmpty=true:=by rw[k];exact i
  have V:(T.toList==[])=true:=by rw[k];simpa using i
  have n:=h_ (show fine l j=!j.contains l by rw[C.o,u,i];rfl);clear C z a J G k t u i;go_enter func183,ntmps183;go_wp2_with fail;refine E.mono ?_;rintro e N⟨rfl,x⟩;have L:=h_ x;have f:=I.later x l_;have D:=cell_of_one f.var;have A:=f.set.look s v;rw[H.o]at A;obtain⟨Y,y⟩:=nm_ (j.contains l);rw[<-y]at A;have M:=h_ y;have r:=h_ f;clear x f y E;go_wp2_with (at_mapUpdate;refine zfX m j r.set ?_ s v ?_ ?_ ?_ ?_)
  .rfl
  .rfl
  .rfl
  .unfold maxLen;omega
  intro X b g;rw[H.o]at b;have p:=h_ b;have d:=h_ g;clear b g D A;go_wp2;go_ret;exact⟨by rw[n.o,<-M.o];rfl,r.put p.o d.o,zl1 L.o d.o⟩
 have U:T.toList.isEmpty=false:=by rw[k];simpa using i
 have V:(T.toList==[])=false:=by rw[k];simpa using i
 have n:=h_ (show fine l j=false by rw[C.o,u,show(Lib.trimLeftS l lettersL).isEmpty=false by simpa using i];rfl);clear C z a J G k t u i;go_enter func183,ntmps183;go_wp2_with fail;refine E.mono ?_;rintro e N⟨rfl,x⟩;have L:=h_ x;have f:=I.later x l_;have D:=cell_of_one f.var;have r:=h_ f;clear x f E;go_wp2_with (at_mapUpdate;refine zfX m j r.set ?_ s v ?_ ?_ ?_ ?_)
 .rfl
 .rfl
 .rfl
 .unfold maxLen;omega
 intro X b g;rw[H.o]at b;have p:=h_ b;have d:=h_ g;clear b g D;go_wp2;go_ret;exact⟨by rw[n.o];rfl,r.put p.o d.o,zl1 L.o d.o⟩
def kindOk(k:Int):Bool:=decide (0<=k/\k<=5)
def zuP(k:Int):(((checkC k 0 []:Nat):Int)==0)=kindOk k:=by
 unfold kindOk;by_cases h:0<=k/\k<=5
 .rw[Ah h];have:checkC k 0 []=0:=by
   unfold checkC;rw[Aa (by omega),Aa ?_,Aa (by simp)];rintro(⟨_,b⟩|⟨_,b⟩|⟨_,b⟩|⟨_,b⟩)
   .exact b rfl
   .exact b rfl
   .omega
   exact absurd b (by decide +kernel)
  rw[this];rfl
 rw[Af h];have:checkC k 0 []=10:=by unfold checkC;rw[Ab (by omega)]
 rw[this];rfl
def zgU(k:Int)(w:World)(i:Tabs w) :Calls prog 134 #[.int .i64 k] w fun e w'=>e=.returned (.bool (kindOk k))/\Lz w w':=by
 have c:=zuP k;obtain⟨n,b⟩:=nm_ (checkC k 0 []);rw[<-b]at c;have h:=h_ c;have j:=h_ b;have a:cellV 0 ⟨#[]⟩=.agg #[.int .u64 0,.string ⟨#[]⟩]:=rfl;have d:=zcV k 0 ⟨#[]⟩ [] w ⟨rfl,by simp⟩ i;rw[a,<-b]at d;clear c b a;go_enter func134,ntmps134;go_wp2_with fail;refine d.mono ?_;rintro e l⟨rfl,f⟩;have g:=h_ f;clear f d;go_wp2;go_ret;exact⟨by rw[<-h.o];rfl,g.o⟩
/- -/
def colL(c:ColB):Col:=(c.1.data.toList,c.2)
def colsL(cs:List ColB):List Col:=cs.map colL
def za4(cs:List ColB):(colsL cs).length=cs.length:=by simp[colsL]
def zbX(h:k<cs.length):(colsL cs).getD k default=colL (cs.getD k default):=by
 simp[colsL,List.getD,h]
def CS.get(h:CS cs)(a:k<cs.length):(cs.getD k default).1.size<=140737488351232/\-9223372036854775808<=(cs.getD k default).2/\(cs.getD k default).2<=9223372036854775807:=by
 have e:cs.getD k default=cs[k]:=by simp[List.getD,a]
 rw[e];exact h _ (AM _)
def zb0(v:Value)(cs:List ColB)(w:World)(h:RdC w v cs)(hC:CS cs)(hT:Tabs w) :Calls prog 94 #[v] w fun e w'=>e=.returned (.int .i64 (errS (colsL cs):Nat))/\Lz w w':=by
 have ag:=h.len;have aw:=h.small;by_cases x:cs.length=0
 .have r:=h_ (show errS (colsL cs)=4 by unfold errS;rw[za4,Ab x]);have q:((cs.length:Int)==0)=true:=by rw[x];rfl
  clear x h;go_enter func94,ntmps94;go_wp2;go_ret;exact⟨by rw[r.o];rfl,Ac _ _⟩
 have q:((cs.length:Int)==0)=false:=by rw[As];omega
 by_cases h8:8<cs.length
 .have r:=h_ (show errS (colsL cs)=13 by unfold errS;rw[za4,Aa x,Ab h8]);have S:decide ((cs.length:Int)>8)=true:=Ah (by omega);clear x h;go_enter func94,ntmps94;go_wp2;go_ret;exact⟨by rw[r.o];rfl,Ac _ _⟩
 have S:decide ((cs.length:Int)>8)=false:=Af (by omega);have r:=h_ (show errS (colsL cs)=errFrom [] (colsL cs) by unfold errS;rw[za4,Aa x,Aa h8]);clear x;have HH:=h_ h;clear h;go_enter func94,ntmps94;go_wp2_with fail;refine(ziF w).mono ?_;rintro e w1⟨rfl,hW,D⟩;have H:=h_ hW;have f:=h_ D;clear hW D;go_wp2;go_loopw [15] (fun i wr=>∃k:Nat,k<=cs.length/\i=.int .i64 k/\Hid (Lz w wr)/\Hid (Were wr (w.heap.size+1) w.heap.size (names ((colsL cs).take k)))/\Hid (errFrom [] (colsL cs)=errFrom (names ((colsL cs).take k)) ((colsL cs).drop k))) (fun i _=>cs.length-(intOf i).toNat)
 case atStart=>exact⟨0,by omega,rfl,f,H,h_ rfl⟩
 clear H f;obtain⟨k,hk,rfl,f,H,G⟩:=hrel;by_cases a:k<cs.length
 .have hr:=HH.later f.o l_;obtain⟨b,o,L,d,af⟩:=hr.get a;obtain⟨y,z⟩:=d _ hr;obtain⟨p,M,N⟩:=hC.get a;have c:=ziK (cs:=colsL cs) (k:=k) (by rw[za4];exact a);rw[zbX a]at c;rcases hcg:cs.getD k default with⟨s,kd⟩
  rw[hcg]at y z p M N c;dsimp only at y z p M N;have T:=zdA p;obtain⟨l,U⟩:=nm_ s.data.toList;rw[<-U]at T;have c:errFrom (names ((colsL cs).take k)) ((colsL cs).drop k)=if zaI (names ((colsL cs).take k)) (l,kd)≠0 then zaI (names ((colsL cs).take k)) (l,kd)else errFrom (names ((colsL cs).take (k+1))) ((colsL cs).drop (k+1)):=by
   rw[c];unfold colL;rw[<-U]
  have g:=h_ c;have HG:=h_ hcg;have av:=T.len;have aa:=L;have HL:=h_ U;have HS:=h_ T;clear c hcg d hr U T p;by_cases m:32<l.length
  .have q3:decide ((l.length:Int)>32)=true:=Ah (by omega)
   have u:=h_ (show errS (colsL cs)=7 by
    rw[r.o,G.o,g.o];have e:zaI (names ((colsL cs).take k)) (l,kd)=7:=by unfold zaI;exact Ab m
    rw[e];rfl)
   go_wp2;go_ret;exact⟨by rw[u.o];rfl,f.alloc f.size _⟩
  have q3:decide ((l.length:Int)>32)=false:=Af (by omega);have V:=h_ (f.alloc f.size (.cells #[.string s,.int .i64 kd] 62));obtain⟨N0,N1,N2⟩:=new1 wr (.cells #[.string s,.int .i64 kd] 62);have I:=h_ (H.alloc (.cells #[.string s,.int .i64 kd] 62));have Q1:=h_ N1;have ay:=f.size;have ax:=H.lt;clear N0 N1 N2;go_wp2_with fail;refine(zk7 s l (w.heap.size+1) w.heap.size _ _ HS.o I.o (by simp[names];omega)).mono ?_;rintro e w2⟨rfl,n,Z⟩;have J:=h_ n;have S:=(Z.block wr.heap.size (by simp) (by simp;omega)).trans Q1.o;have c0:=za2 (i:=0) S rfl;have c1:=za2 (i:=1) S rfl;have t:=h_ (V.grown Z (by simp;omega) (fun j hj=>by cases hj;exact l_));have Q:names ((colsL cs).take (k+1))=names ((colsL cs).take k)++[l]:=by
   rw[zaH (by rw[za4];exact a) default,zbX a,HG.o,HL.o];simp[names,colL]
  rw[<-Q]at n;replace J:=h_ n;clear n Z S I Q y z;by_cases A:fine l (names ((colsL cs).take k))=true
  .rw[A];go_wp2_with fail;refine(zgU kd w2 (hT.later t.o)).mono ?_;rintro e w3⟨rfl,D⟩;have E:=bT t D;have Y:=h_ (J.later D l_);clear D c0 c1;by_cases O:0<=kd/\kd<=5
   .rw[show kindOk kd=true from Ah O]
    have X:=h_ (show errFrom [] (colsL cs)=errFrom (names ((colsL cs).take (k+1))) ((colsL cs).drop (k+1)) by
     rw[G.o,g.o];have e:zaI (names ((colsL cs).take k)) (l,kd)=0:=by unfold zaI;rw[Aa m,Aa (by rw[A];decide),Aa (by dsimp only;omega)]
     rw[e];rfl)
    clear A;go_wp2;go_roundw
    case rel=>exact⟨k+1,by omega,by go_num,E,Y,X⟩
    simp[intOf];omega
   rw[show kindOk kd=false from Af O];have u:=h_ (show errS (colsL cs)=10 by
    rw[r.o,G.o,g.o];have e:zaI (names ((colsL cs).take k)) (l,kd)=10:=by unfold zaI;rw[Aa m,Aa (by rw[A];decide),Ab (by dsimp only;omega)]
    rw[e];rfl)
   clear A;go_wp2;go_ret;exact⟨by rw[u.o];rfl,E.o⟩
  have C:fine l (names ((colsL cs).take k))=false:=by simpa using A
  have u:=h_ (show errS (colsL cs)=2 by
   rw[r.o,G.o,g.o];have e:zaI (names ((colsL cs).take k)) (l,kd)=2:=by unfold zaI;rw[Aa m,Ab C]
   rw[e];rfl)
  rw[C];clear A C;go_wp2;go_ret;exact⟨by rw[u.o];rfl,t.o⟩
 obtain rfl:k=cs.length:=by omega
 have u:=h_ (show errS (colsL cs)=0 by
  rw[r.o,G.o,Bj (by rw[za4];omega)];rfl)
 clear a;go_wp2;go_ret;exact⟨by rw[u.o];rfl,f.o⟩
/- -/
def zFJ{l:Bs}(h:k<l.length)(p:UInt8->Bool):(l.take (k+1)).all p=((l.take k).all p&&p (l.getD k 0)):=by
 rw[zaH h 0,List.all_append];simp
def zxU(h:k<cs.length):names ((colsL cs).take (k+1))=names ((colsL cs).take k)++[(cs.getD k default).1.data.toList]:=by
 rw[zaH (by rw[za4];exact h) default,zbX h];simp[names,colL]
def zvP(s:ByteArray)(l:Bs)(v:Value)(cs:List ColB)(w:World)(h:RdS s l)(I:RdC w v cs) :Calls prog 71 #[.string s,v] w fun e w'=>e=.returned (.bool (fine l (names (colsL cs))))/\w'=w:=by
 have E:=h.len;have ak:=h.small;have g:=h.toList;have x:s.data.toList=l:=by rw[h.eq]
 have ag:=I.len;have ah:=I.small;by_cases z:l=[]
 .have q:s.toList.isEmpty=true:=by rw[g,z];rfl
  have q2:(s.toList==[])=true:=by rw[g,z];rfl
  have j:=h_ (show fine l (names (colsL cs))=false by rw[z];rfl);clear g x z E;go_enter func71,ntmps71;go_wp2;go_ret;exact⟨by rw[j.o];rfl,rfl⟩
 have q:s.toList.isEmpty=false:=by rw[g];cases l<;>simp_all
 have q2:(s.toList==[])=false:=by rw[g];simpa using z
 have a:l.isEmpty=false:=by cases l<;>simp_all
 have J:=h_ (show fine l (names (colsL cs))=(l.all (fun c=>zbB c.toNat) && !(names (colsL cs)).contains l) by unfold fine;rw[a];rfl);have HI:=h_ h.idx;have ac:=h_ g;have T:=h_ I;have A:=h_ x;clear g a z I x;go_enter func71,ntmps71;go_wp2;go_loop [5] (fun i=>∃k:Nat,k<=l.length/\i=.int .i64 k/\Hid ((l.take k).all (fun c=>zbB c.toNat)=true)) (fun i=>l.length-(intOf i).toNat)
 case atStart=>exact⟨0,by omega,rfl,h_ rfl⟩
 obtain⟨k,hk,rfl,y⟩:=hrel;by_cases d:k<l.length
 .have hx:=HI.o k d;obtain⟨c,p⟩:=nm_ ((l.getD k 0).toNat:Nat);have D:at8 l k=(c:Int):=by rw[p];rfl
  have af:c<256:=by rw[p];exact(l.getD k 0).toNat_lt
  rw[D]at hx;have f:=zFJ d (fun c=>zbB c.toNat);have N:=h_ (show(l.take (k+1)).all (fun c=>zbB c.toNat)=zbB c by rw[f,y.o,<-p];rfl);have L:=h_ (show l.all (fun c=>zbB c.toNat)=true->zbB c=true from fun S=>by
   rw[p];have e:l.getD k 0=l[k]:=by simp[List.getD,d]
   rw[e];exact CV.1 S _ (AM _))
  clear p D f;by_cases a:zbB c=true
  .have u:=h_ (N.trans a);unfold zbB at a;have a:=Cm a;clear N L;rcases a with⟨G,p2⟩|⟨G,p2⟩|G
   .have H:decide ((c:Int)≥97)=true:=Ah (by omega);have O:decide ((c:Int)<=122)=true:=Ah (by omega);go_wp2;go_round
    case rel=>exact⟨k+1,by omega,by go_num,u⟩
    simp[intOf];omega
   .have H:decide ((c:Int)≥97)=false:=Af (by omega);have O:decide ((c:Int)≥48)=true:=Ah (by omega);have Q:decide ((c:Int)<=57)=true:=Ah (by omega);go_wp2;go_round
    case rel=>exact⟨k+1,by omega,by go_num,u⟩
    simp[intOf];omega
   have H:decide ((c:Int)≥97)=false:=Af (by omega);have O:decide ((c:Int)≥48)=true:=Ah (by omega);have Q:decide ((c:Int)<=57)=false:=Af (by omega);have d4:((c:Int)==95)=true:=(by rw[G];rfl);clear G;go_wp2;go_round
   case rel=>exact⟨k+1,by omega,by go_num,u⟩
   simp[intOf];omega
  have j:=h_ (show fine l (names (colsL cs))=false by
   rw[J.o,show l.all (fun c=>zbB c.toNat)=false from by
    cases Z:l.all (fun c=>zbB c.toNat)with
    | false=>rfl
    | true=>exact absurd (L.o Z) a]
   rfl)
  unfold zbB at a;have a:¬(97<=c/\c<=122\/48<=c/\c<=57\/c=95):=fun S=>a (Ah S);clear N L;have d4:((c:Int)==95)=false:=by rw[As];omega
  by_cases G:97<=c
  .have H:decide ((c:Int)≥97)=true:=Ah (by omega);have O:decide ((c:Int)<=122)=false:=Af (by omega);have X:decide ((c:Int)≥48)=true:=Ah (by omega);have Q:decide ((c:Int)<=57)=false:=Af (by omega);go_wp2;go_ret;exact⟨by rw[j.o];rfl,rfl⟩
  have H:decide ((c:Int)≥97)=false:=Af (by omega);by_cases p2:48<=c
  .have X:decide ((c:Int)≥48)=true:=Ah (by omega);have Q:decide ((c:Int)<=57)=false:=Af (by omega);go_wp2;go_ret;exact⟨by rw[j.o];rfl,rfl⟩
  have X:decide ((c:Int)≥48)=false:=Af (by omega);go_wp2;go_ret;exact⟨by rw[j.o];rfl,rfl⟩
 obtain rfl:k=l.length:=by omega
 have C:=h_ (show fine l (names (colsL cs))=!(names (colsL cs)).contains l by
  have:=y.o;rw[Am l_]at this;rw[J.o,this];rfl)
 clear y J;go_wp2;go_loop [7] (fun i=>∃k:Nat,k<=cs.length/\i=.int .i64 k/\Hid ((names ((colsL cs).take k)).contains l=false)) (fun i=>cs.length-(intOf i).toNat)
 case atStart=>exact⟨0,by omega,rfl,h_ rfl⟩
 obtain⟨k,hk,rfl,y⟩:=hrel;by_cases d:k<cs.length
 .obtain⟨b,o,hi,p,Z⟩:=T.get d;obtain⟨U,V⟩:=p _ T.o;have n:=zxU d
  have m:=h_ (show(cs.getD k default).1.data.toList∈names (colsL cs)from by
   have e:cs.getD k default=cs[k]:=by simp[List.getD,d]
   rw[e];exact Au.2 ⟨colL cs[k],Au.2 ⟨cs[k],AM _,rfl⟩,rfl⟩)
  rcases hcg:cs.getD k default with⟨t,kd⟩;rw[hcg]at U V n m;dsimp only at U V n;have r:=h_ n;clear p n hcg;by_cases f:t=s
  .subst f
   have j:=h_ (show fine l (names (colsL cs))=false by
    rw[C.o];have:=m.o;dsimp only at this;rw[A.o]at this;simpa using this)
   clear r m;go_wp2;go_ret;exact⟨by rw[j.o];rfl,rfl⟩
  have aj:(t.toList==s.toList)=false:=by
   rw[As];intro e;rw[Lib.toList_data,Lib.toList_data]at e;exact f (by cases s;cases t;simp at e;rw[e])
  have M:=h_ (show(names ((colsL cs).take (k+1))).contains l=false by
   rw[r.o];have Y:=y.o;have h1:¬l=t.data.toList:=fun e=>f (by
    have:=A.o;rw[e]at this;cases s;cases t;simp at this;rw[this])
   simp at Y ⊢;exact⟨Y,h1⟩)
  clear r f m;go_wp2;go_round
  case rel=>exact⟨k+1,by omega,by go_num,M⟩
  simp[intOf];omega
 obtain rfl:k=cs.length:=by omega
 have j:=h_ (show fine l (names (colsL cs))=true by
  have:=y.o;rw[Am (by rw[za4];exact l_)]at this;rw[C.o,this];rfl)
 clear d;go_wp2;go_ret;exact⟨by rw[j.o];rfl,rfl⟩
/- -/
def RdC.upto{v:Value}(h:RdC w v cs)(i:Nat)(C:i<=cs.length) :∃t,(∀u,(Instr.slice 22 v none (some (.int .i64 (i:Int))) none).run prog u=.ok t u)/\∀w',RdC w' v cs->RdC w' t (cs.take i):=by
 obtain⟨m,cap,s,f,l,d⟩:=RdG.shape h;rw[Ad]at f d s;subst s;refine⟨.slice m i cap,fun u=>?_,fun w' p=>?_⟩
 .rw[run_slice_h (P:=prog) u 22 m cs.length cap underlying22 .i64 i (by omega) (by omega)];simp[go_sem,Result.andThen,sliced]
 have z:=RdC.small p;have a:(cs.take i).length=i:=by simp;omega
 refine⟨⟨m,cap,by rw[Ad,a],by rw[Ad,a];omega,l,fun hp=>d (by rw[Ad,a]at hp;omega)⟩,fun j n k u r=>?_,fun x A=>?_,by rw[Ad,a];omega⟩
 .rw[Ad,a]at n;have g:j<cs.length:=by omega
  have e:((cs.take i).map colV).getD j []=(cs.map colV).getD j []:=by
   rw[getD_map colV _ j (by rw[a];exact n) default,getD_map colV _ j g default];congr 1;simp[List.getD,n]
  rw[e]at r;have:=RdG.cells p j (by rw[Ad];exact g) k u r;obtain⟨b,o,y⟩:=d (by omega);subst y;rw[zaF]at this ⊢;exact this
 obtain⟨c,_,rfl⟩:=Au.1 A;rfl
def zbE(v:Value)(cs:List ColB)(w:World)(h:RdC w v cs)(hC:CS cs) :Calls prog 55 #[v] w fun e w'=>e=.returned (.int .i64 (errS (colsL cs):Nat))/\Lz w w':=by
 have Y:=h.len;have ai:=h.small;by_cases y:cs.length=0
 .have p:=h_ (show errS (colsL cs)=4 by unfold errS;rw[za4,Ab y]);have q:((cs.length:Int)==0)=true:=by rw[y];rfl
  clear y h;go_enter func55,ntmps55;go_wp2;go_ret;exact⟨by rw[p.o];rfl,Ac _ _⟩
 have q:((cs.length:Int)==0)=false:=by rw[As];omega
 by_cases U:8<cs.length
 .have p:=h_ (show errS (colsL cs)=13 by unfold errS;rw[za4,Aa y,Ab U]);have q2:decide ((cs.length:Int)>8)=true:=Ah (by omega);clear y h;go_enter func55,ntmps55;go_wp2;go_ret;exact⟨by rw[p.o];rfl,Ac _ _⟩
 have q2:decide ((cs.length:Int)>8)=false:=Af (by omega);have p:=h_ (show errS (colsL cs)=errFrom [] (colsL cs) by unfold errS;rw[za4,Aa y,Aa U]);clear y;have HH:=h_ h;have A:=h_ (Ac w.heap.size w);clear h;go_enter func55,ntmps55;go_wp2;go_loopw [3] (fun i wr=>∃k:Nat,k<=cs.length/\i=.int .i64 k/\Hid (Lz w wr)/\Hid (errFrom [] (colsL cs)=errFrom (names ((colsL cs).take k)) ((colsL cs).drop k))) (fun i _=>cs.length-(intOf i).toNat)
 case atStart=>exact⟨0,by omega,rfl,A,h_ rfl⟩
 clear A;obtain⟨k,hk,rfl,t,C⟩:=hrel;by_cases d:k<cs.length
 .have J:=HH.later t.o l_;obtain⟨b,o,X,c,V⟩:=J.get d;obtain⟨D,E⟩:=c _ J;obtain⟨Z,ak,L⟩:=J.upto k hk;have M:=h_ (L _ J);obtain⟨n,G,H⟩:=hC.get d;have a:=ziK (cs:=colsL cs) (k:=k) (by rw[za4];exact d);rw[zbX d]at a;rcases hcg:cs.getD k default with⟨s,kd⟩
  rw[hcg]at D E n G H a;dsimp only at D E n G H;have N:=zdA n;obtain⟨l,S⟩:=nm_ s.data.toList;rw[<-S]at N;have a:errFrom (names ((colsL cs).take k)) ((colsL cs).drop k)=if zaI (names ((colsL cs).take k)) (l,kd)≠0 then zaI (names ((colsL cs).take k)) (l,kd)else errFrom (names ((colsL cs).take (k+1))) ((colsL cs).drop (k+1)):=by
   rw[a];unfold colL;rw[<-S]
  have g:=h_ a;have ah:=N.len;have HS:=h_ N;have I:names (colsL (cs.take k))=names ((colsL cs).take k):=by unfold colsL;rw[Dg]
  have m:=fun u(hu:RdC u Z (cs.take k))=>zvP s l Z (cs.take k) u HS.o hu;rw[I]at m;obtain⟨ff,z⟩:=nm_ (fine l (names ((colsL cs).take k)));rw[<-z]at m;have f:=h_ m;have x:=h_ z;clear a hcg c J S N n I m z L;by_cases j:32<l.length
  .have q3:decide ((l.length:Int)>32)=true:=Ah (by omega)
   have r:=h_ (show errS (colsL cs)=7 by
    rw[p.o,C.o,g.o];have e:zaI (names ((colsL cs).take k)) (l,kd)=7:=by unfold zaI;exact Ab j
    rw[e];rfl)
   go_wp2;go_ret;exact⟨by rw[r.o];rfl,t.o⟩
  have q3:decide ((l.length:Int)>32)=false:=Af (by omega);cases ff with
  | false=>
   have r:=h_ (show errS (colsL cs)=2 by
    rw[p.o,C.o,g.o];have e:zaI (names ((colsL cs).take k)) (l,kd)=2:=by unfold zaI;rw[Aa j,Ab x.symm]
    rw[e];rfl)
   go_wp2_with fail;go_quiet ((go_at_call 71;exact Calls.quiet_of_same (f.o _ (M.later (Go.below_drewN (Ac _ _) _) l_))));go_wp2;go_ret;exact⟨by rw[r.o];rfl,Go.below_drewN t.o _⟩
  | true=>
   by_cases ag:0<=kd/\kd<=5
   .have O:=h_ (show errFrom [] (colsL cs)=errFrom (names ((colsL cs).take (k+1))) ((colsL cs).drop (k+1)) by
     rw[C.o,g.o];have e:zaI (names ((colsL cs).take k)) (l,kd)=0:=by unfold zaI;rw[Aa j,Aa (by rw[<-x.o];decide),Aa (by dsimp only;omega)]
     rw[e];rfl)
    have T:decide (kd<0)=false:=Af (by omega);have d2:decide (kd>5)=false:=Af (by omega);go_wp2_with fail;go_quiet ((go_at_call 71;exact Calls.quiet_of_same (f.o _ (M.later (Go.below_drewN (Ac _ _) _) l_))));go_wp2;go_roundw
    case rel=>exact⟨k+1,by omega,by go_num,h_ (Go.below_drewN t.o _),O⟩
    simp[intOf];omega
   have r:=h_ (show errS (colsL cs)=10 by
    rw[p.o,C.o,g.o];have e:zaI (names ((colsL cs).take k)) (l,kd)=10:=by unfold zaI;rw[Aa j,Aa (by rw[<-x.o];decide),Ab (by dsimp only;omega)]
    rw[e];rfl)
   by_cases Q:kd<0
   .have T:decide (kd<0)=true:=Ah Q;go_wp2_with fail;go_quiet ((go_at_call 71;exact Calls.quiet_of_same (f.o _ (M.later (Go.below_drewN (Ac _ _) _) l_))));go_wp2;go_ret;exact⟨by rw[r.o];rfl,Go.below_drewN t.o _⟩
   have T:decide (kd<0)=false:=Af (by omega);have d2:decide (kd>5)=true:=Ah (by omega);go_wp2_with fail;go_quiet ((go_at_call 71;exact Calls.quiet_of_same (f.o _ (M.later (Go.below_drewN (Ac _ _) _) l_))));go_wp2;go_ret;exact⟨by rw[r.o];rfl,Go.below_drewN t.o _⟩
 obtain rfl:k=cs.length:=by omega
 have r:=h_ (show errS (colsL cs)=0 by
  rw[p.o,C.o,Bj (by rw[za4];omega)];rfl)
 clear d;go_wp2;go_ret;exact⟨by rw[r.o];rfl,t.o⟩
/- -/
end
section
open Go.RowKit Go.Shelf
variable {b:CellB} {l:List (CellB×CellB)} {cs:List ColB} {B k:Nat} {v:Value} {W a:World}
attribute [local go_sem] Oper.semAt_some
def zaN(h:Lz W a):KeepsFrom B W a:=⟨h.size,fun k o _ b _=>(h.block k (Aj.1 b).1).trans b⟩
def za9{b:Nat}{t:TypeId}(h:Boxed W b t v)(c:Lz W a):Boxed a b t v:=(c.block b h.lt).trans h
def zdT{S:Nat->Prop}(h:Lz W a):Only S W a:=(Only.refl S W).below h l_
def zcU{row:Option Nat}{c:Array Value}{t:TypeId}{z:Nat×Nat}(h:W.heap[k]?=some (.cells c t z))(f:W.grownBy a row)(g:∀r,row=some r->B<=r/\∃o:Obj,W.heap[r]?=some o/\o.isCells=false):a.heap[k]?=some (.cells c t z) :=
 (f.block k (Aj.1 h).1 (fun e=>by
  obtain⟨_,o,b,d⟩:=g k e.symm;rw[h]at b;cases b;cases d)).trans h
def zfR(h j:Value)(cs:List ColB)(g:List CellB)(w:World)(N:RdC w h cs)(O:RdE w j g)(hC:CS cs)(hE:CES g)(hT:Tabs w) :Calls prog 102 #[h,j] w fun e w'=>e=.returned (.int .i64 (errC cs g:Nat))/\Lz w w':=by
 have aj:=N.len;have ak:=O.len;by_cases a:g.length=cs.length
 .have V:=h_ (show errC cs g=errP (cs.zip g)from by unfold errC;rw[Ab a]);obtain⟨n,hn⟩:=nm_ cs.length;rw[a,<-hn]at ak;rw[<-hn]at aj;have HN:=h_ hn;have HL:=h_ a;have R1:=h_ (fun I(G:Lz w I)=>N.later G l_);have R2:=h_ (fun I(G:Lz w I)=>O.later G l_);have MK:=h_ (fun I(G:Lz w I)=>zuT h j cs g I (N.later G l_) (O.later G l_));have HT:=h_ hT;clear hn a N O hT;refine(callsIn_wide (n:=5)).1 ?_;refine callsIn_of_wp_marks func102 rfl trivial ?_ rfl;simp only[ntmps102,Br,Ap,Bh,Nat.reduceAdd,Nat.reduceSub,BU,BV,Cc,B7,AA,AQ];have ae:=h_ ((Ac w.heap.size w).alloc l_ (.cells #[.int .i64 0] 27))
  gi_wp2_with (refine⟨trivial,?_⟩;gi_at_call 149;refine(callsIn_wide.2 (MK.o _ ae.o)).mono ?_;rintro e w'⟨rfl,rfl⟩)
  skip
  obtain⟨m,d⟩:∃m,((w.alloc (.cells #[.int .i64 0] 27)).alloc (.cells #[h] 22)).alloc (.cells #[j] 67)=m:=⟨_,rfl⟩;have bR:Boxed m w.heap.size 27 (.int .i64 0):=by rw[<-d];exact((Boxed.new w 27 (.int .i64 0)).alloc _).alloc _
  have b1:Boxed m (w.heap.size+1) 22 h:=by
   have:=Boxed.new (w.alloc (.cells #[.int .i64 0] 27)) 22 h;rw[Az]at this;rw[<-d];exact this.alloc _
  have b2:Boxed m (w.heap.size+1+1) 67 j:=by
   have:=Boxed.new ((w.alloc (.cells #[.int .i64 0] 27)).alloc (.cells #[h] 22)) 67 j;rw[Az,Az]at this;rw[<-d];exact this
  have aN:m.heap.size=w.heap.size+3:=by rw[<-d];simp
  have u:Lz w m:=by rw[<-d];exact(((Ac _ w).alloc l_ _).alloc (by simp) _).alloc (by simp;omega) _
  rw[d];clear d;have av:=h_ u;have al:cs.length=g.length:=HL.symm;refine zeC (by omega) (gf:=191) (lb:=#[.pointer (some ⟨w.heap.size+1,0,none⟩),.pointer (some ⟨w.heap.size+1+1,0,none⟩)]) rfl (enters_of func191 (by kernel_rfl) rfl)
   (zmI (5-1) (by omega) (w.heap.size+1) (w.heap.size+1+1) h j cs g al w R1.o R2.o m u b1.cell b2.cell) zBD (zBE (by omega) (by omega) (by omega)) (fun _=>rfl)
   (fun f W=>(Boxed W w.heap.size 27 (.int .i64 0)/\Lz w W)/\errP f=0)
   (fun c f W=>(Boxed W w.heap.size 27 (.int .i64 (errP f:Nat))/\Lz w W)/\(c=.ret/\errP f≠0))
   (OwnFrom.and (OwnFrom.and (Own.from (boxed_own _ _ _) _) (ownFrom_below l_ (by omega))) (ownFrom_pure _ _))
   (fun c=>OwnFrom.and (OwnFrom.and (Own.from (boxed_own _ _ _) _) (ownFrom_below l_ (by omega))) (ownFrom_pure _ _))
   ⟨⟨bR,u⟩,rfl⟩
   (fun x a' W=>∃J L,(W.heap[J]?=some (.cells #[.string x.1.1,.int .i64 x.1.2] 62 (0,0))/\W.heap[L]?=some (.cells #[.int .u64 (x.2.1:Int),.string x.2.2] 65 (0,0))) /\
    a'={ tmps:=#[h,j,undef,undef,.pointer (some ⟨w.heap.size,0,none⟩),.pointer (some ⟨J,0,none⟩),.pointer (some ⟨L,0,none⟩),undef,j,.int .i64 n,h,.int .i64 n,.bool false,h,j,
     .func (.func 191) #[] #[.pointer (some ⟨w.heap.size+1,0,none⟩),.pointer (some ⟨w.heap.size+1+1,0,none⟩)],
     .agg #[.string x.1.1,.int .i64 x.1.2],.agg #[.int .u64 (x.2.1:Int),.string x.2.2],undef,undef,undef,undef,undef,undef,undef],defers:=[]})
   ?_ ?_ ?_ ?_ ?_
  .rintro x a' s X Y row⟨J,L,⟨h4,h5⟩,h6⟩hg hr;exact⟨J,L,⟨zcU h4 hg hr,zcU h5 hg hr⟩,h6⟩
  .rintro l f⟨⟨s,kd⟩,⟨H,E⟩⟩W K hi hx hK;unfold zF0;dsimp only
   gi_wp2;obtain⟨N0,N1,N2,Z⟩:=new2 W (.cells #[.string s,.int .i64 kd] 62) (.cells #[.int .u64 (H:Int),.string E] 65);exact hK _ _ (zaN Z) (zdT Z) ⟨⟨za9 hi.1.1 Z,hi.1.2.trans (Z.mono hi.1.2.size)⟩,hi.2⟩ ⟨_,_,⟨N1,N2⟩,rfl⟩
  .rintro l f⟨⟨s,kd⟩,⟨H,E⟩⟩a' W⟨⟨b,t⟩,hp⟩⟨J,L,⟨T,C⟩,rfl⟩aM hx;have Q:=hE _ (List.of_mem_zip hx).2;have S:=CES.rdS Q;have U:=h_ t;have HP:=h_ hp;have aL:=b.lt;have M:=h_ b;have e1:=za2 T (i:=1) rfl;have e2:=za2 C (i:=0) rfl;have e3:=za2 C (i:=1) rfl;have CK:=h_ (zcV kd H E E.data.toList W S (HT.later t));obtain⟨c,hc⟩:=nm_ (checkC kd H E.data.toList);rw[<-hc]at CK;have HC:=h_ (show chk ((s,kd),(H,E))=c from hc.symm);have hd:1<=5-1-1:=(by omega);clear T C t hp b hc S Q hx;by_cases h0:c=0
   .subst h0
    gi_wp2_with (refine⟨trivial,?_⟩;gi_at_call 150;refine(CallsIn.inRound l (callsIn_wide.2 CK.o)).mono ?_;rintro e w'⟨rfl,b⟩);exact⟨zaN b,zdT b,⟨za9 M.o b,U.trans (b.mono U.size)⟩,by rw[zlC _ _ HP.o,HC.o]⟩
   have q:((c:Int)!=0)=true:=by rw[Ao];omega
   gi_wp2_with (refine⟨trivial,?_⟩;gi_at_call 150;refine(CallsIn.inRound l (callsIn_wide.2 CK.o)).mono ?_;rintro e w'⟨rfl,b⟩;have z:=za9 M.o b;have ag:=z.cell;have ah:=z.frozen);have he:errP (f++[((s,kd),(H,E))])=c:=(by rw[zlC _ _ HP.o,HC.o]);refine⟨(zaN b).trans ((KeepsOthers.setCell _ _ _).from _),⟨?_,?_⟩,rfl,by rw[he];exact h0⟩
   .rw[he];exact z.set _
   exact(U.trans (b.mono U.size)).setCell (p:=⟨w.heap.size,0,none⟩) l_ _
  .rintro D W hD⟨⟨b,t⟩,hp⟩hK;have ag:=b.cell;have ah:=b.frozen
   gi_wp2;have y:=(KeepsOthers.setCell W ⟨w.heap.size,0,none⟩ (.int .i64 0)).same D _ hK rfl;have A:=cell_kept (b.set (.int .i64 0)).cell (grownBy_putObj' _ D (.deferred none)) (fun r e=>by cases e;exact⟨_,y,rfl⟩);refine⟨by simp,.inl ⟨_,_,rfl,run_takeDeferred y,?_⟩⟩;refine⟨.int .i64 0,by simp[results,results102,go_sem,A],by rw[V.o,hp];rfl,?_⟩;exact(t.setCell (p:=⟨w.heap.size,0,none⟩) l_ _).trans (belowK_b (w:=w) l_ _ D _ _ (by omega) y rfl rfl)
  rintro D c k W hD hk⟨⟨b,t⟩,rfl,hp⟩hK;gi_wp2;have A:=cell_kept b.cell (grownBy_putObj' _ D (.deferred none)) (fun r e=>by cases e;exact⟨_,hK,rfl⟩);refine⟨by simp,.inl ⟨_,_,rfl,run_takeDeferred hK,?_⟩⟩;refine⟨_,by simp[results,results102,go_sem,A];rfl,by rw[V.o,zrX hp],?_⟩;exact t.trans (belowK_b (w:=w) l_ _ D _ _ (by omega) hK rfl rfl)
 have V:=h_ (show errC cs g=2 from by unfold errC;rw[Aa a]);have q:((g.length:Int)!=(cs.length:Int))=true:=by rw[Ao];omega
 have q2:(g.length !=cs.length)=true:=by simpa using a
 clear a N O hT;go_enter func102,ntmps102;go_wp2;refine bodyPost_ret (v:=.int .i64 2) (by simp[results,results102,go_sem]) rfl ?_;refine⟨by rw[V.o];rfl,?_⟩;exact(Ac w.heap.size w).alloc l_ _
/- -/
def errRow(cs:List ColB)(rs:List CellB):Nat:=if errS (colsL cs)=0 then errC cs rs else errS (colsL cs)
def zrV(cs:List ColB)(a:List CellB):errRow cs a<=13:=by
 unfold errRow;split
 ·have:=zy8 cs a;omega
 exact znL _
def za6 {w':World}{p:Addr}(b:Lz a w')(h:a.cell? p=some v):w'.cell? p=some v:=(b.cell (p:=p) (AI a _ h)).trans h
def zk8(g m:Value)(cs:List ColB)(c:List CellB)(w:World)(j:RdC w g cs)(p:RdE w m c)(r:CS cs)(v:CES c)(k:Tabs w) :Calls prog 99 #[g,m] w fun e w'=>e=.returned (.int .i64 (errRow cs c:Nat))/\Lz w w':=by
 have i:=h_ (zb0 g cs w j r k);have n:=h_ (fun t(l:Lz w t)=>zfR g m cs c t (j.later l l_) (p.later l l_) r v (k.later l));clear j p k;obtain⟨x,f⟩:=nm_ (errS (colsL cs));rw[<-f]at i;by_cases u:x=0
 .have d:=h_ (show errRow cs c=errC cs c from by unfold errRow;rw[Ab (by omega)]);obtain⟨y,s⟩:=nm_ (errC cs c);rw[<-s]at n d;subst u;clear f s;go_enter func99,ntmps99;go_wp2_with fail;refine i.mono ?_;rintro e z⟨rfl,b⟩;have a:=h_ b;clear b;go_wp2_with fail;refine(n.o _ a.o).mono ?_;rintro e A⟨rfl,b⟩;have h:=bT a b;clear b;go_wp2;go_ret;exact⟨by rw[d.o];rfl,h.o⟩
 have d:=h_ (show errRow cs c=x from by unfold errRow;rw[Aa (by omega),f]);have q:((x:Int)!=0)=true:=by rw[Ao];omega
 clear f;go_enter func99,ntmps99;go_wp2_with fail;refine i.mono ?_;rintro e z⟨rfl,b⟩;have a:=h_ b;clear b;go_wp2;go_ret;exact⟨by rw[d.o];rfl,a.o⟩
def zeA(v1 v2:Value)(cs:List ColB)(d:List CellB)(w:World)(Y:RdC w v1 cs)(Z:RdE w v2 d)(hC:CS cs)(hE:CES d) :Calls prog 80 #[v1,v2] w fun e w'=>e=.returned (.int .i64 (errRow cs d:Nat))/\Lz w w':=by
 have H:=h_ (zbE v1 cs w Y hC);have ag:=Y.len;have ah:=Z.len;have ai:=Z.small;have R1:=h_ (fun wz(hz:Lz w wz)=>Y.later hz l_);have R2:=h_ (fun wz(hz:Lz w wz)=>Z.later hz l_);clear Y Z;obtain⟨x,hx⟩:=nm_ (errS (colsL cs));rw[<-hx]at H;by_cases X:x=0
 .have G:=h_ (show errRow cs d=errC cs d from by unfold errRow;rw[Ab (by omega)]);subst X;clear hx;by_cases a:d.length=cs.length
  .have l:=h_ (show errRow cs d=errP (cs.zip d)from by rw[G.o];unfold errC;rw[Ab a]);obtain⟨n,hn⟩:=nm_ cs.length;rw[a,<-hn]at ah ai;rw[<-hn]at ag;have HN:=h_ hn;have HL:=h_ a;clear G hn a;go_enter func80,ntmps80;go_wp2_with fail;refine H.mono ?_;rintro e w1⟨rfl,b⟩;have f:=h_ b;clear b;go_wp2;go_loopw [6] (fun i wr=>∃k:Nat,k<=n/\i=.int .i64 k/\Hid (errP ((cs.zip d).take k)=0)/\Hid (Lz w wr)) (fun i _=>n-(intOf i).toNat)
   case atStart=>exact⟨0,by omega,rfl,h_ rfl,f⟩
   clear f H;obtain⟨k,hk,rfl,HP,E⟩:=hrel;by_cases N:k<n
   .have Q:k<cs.length:=(by rw[<-HN.o];exact N);have k2:k<d.length:=(by rw[HL.o];exact Q);have t:=R1.o wr E.o;have v:=R2.o wr E.o;obtain⟨ba,oa,L,I,_⟩:=t.get Q;obtain⟨z,A,M,J,_⟩:=v.get k2;obtain⟨m,g⟩:=I _ t;obtain⟨h,j⟩:=J _ v;have V:=h_ (zo5 cs d HL.symm k Q);have p:=hE.get k2;have s:=hC.get Q;rcases hga:cs.getD k default with⟨xa,D⟩
    rcases hgb:d.getD k default with⟨C,y⟩;rw[hga]at m g V s;rw[hgb]at h j V p;dsimp only at m g h j;have O:=CES.rdS p;obtain⟨c,hc⟩:=nm_ (checkC D C y.data.toList);have U:=h_ (show Calls prog 115 #[.int .i64 D,.agg #[.int .u64 (C:Int),.string y]] wr.drew fun e w'=>e=.returned (.int .i64 (c:Int))/\Lz w w' /\
      w'.cell? ⟨ba,oa+1,none⟩=some (.int .i64 D)/\w'.cell? ⟨z,A,none⟩=some (.int .u64 (C:Int))/\w'.cell? ⟨z,A+1,none⟩=some (.string y)from by
     rw[hc];refine(zdP D C y y.data.toList wr.drew O s.2 p.1).mono ?_;rintro e w'⟨he,b⟩;exact⟨he,E.trans ((Ac wr.heap.size wr).drew.trans b |>.mono E.size),za6 b g,za6 b h,za6 b j⟩)
    have HC:=h_ (show errP ((cs.zip d).take (k+1))=c from by rw[V.o,zlC _ _ HP.o,hc];rfl);clear t v I J hga hgb hc O s p Q k2 V;by_cases X:c=0
    .subst X;go_wp2;go_region_held3 (fun u=>u.cell? ⟨ba,oa+1,none⟩=some (.int .i64 D)/\u.cell? ⟨z,A,none⟩=some (.int .u64 (C:Int))/\u.cell? ⟨z,A+1,none⟩=some (.string y)) (first|go_keep|(exact⟨S,T,m3⟩))
      ((go_at_call 115;refine U.mono ?_;rintro e w'⟨rfl,b,S,T,m3⟩))
     have r:=h_ b;clear b S T m3 U m g h j L M;go_wp2;go_roundw
     case rel=>exact⟨k+1,by omega,by go_num,HC,r⟩
     simp[intOf];omega
    have q:((c:Int)!=0)=true:=(by rw[Ao];omega);go_wp2;go_region_held3 (fun u=>u.cell? ⟨ba,oa+1,none⟩=some (.int .i64 D)/\u.cell? ⟨z,A,none⟩=some (.int .u64 (C:Int))/\u.cell? ⟨z,A+1,none⟩=some (.string y)) (first|go_keep|(exact⟨S,T,m3⟩))
     ((go_at_call 115;refine U.mono ?_;rintro e w'⟨rfl,b,S,T,m3⟩))
    have r:=h_ b;clear b S T m3 U m g h j L M;go_wp2;go_ret;exact⟨by rw[l.o,zrX (k:=k+1) (by rw[HC.o];exact X),HC.o];rfl,r.o⟩
   obtain rfl:k=n:=by omega
   have HF:=h_ (show errP (cs.zip d)=0 from by
    have:=HP.o;rwa[Am (by rw[Bd,HL.o,<-HN.o];omega)]at this)
   clear N;go_wp2;go_ret;exact⟨by rw[l.o,HF.o];rfl,E.o⟩
  have l:=h_ (show errRow cs d=2 from by rw[G.o];unfold errC;rw[Aa a]);have q:((d.length:Int)!=(cs.length:Int))=true:=by rw[Ao];omega
  have q2:(d.length !=cs.length)=true:=by simpa using a
  clear a;go_enter func80,ntmps80;go_wp2_with fail;refine H.mono ?_;rintro e w1⟨rfl,b⟩;have f:=h_ b;clear b;go_wp2;go_ret;exact⟨by rw[l.o];rfl,f.o⟩
 have G:=h_ (show errRow cs d=x from by unfold errRow;rw[Aa (by omega),hx]);have q:((x:Int)!=0)=true:=by rw[Ao];omega
 clear hx;go_enter func80,ntmps80;go_wp2_with fail;refine H.mono ?_;rintro e w1⟨rfl,b⟩;have f:=h_ b;clear b;go_wp2;go_ret;exact⟨by rw[G.o];rfl,f.o⟩
def zeP(rs:List CellB):Int:=rs.foldl (fun n c=>wrap64 (n+(c.2.size:Int))) 0
def zwY{a:List CellB}(h:k<a.length):zeP (a.take (k+1))=wrap64 (zeP (a.take k)+((a.getD k default).2.size:Int)):=by
 rw[zaH h default];unfold zeP;rw[List.foldl_append];rfl
def zxB(v:Value)(d:List CellB)(w:World)(h:RdE w v d) :Calls prog 51 #[v] w fun e w'=>e=.returned (.int .i64 (zeP d))/\Lz w w':=by
 have G:=h.len;have u:=h.small;have H:=h_ h;obtain⟨n,r⟩:=nm_ d.length;rw[<-r]at G u;have z:=h_ r;clear h r;go_enter func51,ntmps51;go_wp2;go_loopw [3,4] (fun a i wr=>∃(k:Nat)(x:Int),k<=n/\i=.int .i64 k/\a=.int .i64 x/\Hid (x=zeP (d.take k))/\Hid (Lz w wr)) (fun _ i _=>n-(intOf i).toNat)
 case atStart=>exact⟨0,0,by omega,rfl,rfl,h_ rfl,h_ (Ac _ _)⟩
 obtain⟨k,x,I,rfl,rfl,C,p⟩:=hrel;by_cases l:k<n
 .have t:=H.later p.o l_;have y:k<d.length:=by rw[<-z.o];exact l
  obtain⟨b,o,D,c,f⟩:=t.get y;obtain⟨g,j⟩:=c _ t;have A:=h_ (zwY y);rcases hcg:d.getD k default with⟨m,s⟩;rw[hcg]at g j A;dsimp only at g j;clear t c hcg y f;go_wp2;go_roundw
  case rel=>exact⟨k+1,_,by omega,by go_num,rfl,h_ (by rw[A.o,C.o]),p⟩
  simp[intOf];omega
 obtain rfl:k=n:=by omega
 have E:=h_ (show x=zeP d from by rw[C.o,Am (by rw[<-z.o];exact l_)]);clear l;go_wp2;go_ret;exact⟨by rw[E.o];rfl,p.o⟩
/- -/
def cmpX(kind:Int)(a b:CellB):Int:=cmpC kind a.1 a.2.data.toList b.1 b.2.data.toList
def cmpL:List ColB->List (CellB×CellB)->Int
 | c::cs,p::ps=>if cmpX c.2 p.1 p.2≠0 then cmpX c.2 p.1 p.2 else cmpL cs ps
 | _,_=>0
def zgG:∀(cs:List ColB)(l m:List (CellB×CellB)),l.length<=cs.length->cmpL cs (l++m)=if cmpL cs l≠0 then cmpL cs l else cmpL (cs.drop l.length) m
 | [],[],m,_=>by
  have e:cmpL [] []=0:=by rw[cmpL];intros;contradiction
  rw[Aa (fun h=>h e)];rfl
 | c::cs,[],m,_=>by
  have e:cmpL (c::cs) []=0:=by rw[cmpL];intros;contradiction
  rw[Aa (fun h=>h e)];rfl
 | [],p::l,m,h=>by simp at h
 | c::cs,p::l,m,h=>by
  rw[AQ,cmpL,zgG cs l m (by simpa using h),cmpL];by_cases a:cmpX c.2 p.1 p.2=0
  .have b:¬cmpX c.2 p.1 p.2≠0:=fun d=>d a
   rw[Aa b,Aa b];rfl
  .rw[Ab a,Ab a,Ab a]
def zF6(cs:List ColB)(x:CellB×CellB)(h:0<cs.length):cmpL cs [x]=cmpX (cs.getD 0 default).2 x.1 x.2:=by
 cases cs with
 | nil=>simp at h
 | cons c r=>
  rw[cmpL];have e:cmpL r []=0:=by
   cases r with
   | nil=>rw[cmpL];intros;contradiction
   | cons _ _=>rw[cmpL];intros;contradiction
  rw[e];show _=cmpX c.2 x.1 x.2;split
  ·rfl
  rename_i h9;exact(Av h9).symm
def zsB(cs:List ColB)(l:List (CellB×CellB))(x:CellB×CellB)(h:l.length<cs.length)(a:cmpL cs l=0):cmpL cs (l++[x])=cmpX (cs.getD l.length default).2 x.1 x.2:=by
 rw[zgG cs l [x] (by omega),Aa (fun b=>b a),zF6 _ _ (by rw[Ay];omega)];have e:(cs.drop l.length).getD 0 default=cs.getD l.length default:=by simp[List.getD]
 rw[e]
def zsA(a:l.length<=cs.length)(h:cmpL cs (l.take k)≠0):cmpL cs l=cmpL cs (l.take k):=by
 have:=zgG cs (l.take k) (l.drop k) (by rw[Aq];omega);rw[A0,Ab h]at this;exact this
def cmpR(cs:List ColB)(a b:List CellB):Int:=if errRow cs a≠0\/errRow cs b≠0 then 0 else cmpL cs (a.zip b)
def zaQ{a:List CellB}(h:errRow cs a=0):errS (colsL cs)=0/\a.length=cs.length/\errP (cs.zip a)=0:=by
 unfold errRow at h;by_cases b:errS (colsL cs)=0
 .rw[Ab b]at h;unfold errC at h;by_cases c:a.length=cs.length
  .rw[Ab c]at h;exact⟨b,c,h⟩
  rw[Aa c]at h;cases h
 rw[Aa b]at h;exact absurd h b
/- -/
def zF9 {a:CellB}:(a.1=b.1/\a.2.data.toList=b.2.data.toList)↔a=b:=by
 obtain⟨x,s⟩:=a;obtain⟨y,t⟩:=b;constructor
 ·rintro⟨c,d⟩;dsimp only at c d;subst c;have:s=t:=by apply ByteArray.ext;exact Array.toList_inj.1 d
  rw[this]
 intro h;injection h with c d;subst c d;exact⟨rfl,rfl⟩
def zhA{k:Int} {a c:CellB}(g:ceS a)(h:ceS b)(d:checkC k a.1 a.2.data.toList=0)(e:checkC k b.1 b.2.data.toList=0)(f:checkC k c.1 c.2.data.toList=0) :cmpX k a b=-cmpX k b a/\(cmpX k a b=0↔a=b)/\(-1<=cmpX k a b/\cmpX k a b<=1)/\(cmpX k a b<0->cmpX k b c<0->cmpX k a c<0):=by
 obtain⟨i,j,p,_,r⟩:=zCM (x:=a.1) (y:=b.1) (z:=c.1) (l:=a.2.data.toList) (m:=b.2.data.toList) (n:=c.2.data.toList) (kind:=k) g.1 h.1 d e f;exact⟨i,j.trans zF9,p,r⟩
def okR:List ColB->List CellB->Prop
 | [],[]=>True
 | c::cs,x::r=>ceS x/\checkC c.2 x.1 x.2.data.toList=0/\okR cs r
 | _,_=>False
def zG2:∀{cs:List ColB}{r:List CellB},r.length=cs.length->CES r->errP (cs.zip r)=0->okR cs r
 | [],[],_,_,_=>trivial
 | [],_::_,h,_,_=>by simp at h
 | _::_,[],h,_,_=>by simp at h
 | c::cs,x::r,h,hE,h0=>by
  have b:=zrW h0;exact⟨hE x (by simp),b (c,x) (by simp),zG2 (by simpa using h) (fun y a=>hE y (by simp[a])) (zCB fun y a=>b y (by simp[a]))⟩
def zfJ(l:List (CellB×CellB)):cmpL [] l=0:=by
 cases l<;>(rw[cmpL];intros;contradiction)
def zsC:∀{cs:List ColB}{a b:List CellB},okR cs a->okR cs b->cmpL cs (a.zip b)=-cmpL cs (b.zip a)
 | [],_,_,_,_=>by rw[zfJ,zfJ];rfl
 | c::cs,[],_,h,_=>absurd h (by simp[okR])
 | c::cs,_::_,[],_,h=>absurd h (by simp[okR])
 | c::cs,x::a,y::b,ha,hb=>by
  obtain⟨f,g,_,_⟩:=zhA ha.1 hb.1 ha.2.1 hb.2.1 hb.2.1;have ih:=zsC ha.2.2 hb.2.2;rw[BF,BF,cmpL,cmpL];dsimp only;by_cases h:cmpX c.2 x y=0
  .have d:cmpX c.2 y x=0:=by omega
   rw[Aa (fun e=>e h),Aa (fun e=>e d)];exact ih
  .have d:cmpX c.2 y x≠0:=by omega
   rw[Ab h,Ab d];exact f
def zs9:∀{cs:List ColB}{a b:List CellB},okR cs a->okR cs b->(cmpL cs (a.zip b)=0↔a=b)
 | [],[],[],_,_=>by rw[zfJ];simp
 | [],_::_,_,h,_=>absurd h (by simp[okR])
 | [],[],_::_,_,h=>absurd h (by simp[okR])
 | c::cs,[],_,h,_=>absurd h (by simp[okR])
 | c::cs,_::_,[],_,h=>absurd h (by simp[okR])
 | c::cs,x::a,y::b,ha,hb=>by
  obtain⟨_,e,_,_⟩:=zhA ha.1 hb.1 ha.2.1 hb.2.1 hb.2.1;have ih:=zs9 ha.2.2 hb.2.2;rw[BF,cmpL];dsimp only;by_cases h:cmpX c.2 x y=0
  .rw[Aa (fun d=>d h),ih]
   have:=e.1 h;subst this;simp
  .rw[Ab h]
   constructor
   ·intro d;exact absurd d h
   .intro d;injection d with h1 h2;exact absurd (e.2 h1) h
def znQ:∀{cs:List ColB}{a b d:List CellB},okR cs a->okR cs b->okR cs d->cmpL cs (a.zip b)<=0->cmpL cs (b.zip d)<=0->cmpL cs (a.zip d)<=0/\((cmpL cs (a.zip b)<0\/cmpL cs (b.zip d)<0)->cmpL cs (a.zip d)<0)
 | [],_,_,_,_,_,_=>by rw[zfJ,zfJ,zfJ];omega
 | c::cs,[],_,_,h,_,_=>absurd h (by simp[okR])
 | c::cs,_::_,[],_,_,h,_=>absurd h (by simp[okR])
 | c::cs,_::_,_::_,[],_,_,h=>absurd h (by simp[okR])
 | c::cs,x::a,y::b,z::d,ha,hb,hd=>by
  obtain⟨_,l,_,m⟩:=zhA ha.1 hb.1 ha.2.1 hb.2.1 hd.2.1;obtain⟨_,k,_,_⟩:=zhA hb.1 hd.1 hb.2.1 hd.2.1 hd.2.1;have ih:=znQ ha.2.2 hb.2.2 hd.2.2;rw[BF,BF,BF,cmpL,cmpL,cmpL];dsimp only;intro g f;by_cases hp:cmpX c.2 x y=0
  .have:=l.1 hp
   subst this;have i:¬(cmpX c.2 x x≠0):=fun j=>j hp;rw[Aa i]at g ⊢;by_cases e:cmpX c.2 x z=0
   .have:=k.1 e
    subst this;rw[Aa i]at f;rw[Aa i,Aa i];exact ih g f
   .rw[Ab e]at f
    rw[Ab e];exact⟨f,fun _=>by omega⟩
  .rw[Ab hp]at g ⊢
   by_cases e:cmpX c.2 y z=0
   .have:=k.1 e
    subst this;have nq:¬(cmpX c.2 y y≠0):=fun j=>j e;rw[Ab hp];exact⟨g,fun _=>by omega⟩
   .rw[Ab e]at f ⊢
    have:=m (by omega) (by omega);rw[Ab (show cmpX c.2 x z≠0 by omega)];exact⟨by omega,fun _=>by omega⟩
def zg8{r:List CellB}(c:CES r)(h:errRow cs r=0):okR cs r:=by
 obtain⟨_,a,b⟩:=zaQ h;exact zG2 a c b
def zfI{a b:List CellB}(c:errRow cs a=0)(d:errRow cs b=0):cmpR cs a b=cmpL cs (a.zip b):=by
 unfold cmpR;rw[Aa (by omega)]
def okCR(c:Col):Prop:=c.1.length<=32/\c.1≠[]/\(c.1.all fun c=>zbB c.toNat)=true/\0<=c.2/\c.2<=5
def zuM(a:List Bs)(c:Col):zaI a c=0↔okCR c/\c.1 ∉ a:=by
 have j:fine c.1 a=true↔c.1≠[]/\(c.1.all fun c=>zbB c.toNat)=true/\c.1 ∉ a:=by
  unfold fine;rw[CX,CX];simp
 constructor
 ·intro h;obtain⟨f,k,g,i⟩:=zgF h;obtain⟨b,d,e⟩:=j.1 k;exact⟨⟨f,b,d,g,i⟩,e⟩
 rintro⟨⟨f,b,d,g,i⟩,e⟩;unfold zaI;rw[Aa (by omega),Aa (by rw[j.2 ⟨b,d,e⟩];simp),Aa (by omega)]
def zf3:∀(cs:List Col)(b:List Bs),errFrom b cs=0↔(∀c∈cs,okCR c)/\(names cs).Nodup/\∀c∈cs,c.1 ∉ b
 | [],b=>by simp[errFrom,names]
 | c::r,b=>by
  have ih:=zf3 r (b++[c.1]);have l:=zuM b c;have e:errFrom b (c::r)=0↔zaI b c=0/\errFrom (b++[c.1]) r=0:=by
   rw[errFrom];by_cases h:zaI b c=0
   .rw[Aa (by simpa using h)];simp[h]
   .rw[Ab (by simpa using h)];simp[h]
  rw[e,l,ih];unfold names;rw[AT,List.nodup_cons];constructor
  ·rintro⟨⟨d,g⟩,i,f,k⟩
   refine⟨?_,⟨?_,f⟩,?_⟩
   .intro x a
    rcases Ba.1 a with rfl|a
    .exact d
    .exact i x a
   .intro hm
    obtain⟨x,a,j⟩:=Au.1 hm;exact k x a (by rw[j];simp)
   .intro x a
    rcases Ba.1 a with rfl|a
    .exact g
    .intro hm;exact k x a (by simp[hm])
  .rintro⟨d,⟨g,i⟩,f⟩
   refine⟨⟨d c (by simp),f c (by simp)⟩,fun x a=>d x (by simp[a]),i,fun x a hm=>?_⟩;rcases AD.1 hm with hm|hm
   .exact f x (by simp[a]) hm
   .rw[AH]at hm
    exact g (Au.2 ⟨x,a,hm⟩)
def zlB(cs:List Col):errS cs=0↔(0<cs.length/\cs.length<=8)/\(∀c∈cs,okCR c)/\(names cs).Nodup:=by
 constructor
 ·intro h;obtain⟨d,e,f,_⟩:=zaO h;obtain⟨a,b,_⟩:=(zf3 cs []).1 f;exact⟨⟨d,e⟩,a,b⟩
 rintro⟨⟨d,e⟩,a,b⟩;unfold errS;rw[Aa (by omega),Aa (by omega)];exact(zf3 cs []).2 ⟨a,b,fun c _=>by simp⟩
/- -/
def ze9(U v2 v3:Value)(cs:List ColB)(a b:List CellB)(w:World)(h1:RdC w U cs)(h2:RdE w v2 a)(h3:RdE w v3 b)(hC:CS cs)(hA:CES a)(hB:CES b) :Calls prog 81 #[U,v2,v3] w fun e w'=>e=.returned (.int .i64 (cmpR cs a b))/\Lz w w':=by
 have aD:=h1.len;have aF:=h1.small;have R1:=h_ (fun f(t:Lz w f)=>h1.later t l_);have R2:=h_ (fun f(t:Lz w f)=>h2.later t l_);have R3:=h_ (fun f(t:Lz w f)=>h3.later t l_);obtain⟨x,hx⟩:=nm_ (errRow cs a);obtain⟨y,hy⟩:=nm_ (errRow cs b);have L:=h_ (fun f(t:Lz w f)=>(show Calls prog 80 #[U,v2] f fun e w'=>e=.returned (.int .i64 (x:Int))/\Lz f w' from by
  rw[hx];exact zeA U v2 cs a f (R1.o f t) (R2.o f t) hC hA))
 have CB:=h_ (fun f(t:Lz w f)=>(show Calls prog 80 #[U,v3] f fun e w'=>e=.returned (.int .i64 (y:Int))/\Lz f w' from by
  rw[hy];exact zeA U v3 cs b f (R1.o f t) (R3.o f t) hC hB))
 clear h1 h2 h3;by_cases h0:x=0
 .by_cases aG:y=0
  .have ak:=zaQ (show errRow cs a=0 from by omega);have al:=zaQ (show errRow cs b=0 from by omega);have N:=h_ (show cmpR cs a b=cmpL cs (a.zip b)from by unfold cmpR;rw[Aa (by omega)]);subst h0 aG;rw[show((0:Nat):Int)=0 from rfl]at L CB;have z:=h_ ak.2.1;have A:=h_ al.2.1;obtain⟨n,hn⟩:=nm_ cs.length;rw[<-hn]at aD aF;have HN:=h_ hn;clear hx hy ak al hn;go_enter func81,ntmps81;go_wp2_with fail;refine(L.o _ (Ac _ _)).mono ?_;rintro e w1⟨rfl,d⟩;have g:=h_ d;clear d;go_wp2_with fail;refine(CB.o _ g.o).mono ?_;rintro e w2⟨rfl,d⟩;have v:=bT g d;clear d;go_wp2;go_loopw [7] (fun i wr=>∃k:Nat,k<=n/\i=.int .i64 k/\Hid (cmpL cs ((a.zip b).take k)=0)/\Hid (Lz w wr)) (fun i _=>n-(intOf i).toNat)
   case atStart=>exact⟨0,by omega,rfl,h_ (by cases cs<;>rfl),v⟩
   clear g v L CB;obtain⟨k,hk,rfl,HP,M⟩:=hrel;by_cases aj:k<n
   .have k1:k<cs.length:=(by rw[<-HN.o];exact aj);have k2:k<a.length:=(by rw[z.o];exact k1);have k3:k<b.length:=(by rw[A.o];exact k1);have ac:a.length=b.length:=(by rw[z.o,A.o]);have H:=R1.o wr M.o;have I:=R2.o wr M.o;have J:=R3.o wr M.o;obtain⟨ba,oa,ag,ad,_⟩:=H.get k1;obtain⟨O,S,ah,ae,_⟩:=I.get k2;obtain⟨Q,T,ai,af,_⟩:=J.get k3;obtain⟨E,l⟩:=ad _ H;obtain⟨m,p⟩:=ae _ I;obtain⟨r,s⟩:=af _ J;have h:=hA.get k2;have j:=hB.get k3;have G:=hC.get k1
    have C:=h_ (show cmpL cs ((a.zip b).take (k+1))=cmpX (cs.getD k default).2 (a.getD k default) (b.getD k default)from by
     rw[zo5 a b ac k k2,zsB _ _ _ (by rw[Aq,Bd];omega) HP.o];rw[Aq,Bd,show min k (min a.length b.length)=k from by omega])
    rcases hga:cs.getD k default with⟨xa,Y⟩;rcases hgb:a.getD k default with⟨V,Z⟩;rcases hgc:b.getD k default with⟨X,yc⟩;rw[hga]at E l C G;rw[hgb]at m p C h;rw[hgc]at r s C j;dsimp only at E l m p r s;obtain⟨c,hc⟩:=nm_ (cmpC Y V Z.data.toList X yc.data.toList);have C:=h_ (C.trans hc.symm);have CK:=h_ (show Calls prog 116 #[.int .i64 Y,.agg #[.int .u64 (V:Int),.string Z],.agg #[.int .u64 (X:Int),.string yc]] wr.drew fun e w'=>e=.returned (.int .i64 c)/\Lz w w' /\
      w'.cell? ⟨ba,oa+1,none⟩=some (.int .i64 Y)/\(w'.cell? ⟨O,S,none⟩=some (.int .u64 (V:Int))/\w'.cell? ⟨O,S+1,none⟩=some (.string Z))/\(w'.cell? ⟨Q,T,none⟩=some (.int .u64 (X:Int))/\w'.cell? ⟨Q,T+1,none⟩=some (.string yc))from by
     rw[hc];refine(ztQ Y G.2 V X h.1 j.1 Z yc _ _ wr.drew (CES.rdS h) (CES.rdS j)).mono ?_;rintro e w'⟨he,d⟩;exact⟨he,M.trans ((Ac wr.heap.size wr).drew.trans d |>.mono M.size),za6 d l,⟨za6 d m,za6 d p⟩,za6 d r,za6 d s⟩)
    clear H I J ad ae af hga hgb hgc hc G h j k1 k2 k3 ac E;by_cases h0:c=0
    .subst h0;go_wp2;go_region_held3 (fun u=>u.cell? ⟨ba,oa+1,none⟩=some (.int .i64 Y)/\(u.cell? ⟨O,S,none⟩=some (.int .u64 (V:Int))/\u.cell? ⟨O,S+1,none⟩=some (.string Z))/\(u.cell? ⟨Q,T,none⟩=some (.int .u64 (X:Int))/\u.cell? ⟨Q,T+1,none⟩=some (.string yc))) (first|go_keep|(exact⟨m1,m2,m3⟩))
      ((go_at_call 116;refine CK.mono ?_;rintro e w'⟨rfl,d,m1,m2,m3⟩))
     have D:=h_ d;clear d m1 m2 m3 CK l m p r s ag ah ai;go_wp2;go_roundw
     case rel=>exact⟨k+1,by omega,by go_num,C,D⟩
     simp[intOf];omega
    have q:(c !=0)=true:=(by rw[Ao];omega);go_wp2;go_region_held3 (fun u=>u.cell? ⟨ba,oa+1,none⟩=some (.int .i64 Y)/\(u.cell? ⟨O,S,none⟩=some (.int .u64 (V:Int))/\u.cell? ⟨O,S+1,none⟩=some (.string Z))/\(u.cell? ⟨Q,T,none⟩=some (.int .u64 (X:Int))/\u.cell? ⟨Q,T+1,none⟩=some (.string yc))) (first|go_keep|(exact⟨m1,m2,m3⟩))
     ((go_at_call 116;refine CK.mono ?_;rintro e w'⟨rfl,d,m1,m2,m3⟩))
    have D:=h_ d;clear d m1 m2 m3 CK l m p r s ag ah ai;go_wp2;go_ret;exact⟨by rw[N.o,zsA (k:=k+1) (by rw[Bd,z.o,A.o];omega) (by rw[C.o];exact h0),C.o];rfl,D.o⟩
   obtain rfl:k=n:=by omega
   have HF:=h_ (show cmpL cs (a.zip b)=0 from by
    have:=HP.o;rwa[Am (by rw[Bd,z.o,A.o,<-HN.o];omega)]at this)
   clear aj;go_wp2;go_ret;exact⟨by rw[N.o,HF.o];rfl,M.o⟩
  have N:=h_ (show cmpR cs a b=0 from by unfold cmpR;rw[Ab (.inr (by omega))]);have q:((y:Int)!=0)=true:=by rw[Ao];omega
  subst h0;rw[show((0:Nat):Int)=0 from rfl]at L;clear hx hy;go_enter func81,ntmps81;go_wp2_with fail;refine(L.o _ (Ac _ _)).mono ?_;rintro e w1⟨rfl,d⟩;have g:=h_ d;clear d;go_wp2_with fail;refine(CB.o _ g.o).mono ?_;rintro e w2⟨rfl,d⟩;have v:=bT g d;clear d;go_wp2;go_ret;exact⟨by rw[N.o];rfl,v.o⟩
 have N:=h_ (show cmpR cs a b=0 from by unfold cmpR;rw[Ab (.inl (by omega))]);have q:((x:Int)!=0)=true:=by rw[Ao];omega
 clear hx hy;go_enter func81,ntmps81;go_wp2_with fail;refine(L.o _ (Ac _ _)).mono ?_;rintro e w1⟨rfl,d⟩;have g:=h_ d;clear d;go_wp2;go_ret;exact⟨by rw[N.o];rfl,g.o⟩
/- -/
attribute [local go_sem] Oper.semAt_some
def zDA(l:List (CellB×CellB)):Prop:=∀p∈l,p.1=p.2
def zsU(l:List (CellB×CellB)):Prop:=∃p∈l,p.1≠p.2
def zDA.snoc(h:zDA l)(x:CellB):zDA (l++[(x,x)]):=fun p hp=>by
 rcases AD.1 hp with hp|hp
 .exact h p hp
 .rw[AH.1 hp]
def zsU.snoc(l:List (CellB×CellB)){x y:CellB}(h:x≠y):zsU (l++[(x,y)]):=⟨(x,y),by simp,h⟩
def zip_same':∀{a b:List CellB},a.length=b.length->((∀p∈a.zip b,p.1=p.2)↔a=b)
 | [],[],_=>by simp
 | x::r,y::s,h=>by
  have ih:=zip_same' (a:=r) (b:=s) (by simpa using h);rw[BF];constructor
  ·intro c
   have d:x=y:=c (x,y) (by simp);have e:r=s:=ih.1 (fun p hp=>c p (by simp[hp]));rw[d,e]
  .intro c
   injection c with d e
   subst d;intro p hp;rcases Ba.1 hp with rfl|hp
   .rfl
   .exact ih.2 e p hp
 | [],_::_,h=>by simp at h
 | _::_,[],h=>by simp at h
def zDB{a b:List CellB}(h:a.length=b.length):zDA (a.zip b)↔a=b:=zip_same' h
def zvN(j m:Value)(a b:List CellB)(w:World)(S:RdE w j a)(T:RdE w m b) :Calls prog 106 #[j,m] w fun e w'=>e=.returned (.bool (decide (a=b)))/\Lz w w':=by
 have aq:=S.len;have ar:=T.len;by_cases d:a.length=b.length
 .have HL:=h_ d;have HZ:=h_ (zDB d);obtain⟨n,hn⟩:=nm_ a.length;rw[<-d,<-hn]at ar;rw[<-hn]at aq;have R1:=h_ (fun N(M:Lz w N)=>S.later M l_);have R2:=h_ (fun N(M:Lz w N)=>T.later M l_);have MK:=h_ (fun N(M:Lz w N)=>zm6 j m a b N (S.later M l_) (T.later M l_));clear hn d S T;refine(callsIn_wide (n:=5)).1 ?_;refine callsIn_of_wp_marks func106 rfl trivial ?_ rfl;simp only[ntmps106,Br,Ap,Bh,Nat.reduceAdd,Nat.reduceSub,BU,BV,Cc,B7,AA,AQ];have am:=h_ ((Ac w.heap.size w).alloc l_ (.cells #[.bool false] 4))
  gi_wp2_with (refine⟨trivial,?_⟩;gi_at_call 103;refine(callsIn_wide.2 (MK.o _ am.o)).mono ?_;rintro e w'⟨rfl,rfl⟩);obtain⟨L,U⟩:∃L,((w.alloc (.cells #[.bool false] 4)).alloc (.cells #[j] 67)).alloc (.cells #[m] 67)=L:=⟨_,rfl⟩;obtain⟨ax,bR,b1,b2,A⟩:=new3 w (.cells #[.bool false] 4) (.cells #[j] 67) (.cells #[m] 67);rw[U]at ax bR b1 b2 A ⊢;clear U;have ah:Boxed L (w.heap.size+1) 67 j:=b1;have aj:Boxed L (w.heap.size+1+1) 67 m:=b2;have al:Boxed L w.heap.size 4 (.bool false):=bR;clear b1 b2 bR;refine zeC (by omega) (gf:=151) (lb:=#[.pointer (some ⟨w.heap.size+1,0,none⟩),.pointer (some ⟨w.heap.size+1+1,0,none⟩)]) rfl (enters_of func151 (by kernel_rfl) rfl)
   (zfW (5-1) (by omega) (w.heap.size+1) (w.heap.size+1+1) j m a b HL.o w R1.o R2.o L A ah.cell aj.cell) zBD (zBE (by omega) (by omega) (by omega)) (fun _=>rfl)
   (fun g W=>(Boxed W w.heap.size 4 (.bool false)/\Lz w W)/\zDA g)
   (fun c g W=>(Boxed W w.heap.size 4 (.bool false)/\Lz w W)/\(c=.ret/\zsU g))
   (OwnFrom.and (OwnFrom.and (Own.from (boxed_own _ _ _) _) (ownFrom_below l_ (by omega))) (ownFrom_pure _ _))
   (fun c=>OwnFrom.and (OwnFrom.and (Own.from (boxed_own _ _ _) _) (ownFrom_below l_ (by omega))) (ownFrom_pure _ _))
   ⟨⟨al,A⟩,fun p hp=>by simp at hp⟩
   (fun(x:CellB×CellB) a' W=>∃O Q,(W.heap[O]?=some (Obj.cells #[.int .u64 (x.1.1:Int),.string x.1.2] 65 (0,0))/\W.heap[Q]?=some (Obj.cells #[.int .u64 (x.2.1:Int),.string x.2.2] 65 (0,0))) /\
    a'={ tmps:=#[j,m,undef,undef,.pointer (some ⟨w.heap.size,0,none⟩),.pointer (some ⟨O,0,none⟩),.pointer (some ⟨Q,0,none⟩),j,.int .i64 n,m,.int .i64 n,.bool false,j,m,
     .func (.func 151) #[] #[.pointer (some ⟨w.heap.size+1,0,none⟩),.pointer (some ⟨w.heap.size+1+1,0,none⟩)],
     .agg #[.int .u64 (x.1.1:Int),.string x.1.2],.agg #[.int .u64 (x.2.1:Int),.string x.2.2],undef,undef,undef],defers:=[]})
   ?_ ?_ ?_ ?_ ?_
  .rintro x a' s X Y row⟨O,Q,⟨h4,h5⟩,h6⟩hg hr;exact⟨O,Q,⟨zcU h4 hg hr,zcU h5 hg hr⟩,h6⟩
  .rintro l g⟨⟨I,tx⟩,⟨J,ty⟩⟩W K hi hx hK;unfold zCF;dsimp only
   gi_wp2;obtain⟨N0,N1,N2,N3⟩:=new2 W (.cells #[.int .u64 (I:Int),.string tx] 65) (.cells #[.int .u64 (J:Int),.string ty] 65);exact hK _ _ (zaN N3) (zdT N3) ⟨⟨za9 hi.1.1 N3,hi.1.2.trans (N3.mono hi.1.2.size)⟩,hi.2⟩ ⟨_,_,⟨N1,N2⟩,rfl⟩
  .rintro l g⟨⟨I,tx⟩,⟨J,ty⟩⟩a' W⟨⟨t,Z⟩,aa⟩⟨O,Q,⟨G,H⟩,rfl⟩au hx;have e2:=za2 G (i:=0) rfl;have e3:=za2 G (i:=1) rfl;have e4:=za2 H (i:=0) rfl;have e5:=za2 H (i:=1) rfl;have y:=h_ t;have z:=h_ Z;have ad:=h_ aa;have ao:=t.cell;have ap:=t.frozen;clear G H t Z aa hx au;by_cases f:I=J
   .subst f;by_cases u:tx=ty
    .subst u
     gi_wp2;exact⟨KeepsFrom.refl _ _,Only.refl _ _,⟨y.o,z.o⟩,ad.snoc _⟩
    obtain⟨q1,q2⟩:=zFT u;have HN:=h_ u;clear u;gi_wp2;refine⟨(KeepsOthers.setCell _ _ _).from _,⟨y.set _,z.setCell (p:=⟨w.heap.size,0,none⟩) l_ _⟩,rfl,zsU.snoc _ (fun h=>HN.o (by injection h))⟩
   have q1:((I:Int)==(J:Int))=false:=(by rw[As];omega);have q2:((I:Int)!=(J:Int))=true:=(by rw[Ao];omega);have q3:(I==J)=false:=(by simpa using f);have q4:(I !=J)=true:=(by simpa using f);have HN:=h_ f;clear f;gi_wp2;refine⟨(KeepsOthers.setCell _ _ _).from _,⟨y.set _,z.setCell (p:=⟨w.heap.size,0,none⟩) l_ _⟩,rfl,zsU.snoc _ (fun h=>HN.o (by injection h))⟩
  .rintro D W hD⟨⟨V,hB⟩,hp⟩hK;have ao:=V.cell;have ap:=V.frozen
   gi_wp2;have C:=(KeepsOthers.setCell W ⟨w.heap.size,0,none⟩ (.bool true)).same D _ hK rfl;have E:=cell_kept (V.set (.bool true)).cell (grownBy_putObj' _ D (.deferred none)) (fun r e=>by cases e;exact⟨_,C,rfl⟩);refine⟨by simp,.inl ⟨_,_,rfl,run_takeDeferred C,?_⟩⟩;refine⟨.bool true,by simp[results,results106,go_sem,E],by rw[Ah (HZ.1 hp)],?_⟩;exact(hB.setCell (p:=⟨w.heap.size,0,none⟩) l_ _).trans (belowK_b (w:=w) l_ _ D _ _ (by omega) C rfl rfl)
  rintro D c k W hD hk⟨⟨V,hB⟩,rfl,p,hp,aw⟩hK;gi_wp2;have E:=cell_kept V.cell (grownBy_putObj' _ D (.deferred none)) (fun r e=>by cases e;exact⟨_,hK,rfl⟩);refine⟨by simp,.inl ⟨_,_,rfl,run_takeDeferred hK,?_⟩⟩;refine⟨_,by simp[results,results106,go_sem,E];rfl,by rw[Af (fun h=>aw (HZ.2 h p (A9 hp)))],?_⟩;exact hB.trans (belowK_b (w:=w) l_ _ D _ _ (by omega) hK rfl rfl)
 have HE:=h_ (show decide (a=b)=false from Af (fun h=>d (by rw[h])));have q:((a.length:Int)!=(b.length:Int))=true:=by rw[Ao];omega
 have q2:(a.length !=b.length)=true:=by simpa using d
 clear d S T;go_enter func106,ntmps106;go_wp2;refine bodyPost_ret (v:=.bool false) (by simp[results,results106,go_sem]) rfl ?_;exact⟨by rw[HE.o],(Ac w.heap.size w).alloc l_ _⟩
end
section
open Go.RowKit Go.Shelf
def Vr(cs:List ColB)(r:List CellB):Prop:=errRow cs r=0/\CES r
def zbS(cs:List ColB):Z.TO (Vr cs) (cmpR cs):=by
 refine⟨fun {a b} d e=>?_,fun {a b} d e=>?_,fun {a b c} d e f g h=>?_⟩
 .rw[zfI d.1 e.1];exact zs9 (zg8 d.2 d.1) (zg8 e.2 e.1)
 .rw[zfI d.1 e.1,zfI e.1 d.1];exact zsC (zg8 d.2 d.1) (zg8 e.2 e.1)
 rw[zfI d.1 e.1]at g;rw[zfI e.1 f.1]at h;rw[zfI d.1 f.1];exact(znQ (zg8 d.2 d.1) (zg8 e.2 e.1) (zg8 f.2 f.1) (by omega) (by omega)).2 (.inl g)
def chkF(cs:List ColB):Option (List CellB)->List PairB->Nat
 | _,[]=>0
 | q,p::t=>if errRow cs p.1≠0 then errRow cs p.1 else if p.2=0 then 2 else
   match q with
   | some r=>if 0<=cmpR cs r p.1 then 9 else chkF cs (some p.1) t
   | none=>chkF cs (some p.1) t
def chkZ(cs:List ColB)(ps:List PairB):Nat:=if errS (colsL cs)≠0 then errS (colsL cs)else if 1024<ps.length then 13 else chkF cs none ps
def firstE(cs:List ColB):List PairB->Nat
 | []=>0
 | p::t=>if errRow cs p.1≠0 then errRow cs p.1 else firstE cs t
def overB(pt:List PairB):Bool:=pt.any fun p=>wE p.2 !=0
abbrev zdB(cs:List ColB)(ps:List PairB):List PairB:=Z.parts (cmpR cs) ps
abbrev canonC(cs:List ColB)(ps:List PairB):List PairB:=Z.canon (cmpR cs) ps
def clcE(cs:List ColB)(ps:List PairB):Nat :=
 if errS (colsL cs)≠0 then errS (colsL cs)else if firstE cs ps≠0 then firstE cs ps else if overB (zdB cs ps)=true then 12 else if 1024<(canonC cs ps).length then 13 else 0
def clcO(cs:List ColB)(ps:List PairB):List PairB:=if clcE cs ps=0 then canonC cs ps else[]
def sumE(cs:List ColB)(a b:List PairB):Nat:=if chkZ cs a≠0 then chkZ cs a else if chkZ cs b≠0 then chkZ cs b else clcE cs (a++b)
def sumO(cs:List ColB)(a b:List PairB):List PairB:=if sumE cs a b=0 then canonC cs (a++b)else[]
section
variable{cs:List ColB}{ps qs a b:List PairB}
def zrP:∀(ps:List PairB),firstE cs ps<=13
 | []=>by simp[firstE]
 | p::t=>by
  have c:=zrV cs p.1;have d:=zrP t;unfold firstE;split<;>omega
def firstE_zero:∀{ps:List PairB},firstE cs ps=0↔∀p∈ps,errRow cs p.1=0
 | []=>by simp[firstE]
 | p::t=>by
  unfold firstE;by_cases h:errRow cs p.1=0
  .rw[Aa (fun c=>c h),firstE_zero]
   simp[h]
  .rw[Ab h]
   constructor
   ·intro c;exact absurd c h
   .intro c;exact absurd (c p (by simp)) h
def zuW(c:PSO ps)(h:∀p∈ps,errRow cs p.1=0):Z.AllV (Vr cs) ps:=fun p hp=>⟨h p hp,(c p hp).1⟩
def zCN(v:PSO ps):∀{q:Option (List CellB)},(∀r,q=some r->Vr cs r)->(chkF cs q ps=0↔Z.isSet (Vr cs) (cmpR cs) ps/\∀r,q=some r->∀p∈ps,cmpR cs r p.1<0):=by
 induction ps with
 | nil=>intro q _;simp[chkF,Z.isSet.nil]
 | cons p t ih=>
  intro q y;have n:PSO t:=v.sub (fun x c=>by simp[c]);have g:∀(l:Vr cs p.1)(u:p.2≠0),(Z.isSet (Vr cs) (cmpR cs) (p::t)↔Z.isSet (Vr cs) (cmpR cs) t/\∀x∈t,cmpR cs p.1 x.1<0):=fun l u=>by
   constructor
   ·intro h;exact⟨h.sub (List.sublist_cons_self p t),(BQ.1 h.srt).1⟩
   rintro⟨f,j⟩;exact⟨BQ.2 ⟨j,f.srt⟩,fun x c=>by rcases Ba.1 c with rfl|c;exact l;exact f.all x c,fun x c=>by rcases Ba.1 c with rfl|c;exact u;exact f.nz x c⟩
  unfold chkF;by_cases f:errRow cs p.1=0
  .have l:Vr cs p.1:=⟨f,(v p (by simp)).1⟩;rw[Aa (fun w=>w f)];by_cases j:p.2=0
   .rw[Ab j];constructor
    ·intro h;cases h
    rintro⟨h,_⟩;exact absurd j (h.nz p (by simp))
   rw[Aa j];have s:=ih n (q:=some p.1) (fun r e=>by injection e with e;rw[<-e];exact l);have d:chkF cs (some p.1) t=0↔Z.isSet (Vr cs) (cmpR cs) (p::t):=by
    rw[s,g l j];constructor
    ·rintro⟨k,m⟩;exact⟨k,m p.1 rfl⟩
    rintro⟨k,m⟩;exact⟨k,fun r e=>by injection e with e;rw[<-e];exact m⟩
   cases q with
   | none=>
    show chkF cs (some p.1) t=0↔_;rw[d];constructor
    ·intro h;exact⟨h,fun r e=>by cases e⟩
    rintro⟨h,_⟩;exact h
   | some r=>
    have e:=y r rfl;show(if 0<=cmpR cs r p.1 then 9 else chkF cs (some p.1) t)=0↔_;by_cases k:0<=cmpR cs r p.1
    .rw[Ab k];constructor
     ·intro h;cases h
     rintro⟨_,h⟩;have:=h r rfl p (by simp);omega
    rw[Aa k,d];constructor
    ·intro h;refine⟨h,fun z i x c=>?_⟩;injection i with i
     subst i;rcases Ba.1 c with rfl|c
     .omega
     exact(zbS cs).trans e l (h.all x (by simp[c])) (by omega) ((BQ.1 h.srt).1 x c)
    rintro⟨h,_⟩;exact h
  rw[Ab f];constructor
  ·intro h;exact absurd h f
  rintro⟨h,_⟩;exact absurd (h.all p (by simp)).1 f
def zb9(g:PSO ps):chkZ cs ps=0↔errS (colsL cs)=0/\ps.length<=1024/\Z.isSet (Vr cs) (cmpR cs) ps:=by
 unfold chkZ;by_cases c:errS (colsL cs)=0
 .rw[Aa (fun f=>f c)];by_cases e:1024<ps.length
  .rw[Ab e];constructor
   ·intro h;cases h
   rintro⟨_,h,_⟩;omega
  rw[Aa e,zCN g (fun r d=>by cases d)];constructor
  ·rintro⟨h,_⟩;exact⟨c,by omega,h⟩
  rintro⟨_,_,h⟩;exact⟨h,fun r d=>by cases d⟩
 rw[Ab c];constructor
 ·intro h;exact absurd h c
 rintro⟨h,_⟩;exact absurd h c
def zyZ{x:Int}:wE x=0↔i64 x:=by
 by_cases h:i64 x
 .rw[show wE x=0 from Ab h];simp[h]
 rw[show wE x=12 from Aa h];simp[h]
def zkU:overB ps=false↔∀p∈ps,i64 p.2:=by
 unfold overB;rw[List.any_eq_false];constructor
 ·intro h p hp;have:=h p hp;exact zyZ.1 (by simpa using this)
 intro h p hp;have:=zyZ.2 (h p hp);simp[this]
def zp1:i64 0:=⟨by omega,by omega⟩
def zlR(l:PSO ps):clcE cs ps=0↔errS (colsL cs)=0/\Z.AllV (Vr cs) ps/\(∀r,i64 (Z.sumW ps r))/\(canonC cs ps).length<=1024:=by
 unfold clcE;by_cases d:errS (colsL cs)=0
 .rw[Aa (fun i=>i d)];by_cases e:firstE cs ps=0
  .have k:=zuW (cs:=cs) l (firstE_zero.1 e);have c:=Z.parts_all (zbS cs) k (I:=i64) zp1;rw[Aa (fun i=>i e)];by_cases f:overB (zdB cs ps)=true
   .rw[Ab f];constructor
    ·intro h;cases h
    rintro⟨_,_,h,_⟩;have:=zkU.2 (c.2 h);rw[f]at this;cases this
   rw[Aa f];have g:=c.1 (zkU.1 (by simpa using f));by_cases j:1024<(canonC cs ps).length
   .rw[Ab j];constructor
    ·intro h;cases h
    rintro⟨_,_,_,h⟩;omega
   rw[Aa j];constructor
   ·intro _;exact⟨d,k,g,by omega⟩
   intro _;rfl
  rw[Ab e];constructor
  ·intro h;exact absurd h e
  rintro⟨_,h,_⟩;exact absurd (firstE_zero.2 fun p hp=>(h p hp).1) e
 rw[Ab d];constructor
 ·intro h;exact absurd h d
 rintro⟨h,_⟩;exact absurd h d
def zEH{c:List PairB}(h:∀r,Z.has c r->Z.has ps r)(d:PSO ps)(g:∀p∈c,i64 p.2):PSO c:=fun p hp=>by
 obtain⟨q,f,e⟩:=h p.1 ⟨p,hp,rfl⟩;refine⟨?_,g p hp⟩;rw[<-e];exact(d q f).1
def zsK(d:PSO ps)(f:Z.AllV (Vr cs) ps)(g:∀r,i64 (Z.sumW ps r)):PSO (canonC cs ps):=by
 have c:=(Z.parts_all (zbS cs) f (I:=i64) zp1).2 g;refine zEH (ps:=ps) (fun r⟨p,hp,e⟩=>(Z.parts_has ps r).1 ⟨p,(List.mem_filter.1 hp).1,e⟩) d fun p hp=>c p (List.mem_filter.1 hp).1
def zF7(c:PSO ps):PSO (clcO cs ps):=by
 unfold clcO;split
 ·rename_i h;obtain⟨_,d,e,_⟩:=(zlR c).1 h;exact zsK c d e
 intro p hp;simp at hp
end
/- -/
def zG1:Elt:=⟨105,33,1,24,.slice none 0 0⟩
def ztV:zG1.Ok:=⟨underlying105,by kernel_rfl,by kernel_rfl,rfl,by decide⟩
def RdPs(w:World)(v:Value)(vals:List Value):Prop:=RdG zG1 w v (vals.map fun x=>[x])
def zxI{w:World}{b:Nat}{d:List Value}{z:Nat×Nat}(h:w.heap[b]?=some (.cells d.toArray 33 z))(k:d.length<=100):RdPs w (.slice (some ⟨b,0,none⟩) d.length d.length) d:=by
 refine⟨⟨_,_,by rw[Ad],by rw[Ad];omega,(by intro h;cases h),fun _=>⟨_,_,rfl⟩⟩,fun i f j u e=>?_,fun x g=>?_,by rw[Ad];omega⟩
 .rw[Ad]at f;rw[getD_map (fun x=>[x]) d i f undef]at e;obtain rfl:j=0:=by
   have:=(AG.1 e).1;simpa using this
  have e:d.getD i undef=u:=by simpa using e
  rw[zaF,Ag _ _ _ _ _ z h,Ck];show d[0+(i*1+0)]?=some u;rw[show 0+(i*1+0)=i from by omega,AJ f,<-e];simp[List.getD,f]
 obtain⟨c,_,rfl⟩:=Au.1 g;rfl
def ziE(r:List CellB):Prop:=r.length<=8/\∀c∈r,c.2.size<=256
def gP(p:PairB):Int:=1+zeP p.1+(p.1.length:Int)
def gS:List PairB->Int
 | []=>0
 | p::t=>gP p+gS t
def zC6(a b:List PairB):gS (a++b)=gS a+gS b:=by
 induction a with
 | nil=>simp[gS]
 | cons p t ih=>simp only[AQ,gS,ih];omega
def zoB{x:Int}(h:-9223372036854775808<=x/\x<=9223372036854775807):wrap64 x=x:=by unfold wrap64;omega
def zk5:∀(r:List CellB)(x:Int),r.length<=100->(∀c∈r,c.2.size<=256)->0<=x->x+256*(r.length:Int)<=1000000->x<=r.foldl (fun n c=>wrap64 (n+(c.2.size:Int))) x/\r.foldl (fun n c=>wrap64 (n+(c.2.size:Int))) x<=x+256*(r.length:Int)
 | [],x,_,_,_,_=>by simp
 | c::t,x,hl,h,h0,h1=>by
  have g:=h c (by simp);simp only[Ap]at h1 hl ⊢
  push_cast at h1 ⊢
  have e:wrap64 (x+(c.2.size:Int))=x+(c.2.size:Int):=zoB ⟨by omega,by omega⟩;rw[List.foldl_cons,e];have:=zk5 t (x+(c.2.size:Int)) (by omega) (fun d f=>h d (by simp[f])) (by omega) (by omega);omega
def zw4{p:PairB}(h:ziE p.1):0<=zeP p.1/\zeP p.1<=2048/\1<=gP p/\gP p<=2057:=by
 obtain⟨f,d⟩:=h;have:=zk5 p.1 0 (by omega) d (by omega) (by omega);have e:zeP p.1=p.1.foldl (fun n c=>wrap64 (n+(c.2.size:Int))) 0:=rfl;unfold gP;rw[e];omega
def zw3:∀{l:List PairB},(∀p∈l,ziE p.1)->(l.length:Int)<=gS l/\gS l<=2057*(l.length:Int)
 | [],_=>by simp[gS]
 | p::t,h=>by
  have d:=zw4 (h p (by simp));have e:=zw3 (l:=t) (fun q c=>h q (by simp[c]));simp only[gS,Ap];push_cast;omega
def fewG(l:List PairB):Prop:=(∀p∈l,ziE p.1)->gS l<=5000
def zrG(v:Value)(f:List Value)(c:List (List PairB))(w:World)(h:RdPs w v f)(aF:f.length<=12)(hl:c.length=f.length)(Y:∀i,i<f.length->∀wz,Lz w wz->RdP wz (f.getD i undef) (c.getD i [])) :Calls prog 26 #[v] w fun e w'=>∃x:Int,e=.returned (.int .i64 x)/\(x=0\/x=1)/\(x=0->fewG c.flatten)/\Lz w w':=by
 have t:=RdG.len h ztV;rw[Ad]at t;have HH:=h_ h;have HR:=h_ Y;have av:=h_ (show ∀i,i<f.length->(c.getD i []).length<=140737488351232 from fun i hi=>(Y i hi w (Ac _ _)).small);obtain⟨n,hn⟩:=nm_ f.length;rw[<-hn]at t aF;have t:∀u,(Builtin.len_ #[105] 3 #[v]).run prog u=.ok (.int .i64 (n:Int)) u:=t;have M:=h_ hn;have HL:=h_ hl;have O:(∀i,i<=n->((c.take i).flatten.length:Int)<=(i:Int)*140737488351232):=fun i=>by
  induction i with
  | zero=>intro _;simp
  | succ i ih=>
   intro hi;have h1:=ih (by omega);have aC:i<c.length:=(by rw[HL.o,<-M.o];omega);have h2:=av.o i (by rw[<-M.o];omega);have e:c.take (i+1)=c.take i++[c.getD i []]:=by
    rw[BL];simp[List.getD,aC]
   rw[e,Cw,Ae,List.flatten_singleton];push_cast;omega
 have aw:=h_ O;clear h hn Y hl O;go_enter func26,ntmps26;go_wp2;go_loopw [3,10] (fun a i wr=>∃(k:Nat)(x:Int),k<=n/\i=.int .i64 k/\a=.int .i64 x/\Hid ((∀p∈c.flatten,ziE p.1)->x=gS (c.take k).flatten)/\Hid (Lz w wr)) (fun _ i _=>n-(intOf i).toNat)
 case atStart=>exact⟨0,0,by omega,rfl,rfl,h_ (fun _=>rfl),h_ (Ac _ _)⟩
 obtain⟨k,x,hk,rfl,rfl,HX,C⟩:=hrel;by_cases A:k<n
 .have Y:=RdG.later HH.o ztV C.o l_;have V:k<(f.map fun x=>[x]).length:=by rw[Ad,<-M.o];exact A
  have s:=RdG.idx Y ztV k V;obtain⟨b,o,ha,hc⟩:=RdG.at Y V;rw[ha]at s;rw[getD_map (fun x=>[x]) f k (by rw[<-M.o];exact A) undef]at hc;have H:=hc 0 _ rfl;rw[CJ]at H;have J:=HR.o k (by rw[<-M.o];exact A);have ac:=h_ (show c.take (k+1)=c.take k++[c.getD k []]from by
   rw[BL];simp[List.getD,show k<c.length by rw[HL.o,<-M.o];exact A])
  have D:=h_ (show c.getD k []∈c from by simp[List.getD,show k<c.length by rw[HL.o,<-M.o];exact A]);obtain⟨rv,ag⟩:=nm_ (f.getD k undef);rw[<-ag]at H J;obtain⟨ps,af⟩:=nm_ (c.getD k []);rw[<-af]at J ac D;have S:=h_ J;have aD:=(S.o wr C.o).len;have ah:=(S.o wr C.o).small;have Z:=aw.o k (by omega);obtain⟨m,hm⟩:=nm_ ps.length;rw[<-hm]at aD ah;have HM:=h_ hm;have s:∀u,(Instr.indexAt 105 v (.int .i64 (k:Int))).run prog u=.ok (.pointer (some ⟨b,o,none⟩)) u:=s;clear Y V ha hc J ag af hm;have az:=h_ Z;clear Z;go_wp2;go_loopw [3,16] (fun a i wr=>∃(j:Nat)(y:Int),j<=m/\i=.int .i64 j/\a=.int .i64 y/\Hid ((∀p∈c.flatten,ziE p.1)->y=gS ((c.take k).flatten++ps.take j))/\Hid (Lz w wr)) (fun _ i _=>m-(intOf i).toNat)
  case atStart=>exact⟨0,_,by omega,rfl,rfl,h_ (fun h=>by rw[HX.o h];simp),C⟩
  clear C H s;obtain⟨j,y,hj,rfl,rfl,HY,C⟩:=hrel;by_cases ae:j<m
  .have I:j<ps.length:=(by rw[<-HM.o];exact ae);obtain⟨b9,o9,a1,s,H,ad,g,aL⟩:=(S.o wr C.o).get I
   have ab:=h_ (show ps.take (j+1)=ps.take j++[ps.getD j default]from by
    rw[BL];simp[List.getD,I])
   have Q:=h_ (show ps.getD j default∈c.flatten from Cg.2 ⟨ps,D.o,by simp[List.getD,I]⟩);obtain⟨p,hp⟩:=nm_ (ps.getD j default);rw[<-hp]at ad g ab Q;rcases p with⟨r,z⟩
   dsimp only at ad g;obtain⟨ao,no,co,rfl⟩:=g.lit;obtain⟨w7,aj⟩:=nm_ (wr.alloc (.cells #[.slice ao no co,.int .i64 z] 69));have G:=(Ac wr.heap.size wr).alloc l_ (.cells #[.slice ao no co,.int .i64 z] 69);have U:=AB wr (.cells #[.slice ao no co,.int .i64 z] 69);rw[<-aj]at G U;have aq:=bT C G.drew;have E:=(g.later G l_).drew;have aX:=E.len;have SZ:=h_ (fun wz(hz:Below w7.drew.heap.size w7.drew wz)=>zxB (.slice ao no co) r wz (E.later hz l_));have aA:=Ac w7.drew.heap.size w7.drew;have N:(w7.drew).heap[wr.heap.size]?=_:=U;have s0:=fun x:Ord.GW w7.drew=>za6 x.grew (Ag _ _ 0 _ _ _ N);simp at s0;have aY:r.length<=140737488351232:=g.small;clear U N G E g hp I;subst aj;go_wp2_with fail;refine AY Ord.way [(0,false),(1,false),(2,false),(5,false),(6,false),(7,false),(3,true),(4,false),(8,false),(9,false),(10,false)] (by kernel_rfl) rfl (by kernel_rfl) (by kernel_rfl) (fun _ _ _ d _ h=>by cases d<;>exact h) ?_;iterate 6 (refine Ak rfl rfl (by kernel_rfl) (fun K hK=>?_);go_big_quiet_op;refine hK _ ?_;clear hK K)
   refine Ax rfl (by kernel_rfl) (fun K hK=>?_);go_big_op;refine(SZ.o _ aA).mono ?_;rintro e w8⟨rfl,T⟩;refine hK _ _ T ?_;have ar:=bT aq T;clear T;clear hK K;iterate 4 (refine Ak rfl rfl (by kernel_rfl) (fun K hK=>?_);go_big_quiet_op;refine hK _ ?_;clear hK K)
   refine Bk ?_;have ay:=h_ (show(∀p∈c.flatten,ziE p.1)->wrap64 (y+wrap64 (wrap64 (1+zeP r)+(r.length:Int)))=gS ((c.take k).flatten++ps.take (j+1))from fun L=>by
    obtain⟨g1,g2,g3,g4⟩:=zw4 (L _ Q.o);have hy:=HY.o L;have ai:∀q∈(c.take k).flatten++ps.take j,ziE q.1:=fun q X=>by
     rcases AD.1 X with X|X
     .obtain⟨l,hl,X⟩:=Cg.1 X
      exact L q (Cg.2 ⟨l,A9 hl,X⟩)
     .exact L q (Cg.2 ⟨ps,D.o,A9 X⟩)
    have T:=zw3 ai;rw[Ae,Aq]at T;have Z:=az.o;dsimp only at g1 g2;have aZ:(r.length:Int)<=8:=by have:=(L _ Q.o).1;dsimp only at this;omega
    rw[ab.o,<-An,zC6,<-hy];have e1:gS [((r,z):PairB)]=1+zeP r+(r.length:Int):=by simp[gS,gP]
    rw[e1];rw[<-hy]at T
    push_cast at T
    have aW:((min j ps.length:Nat):Int)<=140737488351232:=by have:=HM.o;omega
    have w1:wrap64 (1+zeP r)=1+zeP r:=zoB ⟨by omega,by omega⟩;have w2:wrap64 (1+zeP r+(r.length:Int))=1+zeP r+(r.length:Int):=zoB ⟨by omega,by omega⟩;have w3:wrap64 (y+(1+zeP r+(r.length:Int)))=y+(1+zeP r+(r.length:Int)):=zoB ⟨by omega,by omega⟩;rw[w1,w2,w3])
   go_wp2;go_roundw
   case rel=>exact⟨j+1,_,by omega,by go_num,rfl,ay,ar⟩
   simp[intOf];omega
  obtain rfl:j=m:=by omega
  have ax:=h_ (show(∀p∈c.flatten,ziE p.1)->y=gS (c.take (k+1)).flatten from fun L=>by
   rw[HY.o L,ac.o,Cw,List.flatten_singleton,Am (l:=ps) (by rw[<-HM.o];exact l_)])
  clear ae;go_wp2;go_roundw
  case rel=>exact⟨k+1,_,by omega,by go_num,rfl,ax,C⟩
  simp[intOf];omega
 obtain rfl:k=n:=by omega
 have HF:=h_ (show x<=5000->fewG c.flatten from fun hx L=>by
  have h1:=HX.o L;rw[Am (by rw[HL.o,<-M.o];exact l_)]at h1;omega)
 clear A;by_cases hx:5000<x
 .have hd:decide (5000<x)=true:=Ah hx;go_wp2;go_ret;exact⟨1,rfl,.inr rfl,fun h=>absurd h (by decide),C.o⟩
 have hd:decide (5000<x)=false:=Af hx;go_wp2;go_ret;exact⟨0,rfl,.inl rfl,fun _=>HF.o (by omega),C.o⟩
end
section
open Go.RowKit Go.Shelf
def prevR(ps:List PairB):Nat->Option (List CellB)
 | 0=>none
 | k+1=>some (ps.getD k default).1
variable {k:Nat}
def zjJ{α:Type}[Inhabited α]{l:List α}(h:k<l.length):l.drop k=l.getD k default::l.drop (k+1):=by
 rw[Bf h];simp[List.getD,h]
def zsD{cs:List ColB}{ps:List PairB}(h:k<ps.length)(a:errRow cs (ps.getD k default).1=0)(b:(ps.getD k default).2≠0)(c:∀r,prevR ps k=some r->cmpR cs r (ps.getD k default).1<0) :chkF cs (prevR ps k) (ps.drop k)=chkF cs (prevR ps (k+1)) (ps.drop (k+1)):=by
 rw[zjJ h]
 conv=>lhs;unfold chkF
 rw[Aa (fun d=>d a),Aa b];cases hq:prevR ps k with
 | none=>rfl
 | some r=>
  have:=c r hq;show(if _ then _ else _)=_;rw[Aa (by omega)];rfl
def zcZ(v1 v2:Value)(cs:List ColB)(ps:List PairB)(w:World)(h1:RdC w v1 cs)(h2:RdP w v2 ps)(hC:CS cs)(hP:PSO ps) :Calls prog 117 #[v1,v2] w fun e w'=>e=.returned (.int .i64 (chkZ cs ps:Nat))/\Lz w w':=by
 have Y:=h_ (zbE v1 cs w h1 hC);have av:=h2.len;have ay:=h2.small;have R1:=h_ (fun I(G:Lz w I)=>h1.later G l_);have R2:=h_ (fun I(G:Lz w I)=>h2.later G l_);clear h1 h2;obtain⟨x,hx⟩:=nm_ (errS (colsL cs));rw[<-hx]at Y;by_cases h0:x=0
 .subst h0;obtain⟨n,hn⟩:=nm_ ps.length;rw[<-hn]at av ay;by_cases aH:1024<n
  .have z:=h_ (show chkZ cs ps=13 from by unfold chkZ;rw[Aa (by omega),Ab (by omega)]);clear hx hn;go_enter func117,ntmps117;go_wp2_with fail;refine Y.mono ?_;rintro e w1⟨rfl,f⟩;go_wp2;go_ret;exact⟨by rw[z.o];rfl,f⟩
  have z:=h_ (show chkZ cs ps=chkF cs none ps from by unfold chkZ;rw[Aa (by omega),Aa (by omega)]);have HN:=h_ hn;clear hx hn;go_enter func117,ntmps117;go_wp2_with fail;refine Y.mono ?_;rintro e w1⟨rfl,f⟩;have O:=h_ f;clear f Y;go_wp2;go_loopw [6] (fun i wr=>∃k:Nat,k<=n/\i=.int .i64 k/\Hid (chkF cs none ps=chkF cs (prevR ps k) (ps.drop k))/\Hid (Lz w wr)) (fun i _=>n-(intOf i).toNat)
  case atStart=>exact⟨0,by omega,rfl,h_ rfl,O⟩
  clear O;obtain⟨k,hk,rfl,s,J⟩:=hrel;by_cases aw:k<n
  .have M:k<ps.length:=(by rw[<-HN.o];exact aw);obtain⟨b,o,rv,hi,Z,D,v,aR⟩:=(R2.o wr J.o).get M;obtain⟨u,ae⟩:=hP.get M;have HK:=h_ M;have N:=h_ (zeA v1 rv cs (ps.getD k default).1 wr (R1.o wr J.o) v hC u);have h:=h_ (fun a b c=>zsD (cs:=cs) M a b c);have HD:=h_ (zjJ M);obtain⟨p,hp⟩:=nm_ (ps.getD k default);rw[<-hp]at D v u ae N h HD;have aO:=h_ hp;have V:=h_ v;have al:=h_ u;clear hp M v u;obtain⟨c,hc⟩:=nm_ (errRow cs p.1);rw[<-hc]at N h;have t:=h_ hc;clear hc;by_cases ac:c=0
   .subst ac;go_wp2_with fail;refine N.mono ?_;rintro e H⟨rfl,f⟩;have g:=bT J f;have d0:=za6 f Z;have d1:=za6 f D;have X:=h_ (V.later f l_);clear Z D f J V N;by_cases l:p.2=0
    .have d:=h_ (show chkF cs none ps=2 from by
      rw[s.o,HD.o];unfold chkF;rw[Aa (fun h9=>h9 t.symm),Ab l])
     rw[l]at d1;clear s;go_wp2;go_ret;exact⟨by rw[z.o,d.o];rfl,g.o⟩
    obtain⟨y,hy⟩:∃y,p.2=y:=⟨_,rfl⟩;rw[hy]at d1 l ae;have aX:(y==0)=false:=(by rw[Co];intro hh;exact l (beq_iff_eq.1 hh));have HY:=h_ (show p.2≠0 from by rw[hy];exact l);clear hy l;by_cases ad:k=0
    .subst ad;have d:=h_ (s.trans (h.o (by simp) HY.o (fun r L=>by cases L)));clear s h;rw[show((0:Nat):Int)=0 from rfl]at hi;go_wp2;go_quiet (fail);go_wp2;go_roundw
     case rel=>exact⟨1,by omega,rfl,d,h_ (_root_.Go.below_drewN g.o _)⟩
     simp[intOf];omega
    obtain⟨j,hj⟩:∃j,k=j+1:=⟨k-1,by omega⟩;have j2:j<ps.length:=(by have:=HK.o;omega);obtain⟨b',o',aB,aV,aa,ab,C,aI⟩:=(R2.o H g.o).get j2;obtain⟨A,_⟩:=hP.get j2;have CC:=h_ (fun I(G:Lz H I)=>ze9 v1 aB rv cs (ps.getD j default).1 p.1 I (R1.o I (g.trans (G.mono g.size))) (C.later G l_) (X.later G l_) hC A al.o);have aK:(k:Int)-1=(j:Int):=(by omega);have aW:IntKind.i64.wrap (j:Int)=(j:Int):=IntWalk.i64_in _ (by omega);have aJ:decide (0<k)=true:=Ah (by omega);have U:=h_ (show prevR ps k=some (ps.getD j default).1 from by rw[hj];rfl);obtain⟨m,hm⟩:=nm_ (cmpR cs (ps.getD j default).1 p.1);rw[<-hm]at CC;have HM:=h_ hm;clear hm j2 C A ad;have HJ:=h_ hj;clear hj;go_wp2;go_still_tail 15,(by kernel_rfl);change wpList _ _ _ _ _ H.drew;have Q:=h_ g.drew;have T:=h_ ((Ac H.heap.size H).drew);clear d0 d1 aa ab;go_wp2_with fail;refine(CC.o _ T.o).mono ?_;rintro e w3⟨rfl,f⟩;have S:=bT Q f;clear f Q T CC;by_cases E:0<=m
    .have d:=h_ (show chkF cs none ps=9 from by
      rw[s.o,HD.o,U.o];unfold chkF;rw[Aa (fun h9=>h9 t.symm),Aa HY.o];show(if _ then _ else _)=_;rw[Ab (by rw[<-HM.o];exact E)])
     have ax:decide (0<=m)=true:=Ah E;clear s h;go_wp2;go_ret;exact⟨by rw[z.o,d.o];rfl,S.o⟩
    have d:=h_ (s.trans (h.o (by simp) HY.o (fun r L=>by rw[U.o]at L;injection L with L;rw[<-L,<-HM.o];omega)));have ax:decide (0<=m)=false:=Af E;clear s h;go_wp2;go_roundw
    case rel=>exact⟨k+1,by omega,by go_num,d,S⟩
    simp[intOf];omega
   have d:=h_ (show chkF cs none ps=c from by
    rw[s.o,HD.o];unfold chkF;rw[Ab (by rw[<-t.o];exact ac),t.o])
   have aS:((c:Int)!=0)=true:=(by rw[Ao];omega);clear s h;go_wp2_with fail;refine N.mono ?_;rintro e H⟨rfl,f⟩;have g:=bT J f;clear f;go_wp2;go_ret;exact⟨by rw[z.o,d.o];rfl,g.o⟩
  obtain rfl:k=n:=by omega
  have d:=h_ (show chkF cs none ps=0 from by rw[s.o,HN.o,List.drop_length];simp[chkF]);clear s;go_wp2;go_ret;exact⟨by rw[z.o,d.o];rfl,J.o⟩
 have z:=h_ (show chkZ cs ps=x from by unfold chkZ;rw[Ab (by omega),hx]);have q:((x:Int)!=0)=true:=by rw[Ao];omega
 clear hx;go_enter func117,ntmps117;go_wp2_with fail;refine Y.mono ?_;rintro e w1⟨rfl,f⟩;go_wp2;go_ret;exact⟨by rw[z.o];rfl,f⟩
/- -/
namespace Crc
open _root_.Go.Proofs.Tryz
def P:Nat:=2197175160
def F:Nat:=4294967295
def step(s:Nat):Nat:=if s%2=1 then s/2 ^^^ P else s/2
def pow:Nat->Nat->Nat
 | 0,s=>s
 | n+1,s=>pow n (step s)
def reg(s:Nat):Bs->Nat
 | []=>s
 | b::l=>reg (pow 8 (s ^^^ b.toNat)) l
def sum(l:Bs):Nat:=F ^^^ reg F l
def more(s:Nat)(l:Bs):Nat:=F ^^^ reg (F ^^^ s) l
def put(s:Nat):Bs:=[UInt8.ofNat (s%256),UInt8.ofNat (s/256%256),UInt8.ofNat (s/65536%256),UInt8.ofNat (s/16777216%256)]
def good(l:Bs):Prop:=4<=l.length/\put (sum (l.take (l.length-4)))=l.drop (l.length-4)
instance(l:Bs):Decidable (good l):=inferInstanceAs (Decidable (_/\_))
def pow_add(m n:Nat):∀s,pow (m+n) s=pow n (pow m s):=by
 induction m with
 | zero=>intro s;simp[pow]
 | succ m ih=>intro s;rw[show m+1+n=(m+n)+1 from by omega];show pow (m+n) (step s)=_;rw[ih];rfl
def step_lt{s:Nat}(h:s<4294967296):step s<4294967296:=by
 unfold step;split
 ·exact C8 (n:=32) (by omega) (by decide)
 omega
def pow_lt{n:Nat}:∀{s:Nat},s<4294967296->pow n s<4294967296:=by
 induction n with
 | zero=>intro s h;exact h
 | succ n ih=>intro s h;exact ih (step_lt h)
def byte_lt{s:Nat}(h:s<4294967296)(b:UInt8):s ^^^ b.toNat<4294967296:=by
 have:=b.toNat_lt;exact C8 (n:=32) (by omega) (by omega)
def zII{l:Bs}:∀{s:Nat},s<4294967296->reg s l<4294967296:=by
 induction l with
 | nil=>intro s h;exact h
 | cons b l ih=>intro s h;exact ih (pow_lt (byte_lt h b))
def F_lt:F<4294967296:=by decide
def sum_lt(l:Bs):sum l<4294967296:=C8 (n:=32) F_lt (zII F_lt)
def reg_append(a b:Bs):∀s,reg s (a++b)=reg (reg s a) b:=by
 induction a with
 | nil=>intro s;rfl
 | cons x a ih=>intro s;exact ih _
def put_length(s:Nat):(put s).length=4:=rfl
def good_seal(b:Bs):good (b++put (sum b)):=by
 have a:(b++put (sum b)).length-4=b.length:=by simp[put_length]
 refine⟨by simp[put_length],?_⟩;rw[a];simp
end Crc
/- -/
namespace Crc
open _root_.Go.Proofs.Tryz
end Crc
/- -/
open Go.RowKit Go.Shelf
def zwT{α:Type}[Inhabited α]{a b:List α}(c:k<a.length)(d:k<b.length)(h:a.take k=b.take k)(e:a.getD k default=b.getD k default):a.take (k+1)=b.take (k+1):=by
 rw[BL,BL,h];simp[List.getD,c,d]at e;simp[c,d,e]
def zn2(v1 v2:Value)(ps qs:List PairB)(w:World)(J:RdP w v1 ps)(L:RdP w v2 qs) :Calls prog 20 #[v1,v2] w fun e w'=>e=.returned (.bool (decide (ps=qs)))/\Lz w w':=by
 have O:=J.len;have Q:=L.len;have U:=J.small;have V:=L.small;by_cases Y:ps.length=qs.length
 .obtain⟨n,a⟩:=nm_ ps.length;have A:n=qs.length:=by omega
  rw[<-a]at O U;rw[<-A]at Q;have E:=h_ a;have G:=h_ A;have H1:=h_ J;have H2:=h_ L;have N:=h_ (Ac w.heap.size w);clear Y a A J L V;go_enter func20,ntmps20;go_wp2;go_loopw [5] (fun i wr=>∃k:Nat,k<=n/\i=.int .i64 k/\Hid (ps.take k=qs.take k)/\Hid (Lz w wr)) (fun i _=>n-(intOf i).toNat)
  case atStart=>exact⟨0,by omega,rfl,h_ rfl,N⟩
  obtain⟨k,hk,rfl,HT,C⟩:=hrel;clear N;by_cases S:k<n
  .have k1:k<ps.length:=(by rw[<-E.o];exact S);have k2:k<qs.length:=(by rw[<-G.o];exact S);obtain⟨b1,o1,ac,ao,H,g,t,_⟩:=(H1.later C.o l_).get k1;obtain⟨b2,o2,ad,ap,I,j,u,_⟩:=(H2.later C.o l_).get k2;have f:=h_ (fun he=>zwT k1 k2 HT.o he);have b:=h_ (show ps.getD k default≠qs.getD k default->ps≠qs from fun h hh=>h (by rw[hh]));clear k1 k2;rcases hpg:ps.getD k default with⟨r,x⟩
   rcases hqg:qs.getD k default with⟨s,y⟩;rw[hpg]at g t;rw[hqg]at j u;rw[hpg,hqg]at f b;dsimp only at g j t u;clear hpg hqg;have D:=h_ (fun wz(hz:Lz wr wz)=>zn3 ac ad r s wz (t.later hz l_) (u.later hz l_));clear t u;by_cases p:x=y
   .subst p;by_cases l:r=s
    .subst l;have X:=h_ (f.o rfl);clear f b;go_wp2;go_still_tail 22,(by kernel_rfl);change wpList _ _ _ _ _ wr.drew;have c:=h_ C.drew;have d:=h_ ((Ac wr.heap.size wr).drew);clear H g I j;go_wp2_with fail;refine(D.o _ d.o).mono ?_;rintro e w3⟨rfl,M⟩;have v:=bT c M;clear M c d D;go_wp2;go_roundw
     case rel=>exact⟨k+1,by omega,by go_num,X,v⟩
     simp[intOf];omega
    have z:=h_ (show decide (ps=qs)=false from Af (b.o (fun h=>l (by injection h))));have hd:decide (r=s)=false:=Af l;rw[hd]at D;clear l f b hd;go_wp2;go_still_tail 22,(by kernel_rfl);change wpList _ _ _ _ _ wr.drew;have c:=h_ C.drew;have d:=h_ ((Ac wr.heap.size wr).drew);clear H g I j;go_wp2_with fail;refine(D.o _ d.o).mono ?_;rintro e w3⟨rfl,M⟩;have v:=bT c M;clear M c d D;go_wp2;go_ret;exact⟨by rw[z.o];rfl,v.o⟩
   have z:=h_ (show decide (ps=qs)=false from Af (b.o (fun h=>p (by injection h))));have Z:(x !=y)=true:=(by rw[Ao];exact p);clear p f b D;go_wp2;go_quiet (fail);go_wp2;go_ret;exact⟨by rw[z.o];rfl,_root_.Go.below_drewN C.o _⟩
  obtain rfl:k=n:=by omega
  have z:=h_ (show decide (ps=qs)=true from Ah (by
   have:=HT.o;rwa[Am (by rw[<-E.o];exact l_),Am (by rw[<-G.o];exact l_)]at this))
  go_wp2;go_ret;exact⟨by rw[z.o];rfl,C.o⟩
 have z:=h_ (show decide (ps=qs)=false from Af (fun h=>Y (by rw[h])));have Z:((ps.length:Int)!=(qs.length:Int))=true:=by rw[Ao];omega
 obtain⟨n,a⟩:=nm_ ps.length;obtain⟨m,T⟩:=nm_ qs.length;rw[<-a]at O Z;rw[<-T]at Q Z;clear J L Y a T U V;go_enter func20,ntmps20;go_wp2;go_ret;exact⟨by rw[z.o];rfl,Ac _ _⟩
end
section
open Go.RowKit
variable {l:Bs} {q:Nat}
def zgV{k:Nat}(h:k<l.length)(s:Nat):Crc.reg s (l.take (k+1))=Crc.pow 8 (Crc.reg s (l.take k) ^^^ (l.getD k 0).toNat):=by
 have e:l.take (k+1)=l.take k++[l.getD k 0]:=by
  rw[BB h];simp[List.getD,h]
 rw[e,Crc.reg_append];rfl
def zjG(j s:Nat):Crc.pow (j+1) s=Crc.step (Crc.pow j s):=by
 rw[Crc.pow_add];rfl
def zCX(a:q<4294967296)(l:Bs)(k:Nat):bits .xor .u32 (q:Int) (at8 l k)=((q ^^^ (l.getD k 0).toNat:Nat):Int):=by
 unfold at8;have:=(l.getD k 0).toNat_lt;exact u32_xor_nat q _ a (by omega)
def zsP(b:q<4294967296)(a:q%2=1):bits .xor .u32 ((q:Int)/2) 2197175160=((Crc.step q:Nat):Int):=by
 have e:Crc.step q=q/2 ^^^ Crc.P:=Ab a;rw[e,show((q:Int)/2)=((q/2:Nat):Int)from by omega];exact u32_xor_nat (q/2) Crc.P (by omega) (by decide)
def zoP(v:Value)(l:Bs)(w:World)(h:Rd w v l) :Calls prog 129 #[v] w fun e w'=>e=.returned (.int .u32 (Crc.sum l:Nat))/\w=w':=by
 have u:=h.len;have t:=h.idx;have n:=h.cells;have I:=h.small;go_enter func129,ntmps129;go_wp2;go_loop [3,4] (fun s i=>∃k q:Nat,k<=l.length/\i=.int .i64 k/\s=.int .u32 (q:Int)/\q<4294967296/\Hid (q=Crc.reg Crc.F (l.take k))) (fun _ i=>l.length-(intOf i).toNat)
 case atStart=>exact⟨0,4294967295,by omega,rfl,rfl,by omega,h_ rfl⟩
 obtain⟨k,q,M,rfl,rfl,g,m⟩:=hrel;by_cases d:k<l.length
 .have A:=zCX g l k;have D:=zfB l k;have E:=zdG l k;obtain⟨p,hp⟩:=nm_ (q ^^^ (l.getD k 0).toNat);have f:p<4294967296:=by rw[hp];exact Crc.byte_lt g _
  rw[<-hp]at A;have y:=h_ hp;clear hp;go_wp2;go_loop [3,5] (fun s i=>∃j r:Nat,j<=8/\i=.int .i64 j/\s=.int .u32 (r:Int)/\r<4294967296/\Hid (r=Crc.pow j p)) (fun _ i=>8-(intOf i).toNat)
  case atStart=>exact⟨0,p,by omega,rfl,rfl,f,h_ rfl⟩
  obtain⟨j,r,L,rfl,rfl,b,c⟩:=hrel;by_cases H:j<8
  .by_cases x:r%2=1
   .have C:=zsP b x;have a:=Crc.step_lt b;go_wp2;go_round
    case rel=>exact⟨j+1,Crc.step r,by omega,by go_num,rfl,a,h_ (by rw[zjG,<-c.o])⟩
    simp[intOf];omega
   have a:=Crc.step_lt b;have G:Crc.step r=r/2:=(by unfold Crc.step;rw[Aa x]);go_wp2;go_round
   case rel=>exact⟨j+1,Crc.step r,by omega,by go_num,by rw[G];push_cast;rfl,a,h_ (by rw[zjG,<-c.o])⟩
   simp[intOf];omega
  obtain rfl:j=8:=by omega
  go_wp2;go_round
  case rel=>exact⟨k+1,r,by omega,by go_num,rfl,b,h_ (by rw[zgV d,c.o,y.o,m.o])⟩
  simp[intOf];omega
 obtain rfl:k=l.length:=by omega
 have J:=u32_xor_nat 4294967295 q (by omega) g;go_wp2;go_ret;refine⟨?_,rfl⟩;have:=m.o;rw[Bo]at this;unfold Crc.sum;rw[<-this];exact congrArg (fun z=>Ending.returned (Value.int .u32 z)) J
def zkV(l:Bs):Bs×Bool:=if Crc.good l then(l.take (l.length-4),true)else([],false)
def RetO(w:World)(r:Bs×Bool)(e:Ending)(w':World):Prop:=∃v,e=.returned (.tuple #[v,.bool r.2])/\Own w' w.heap.size v r.1/\Lz w w'
def zAV(m:Nat):(#[.int .u8 (m%256:Nat),.int .u8 (m/256%256:Nat),.int .u8 (m/65536%256:Nat),.int .u8 (m/16777216%256:Nat)]:Array Value)=(za7 (Crc.put m)).toArray:=by
 have t:∀n,n<256->(UInt8.ofNat n).toNat=n:=fun n a=>by rw[UInt8.toNat_ofNat'];omega
 unfold Crc.put za7 cellB;simp only[AT,List.map_nil];rw[t _ (by omega),t _ (by omega),t _ (by omega),t _ (by omega)]
def zgW(m:Nat)(hm:m<4294967296):(#[.int .u8 ((m:Int)%256),.int .u8 ((m:Int)/256%256),.int .u8 ((m:Int)/65536%256),.int .u8 ((m:Int)/16777216)]:Array Value)=(za7 (Crc.put m)).toArray:=by
 rw[<-zAV,show((m:Int)%256)=((m%256:Nat):Int)from by omega,show((m:Int)/256%256)=((m/256%256:Nat):Int)from by omega,show((m:Int)/65536%256)=((m/65536%256:Nat):Int)from by omega,show((m:Int)/16777216)=((m/16777216%256:Nat):Int)from by omega]
def zkF(m:Nat)(hm:m<4294967296)(w:World) :Calls prog 176 #[.int .u32 (m:Int)] w (RetB w (Crc.put m)):=by
 have a:=zgW m hm;have b:=h_ a;clear a;have c:(m:Int)/16777216<256:=by omega
 go_enter func176,ntmps176;go_wp2;go_ret;refine⟨_,rfl,?_,(Ac _ _).alloc l_ _⟩;rw[b.o];exact zkS w _ l_ (Crc.put m) (by simp[Crc.put_length,maxLen])
def zE0(v:Value)(l:Bs)(w:World)(h:Rd w v l) :Calls prog 169 #[v] w (RetB w (l++Crc.put (Crc.sum l))):=by
 have p:=h.small;have f:=Crc.sum_lt l;go_enter func169,ntmps169;go_wp2_with (with_reducible refine wpl_append w.heap.size _ [] ?hs (own_empty w w.heap.size l_) _ l ?hx (h.alloc _) ?hn ?hbase w.heap.size w ((Ac _ _).alloc l_ _) l_ ?_)
 case hs=>rfl
 case hx=>rfl
 case hn=>simp;omega
 case hbase=>simp
 intro s x d a _;rw[AA]at d;have n:=h.later a l_;go_wp2_with fail;refine(zoP _ _ _ n).mono ?_;rintro e r⟨rfl,rfl⟩;go_wp2_with fail;refine(zkF _ f _).mono ?_;rintro e r⟨t,rfl,i,b⟩;have c:=a.trans (b.mono a.size);have j:=d.later b l_;have m:=i.rd (by simp[Crc.put_length]);go_wp2_with (with_reducible refine wpl_append w.heap.size _ l ?hs j _ (Crc.put (Crc.sum l)) ?hx m ?hn ?hbase w.heap.size w c l_ ?_)
 case hs=>rfl
 case hx=>rfl
 case hn=>simp[Crc.put_length];omega
 case hbase=>exact c.size
 intro u w4 k g _;go_wp2;go_ret;exact⟨_,rfl,k,g⟩
def zvO(v:Value)(l:Bs)(w:World)(h:Rd w v l) :Calls prog 126 #[v] w (RetO w (zkV l)):=by
 have p:=h.len;have M:=h.small;by_cases O:l.length<4
 .have I:decide ((l.length:Int)-4<0)=true:=Ah (by omega);have j:zkV l=([],false):=by unfold zkV;rw[Aa (fun z=>by have:=z.1;omega)]
  go_enter func126,ntmps126;go_wp2_with fail;refine AY Ord.way [(0,false),(1,false),(2,false),(3,false),(4,false),(5,false),(9,false),(10,false),(11,false),(12,false),(6,true),(7,true),(8,false),(13,false),(14,false)] (by kernel_rfl) rfl (by kernel_rfl) (by kernel_rfl) (fun _ _ _ d _ h=>by cases d<;>exact h) ?_;iterate 3 (refine Ak rfl rfl (by kernel_rfl) (fun K hK=>?_);go_big_quiet_op;refine hK _ ?_;clear hK K)
  iterate 11 (refine OrdR.ord_skip Ord.way rfl (by kernel_rfl) (fun K hK=>?_);go_big_quiet_op;refine hK _ ?_;clear hK K)
  refine Ak rfl rfl (by kernel_rfl) (fun K hK=>?_);go_big_quiet_op;refine hK _ ?_;clear hK K;refine Bk ?_;go_wp2;go_ret2;rw[j];exact⟨_,rfl,zaE _ _,(Ac _ _).drew⟩
 obtain⟨n,hn⟩:∃n,l.length=n+4:=⟨l.length-4,by omega⟩;have I:decide ((n:Int)<0)=false:=Af (by omega);have i:=Crc.sum_lt (l.take n);obtain⟨S,E,g⟩:=h.upto n (by omega);obtain⟨T,G,s⟩:=h.from n (by omega);have a:Lz w w.drew:=(Ac _ _).drew;have L:=(s _ h.drew).str_later;rw[show(l.length:Int)=(n:Int)+4 from by omega]at p;have J:n<=140737488351232:=by omega
 have D:=h_ hn;clear hn;have c:Crc.good l↔Crc.put (Crc.sum (l.take n))=l.drop n:=by
  have hn:=D.o;unfold Crc.good;rw[hn,Bv];exact⟨fun m=>m.2,fun m=>⟨by omega,m⟩⟩
 have C:=h_ c;clear c;by_cases k:Crc.put (Crc.sum (l.take n))=l.drop n
 .have j:zkV l=(l.take n,true):=by unfold zkV;rw[Ab (C.2 k),D.o,Bv]
  have u:=h_ j;have y:(Crc.put (Crc.sum (l.take n))==l.drop n)=true:=beq_iff_eq.2 k;clear j k;go_enter func126,ntmps126;go_wp2_with fail;refine AY Ord.way [(0,false),(1,false),(2,false),(3,false),(4,false),(5,false),(9,false),(10,false),(11,false),(12,false),(6,true),(7,true),(8,false),(13,false),(14,false)] (by kernel_rfl) rfl (by kernel_rfl) (by kernel_rfl) (fun _ _ _ d _ h=>by cases d<;>exact h) ?_;iterate 10 (refine Ak rfl rfl (by kernel_rfl) (fun K hK=>?_);go_big_quiet_op;refine hK _ ?_;clear hK K)
  refine Ax rfl (by kernel_rfl) (fun K hK=>?_);go_big_op;refine(zoP _ _ _ (g _ (h.later a l_))).mono ?_;rintro e t⟨rfl,rfl⟩;refine hK _ _ (Ord.Grew.refl _) ?_;clear hK K;refine Ax rfl (by kernel_rfl) (fun K hK=>?_);go_big_op;refine(zkF _ i _).mono ?_;rintro e t⟨N,rfl,f,b⟩;have A:=str_later f (by simp[Crc.put_length]);replace a:=a.trans (b.mono a.size);clear f;refine hK _ _ b ?_;clear b;clear hK K;iterate 3 (refine Ak rfl rfl (by kernel_rfl) (fun K hK=>?_);go_big_quiet_op;refine hK _ ?_;clear hK K)
  refine Bk ?_;have H:=g _ ((h.later a l_).alloc (.cells #[] 5));go_wp2_with (with_reducible refine wpl_append w.heap.size _ [] ?hs (own_empty t w.heap.size a.size) _ (l.take n) ?hx H ?hn ?hbase w.heap.size w (a.alloc a.size _) l_ ?_)
  case hs=>rfl
  case hx=>rfl
  case hn=>simp;omega
  case hbase=>have:=a.size;simp;omega
  intro Q w4 r x _;rw[AA]at r;go_wp2;go_ret2;rw[u.o];exact⟨_,rfl,r,x⟩
 have j:zkV l=([],false):=by unfold zkV;rw[Aa (fun z=>k (C.1 z))]
 have u:=h_ j;have y:(Crc.put (Crc.sum (l.take n))==l.drop n)=false:=by
  rw[Co];exact fun m=>k (beq_iff_eq.1 m)
 clear j k;go_enter func126,ntmps126;go_wp2_with fail;refine AY Ord.way [(0,false),(1,false),(2,false),(3,false),(4,false),(5,false),(9,false),(10,false),(11,false),(12,false),(6,true),(7,true),(8,false),(13,false),(14,false)] (by kernel_rfl) rfl (by kernel_rfl) (by kernel_rfl) (fun _ _ _ d _ h=>by cases d<;>exact h) ?_;iterate 10 (refine Ak rfl rfl (by kernel_rfl) (fun K hK=>?_);go_big_quiet_op;refine hK _ ?_;clear hK K)
 refine Ax rfl (by kernel_rfl) (fun K hK=>?_);go_big_op;refine(zoP _ _ _ (g _ (h.later a l_))).mono ?_;rintro e t⟨rfl,rfl⟩;refine hK _ _ (Ord.Grew.refl _) ?_;clear hK K;refine Ax rfl (by kernel_rfl) (fun K hK=>?_);go_big_op;refine(zkF _ i _).mono ?_;rintro e t⟨N,rfl,f,b⟩;have A:=str_later f (by simp[Crc.put_length]);replace a:=a.trans (b.mono a.size);clear f;refine hK _ _ b ?_;clear b;clear hK K;iterate 3 (refine Ak rfl rfl (by kernel_rfl) (fun K hK=>?_);go_big_quiet_op;refine hK _ ?_;clear hK K)
 refine Bk ?_;go_wp2;go_ret2;rw[u.o];exact⟨_,rfl,zaE _ _,a⟩
/- -/
def bits_byte'(a:q<4294967296)(c:UInt8):bits .xor .u32 (q:Int) (c.toNat:Int)=((q ^^^ c.toNat:Nat):Int):=by
 have:=c.toNat_lt;exact u32_xor_nat q _ a (by omega)
/-- What each byte does to the sum's variable. -/
def zHT(c:UInt8)(g q:Nat)(s:q<4294967296)(w:World)(k:w.heap[g]?=some (.cells #[.int .u32 (q:Int)] 102 (0,0))) :Calls prog 223 #[.int .u8 (c.toNat:Int),.pointer (some ⟨g,0,none⟩)] w fun e w'=>e=.returned (.tuple #[]) /\w'.heap[g]?=some (.cells #[.int .u32 ((Crc.pow 8 (q ^^^ c.toNat):Nat):Int)] 102 (0,0))/\w.grownBy w' (some g):=by
 have v:=bits_byte' s c;have y:=c.toNat_lt;have a:=cell_of_one k;have b:=free_of_one k;obtain⟨p,hp⟩:=nm_ (q ^^^ c.toNat);have m:p<4294967296:=by rw[hp];exact Crc.byte_lt s _
 rw[<-hp]at v;rw[<-hp];have u:=h_ k;clear hp k;go_enter func223,ntmps223;go_wp2;go_loopw [8] (fun i wr=>∃j r:Nat,j<=8/\i=.int .i64 j/\r<4294967296/\Hid (r=Crc.pow j p)/\Hid (wr.heap[g]?=some (.cells #[.int .u32 (r:Int)] 102 (0,0)))/\w.grownBy wr (some g)) (fun i _=>8-(intOf i).toNat)
 case atStart=>exact⟨0,p,by omega,rfl,m,h_ rfl,h_ (one_setCell u.o),za0 (World.grownBy.refl _ _) _⟩
 obtain⟨j,r,C,rfl,t,l,f,d⟩:=hrel;have a:=cell_of_one f.o;have b:=free_of_one f.o;by_cases A:j<8
 .have h:=Crc.step_lt t;by_cases n:r%2=1
  .have x:=zsP t n;go_wp2;go_roundw
   case rel=>exact⟨j+1,Crc.step r,by omega,by go_num,h,h_ (by rw[zjG,<-l.o]),h_ (one_setCell f.o),za0 d _⟩
   simp[intOf];omega
  have z:Crc.step r=r/2:=by unfold Crc.step;rw[Aa n]
  go_wp2;go_roundw
  case rel=>exact⟨j+1,Crc.step r,by omega,by go_num,h,h_ (by rw[zjG,<-l.o]),h_ (by rw[z];push_cast;exact one_setCell f.o),za0 d _⟩
  simp[intOf];omega
 obtain rfl:j=8:=by omega
 go_wp2;go_end0;exact⟨rfl,by rw[<-l.o];exact f.o,d⟩
def zF2(s:Nat)(D:s<4294967296)(v:Value)(l:Bs)(w:World)(h:Rd w v l) :Calls prog 185 #[.int .u32 (s:Int),v] w fun e w'=>e=.returned (.int .u32 (Crc.more s l:Nat))/\Lz w w':=by
 have J:∀(z:Fn)(first cap:Array Value)(w:World),(Instr.makeFunc z first cap).run prog w=.ok (.func z first cap) w:=fun _ _ _ _=>rfl;have C:=h.len;have A:=h.idx;have L:=h.small;have u:bits .xor .u32 (s:Int) 4294967295=((s ^^^ 4294967295:Nat):Int):=u32_xor_nat s 4294967295 D (by decide);have g:s ^^^ 4294967295<4294967296:=C8 (n:=32) D (by decide);obtain⟨E,d⟩:∃q,q=s ^^^ 4294967295:=⟨_,rfl⟩;rw[<-d]at u g;have H:=h_ d;clear d;go_enter func185,ntmps185;go_wp2;go_loopw [14] (fun i wr=>∃k q:Nat,k<=l.length/\i=.int .i64 k/\q<4294967296/\Hid (q=Crc.reg E (l.take k))/\Hid (wr.heap[w.heap.size]?=some (.cells #[.int .u32 (q:Int)] 102 (0,0)))/\Lz w wr) (fun i _=>l.length-(intOf i).toNat)
 case atStart=>exact⟨0,E,by omega,rfl,g,h_ rfl,h_ (AB w _),(Ac _ _).alloc l_ _⟩
 obtain⟨k,q,M,rfl,d,x,y,a⟩:=hrel;by_cases f:k<l.length
 .have b:=(h.later a l_).cells k f;unfold at8 at b;obtain⟨c,p⟩:=nm_ (l.getD k 0);rw[<-p]at b;have I:=c.toNat_lt;have G:=h_ p;clear p;go_wp2_with fail;refine(zHT c w.heap.size q d wr y.o).mono ?_;rintro e O⟨rfl,j,t⟩;have m:=h_ j;clear j;go_wp2;go_roundw
  case rel=>exact⟨k+1,_,by omega,by go_num,Crc.pow_lt (Crc.byte_lt d c),h_ (by rw[zgV f,<-G.o,<-x.o]),m,a.grown t a.size (by simp)⟩
  simp[intOf];omega
 obtain rfl:k=l.length:=by omega
 have r:=cell_of_one y.o;have N:bits .xor .u32 (q:Int) 4294967295=((q ^^^ 4294967295:Nat):Int):=u32_xor_nat q 4294967295 d (by decide);go_wp2;go_ret;refine⟨?_,a⟩;have e:Crc.more s l=q ^^^ 4294967295:=by
  rw[x.o,H.o,Bo];unfold Crc.more;rw[Nat.xor_comm,Nat.xor_comm Crc.F s];rfl
 rw[e];rfl
def zuI(v:Value)(l:Bs)(w:World)(h:Rd w v l) :Calls prog 138 #[v] w fun e w'=>e=.returned (.int .u32 (Crc.sum l:Nat))/\Lz w w':=by
 go_enter func138,ntmps138;go_wp2_with fail;refine(zF2 0 (by decide) _ _ _ h).mono ?_;rintro e b⟨rfl,a⟩;go_wp2;go_ret;exact⟨rfl,a⟩
def zuJ(m:Nat)(hm:m<4294967296)(w:World) :Calls prog 137 #[.int .u32 (m:Int)] w (RetB w (Crc.put m)):=by
 have a:=zgW m hm;have b:=h_ a;clear a;have c:(m:Int)/16777216<256:=by omega
 go_enter func137,ntmps137;go_wp2;go_ret;refine⟨_,rfl,?_,(Ac _ _).alloc l_ _⟩;rw[b.o];exact zkS w _ l_ (Crc.put m) (by simp[Crc.put_length,maxLen])
def zmG(n c:Int)(e:0<=n)(g:n<=c)(f:c<=281474976710656)(u:World):(Instr.makeSlice 34 (.int .i64 n) (.int .i64 c)).run prog u = .ok (.slice (some ⟨u.heap.size,0,none⟩) n.toNat c.toNat) (u.alloc (.cells (za7 (List.replicate c.toNat 0)).toArray 5)):=by
 obtain⟨k,j,a,b,d⟩:=info_parts zgB;have h:=run_make (P:=prog) u 34 5 k (.int .u8 0) underlying34 j a .i64 .i64 n c e g (by rw[d];omega) (by omega);rw[h,b];congr 3;simp[madeCells,za7,cellB,Value.cells];apply Array.ext
 .simp
 intro i f l;simp[Nat.mod_one]
def bytes_Equal(c d:Value)(a b:Bs)(w:World)(f:Rd w c a)(g:Rd w d b) :Calls prog 207 #[c,d] w fun e w'=>e=.returned (.bool (a==b))/\w=w':=by
 have h:=f.str;have i:=g.str;go_enter func207,ntmps207;go_wp2;go_ret;exact⟨rfl,rfl⟩
def zBP{w':World}{g:Nat}(b:Hid (w'.heap[g]?=some (.cells (za7 (splice (List.replicate (l.length+4) 0) 0 l)).toArray 5 (0,0)))){base:Nat}(a:base<=g)(c:l.length<=140737488351232):Own w' base (.slice (some ⟨g,0,none⟩) l.length (l.length+4)) l:=by
 refine zcH a b.o rfl (by omega) (by unfold maxLen;omega) ?_ ?_
 .simp[za1,splice]
 unfold za7;rw[<-Dg];congr 1;simp[splice]
def zF1(v:Value)(l:Bs)(w:World)(h:Rd w v l) :Calls prog 97 #[v] w (RetB w (l++Crc.put (Crc.sum l))):=by
 have y:=h.len;have z:=h.small;have j:=Crc.sum_lt l;have n:=zmG (l.length:Int) ((l.length:Int)+4) (by omega) (by omega) (by omega);rw[show((l.length:Int)+4).toNat=l.length+4 from by omega,show(l.length:Int).toNat=l.length from by omega]at n;go_enter func97,ntmps97;have u:=h.alloc (.cells (za7 (List.replicate (l.length+4) 0)).toArray 5);have c:=(Ac w.heap.size w).alloc l_ (.cells (za7 (List.replicate (l.length+4) 0)).toArray 5);have x:=h_ (AB w (.cells (za7 (List.replicate (l.length+4) 0)).toArray 5));go_wp2_with ((with_reducible refine zv2 (some ⟨w.heap.size,0,none⟩) l.length (l.length+4) ?hd v l ?hs u ?hn w.heap.size 0 (List.replicate (l.length+4) 0) x.o ?hdp ?hfit w.heap.size w c l_ ?_))
 case hd=>rfl
 case hs=>rfl
 case hn=>exact l_
 case hfit=>simp
 intro G f a;have b:=zBP f (AK w.heap.size) z;clear f u x c;obtain⟨A,k⟩:=nm_ ((Value.slice (some ⟨w.heap.size,0,none⟩) l.length (l.length+4)));rw[<-k]at b;go_wp2_with fail;refine(zuI _ _ _ (h.later a l_)).mono ?_;rintro e E⟨rfl,d⟩;replace a:=a.trans (d.mono a.size);replace b:=b.later d l_;clear d;go_wp2_with fail;refine(zuJ _ j _).mono ?_;rintro e H⟨C,rfl,p,g⟩;have i:=a.trans (g.mono a.size);have r:=b.later g l_;have t:=p.rd (by simp[Crc.put_length]);go_wp2_with (with_reducible refine wpl_append w.heap.size _ l ?hs r _ (Crc.put (Crc.sum l)) ?hx t ?hn ?hbase w.heap.size w i l_ ?_)
 case hs=>rw[k];rfl
 case hx=>rfl
 case hn=>simp[Crc.put_length];omega
 case hbase=>exact i.size
 intro D w4 s m _;go_wp2;go_ret;exact⟨_,rfl,s,m⟩
end
section
open Go.RowKit
def zkM(m k:Nat)(h:∀j,j<k->127<m/128^j):encU m=preU m k++encU (m/128^k):=by
 induction k with
 | zero=>simp[preU]
 | succ k ih=>
  rw[ih (fun j a=>h j (by omega)),zeI (x:=m/128^k) (by have:=h k (by omega);omega),preU,Bl,BG];simp
def zd9(x:Int)(z:0<=x)(E:x<=18446744073709551615)(w:World) :Calls prog 122 #[.int .u64 x] w (RetB w (encU x.toNat)):=by
 obtain⟨m,rfl⟩:=Bq z;rw[Aw];go_enter func122,ntmps122;go_wp2;go_loopw [0,3] (fun y v wr=>∃(k q:Nat),k<=64/\q<=m/\y=.int .u64 (q:Int)/\Hid (q=m/128^k/\2^k*q<=m/\∀j,j<k->127<m/128^j)/\Own wr w.heap.size v (preU m k)/\Lz w wr) (fun y _ _=>(intOf y).toNat)
 case atStart=>exact⟨0,m,by omega,l_,rfl,⟨by simp,by simp,fun j t=>absurd t (by omega)⟩,zaE _ _,Ac _ _⟩
 obtain⟨k,q,H,C,rfl,n,g,b⟩:=hrel;have f:=zaM m k;have d:=h_ f;clear f;have h:Lz w (wr.alloc (.cells #[.int .u8 (128+(q:Int)%128)] 5)):=b.alloc b.size _;have i:Lz w (wr.alloc (.cells #[.int .u8 (q:Int)] 5)):=b.alloc b.size _;by_cases A:127<q
 .have u:k<64:=by
   have G:=n.2.1;apply Nat.lt_of_not_le;intro r;have:2^64<=2^k:=BE (by decide) r;have:2^64*1<=2^k*q:=Nat.mul_le_mul this (by omega);omega
  go_wp2_with (with_reducible refine wpl_append w.heap.size _ (preU m k) ?hs (g.alloc _) _ [UInt8.ofNat (128+(q:Int)%128).toNat] ?hx (zqZ wr (128+(q:Int)%128) (by omega) (by omega)) ?hn ?hbase w.heap.size w h l_ ?_)
  case hs=>rfl
  case hx=>rfl
  case hn=>have:=d.o;simp;omega
  case hbase=>have:=b.size;simp;omega
  intro D w' a c _;go_wp2;go_roundw
  case rel=>
   obtain⟨l,s,p⟩:=n.o;refine⟨k+1,q/128,by omega,by omega,by push_cast;rfl,⟨?_,?_,?_⟩,?_,c⟩
   .rw[l,Bl,BG]
   .rw[Bl,CY];exact Ar (Bn _ (by omega)) s
   .intro j t;by_cases e:j=k
    .subst e;omega
    exact p j (by omega)
   rw[preU,<-l];rw[show(128+(q:Int)%128).toNat=128+q%128 by omega]at a;exact a
  simp[intOf];omega
 go_wp2_with (with_reducible refine wpl_append w.heap.size _ (preU m k) ?hs (g.alloc _) _ [UInt8.ofNat (q:Int).toNat] ?hx (zqZ wr (q:Int) (by omega) (by omega)) ?hn ?hbase w.heap.size w i l_ ?_)
 case hs=>rfl
 case hx=>rfl
 case hn=>have:=d.o;simp;omega
 case hbase=>have:=b.size;simp;omega
 intro D w' a c _;go_wp2;go_ret;obtain⟨l,s,p⟩:=n.o;refine⟨_,rfl,?_,c⟩;rw[zkM m k p,<-l,zeG (by omega)];rw[Aw]at a;exact a
def zAF(x:Int)(a:-9223372036854775808<=x)(b:x<=9223372036854775807)(w:World) :Calls prog 168 #[.int .i64 x] w (RetB w (encU (zig x))):=by
 have f:=zeS x a b;go_enter func168,ntmps168;go_wp2_with (go_at_call 206;refine(zGV _ a b _).mono ?_;rintro e w'⟨rfl,rfl⟩);refine(zd9 _ (by omega) (by omega) w).mono ?_;rintro e w'⟨v,rfl,d,c⟩;go_wp2;go_ret;exact⟨_,rfl,d,c⟩
def zkH(v:Value)(l:Bs)(w:World)(h:Rd w v l) :Calls prog 170 #[v] w (RetB w (encB l)):=by
 have j:=h.small;have d:=h.len;have i:=zaA l.length (by omega);go_enter func170,ntmps170;go_wp2_with fail;refine(zd9 _ (by omega) (by omega) w).mono ?_;rintro e n⟨m,rfl,f,c⟩;have g:=h.later c l_;rw[Aw]at f;go_wp2_with (with_reducible refine wpl_append w.heap.size _ _ ?hs f _ l ?hx g ?hn ?hbase w.heap.size w c l_ ?_)
 case hs=>rfl
 case hx=>rfl
 case hn=>omega
 case hbase=>exact c.size
 intro k w' b a _;go_wp2;go_ret;exact⟨_,rfl,b,a⟩
/- -/
open Go.Shelf
def zi7:∀(cs:List Col),(∀c∈cs,c.1.length<=32)->(zaK cs).length<=60*cs.length
 | [],_=>by simp[zaK]
 | c::r,h=>by
  have ih:=zi7 r (fun x a=>h x (by simp[a]));have b:=h c (by simp);have:=zaA c.1.length (by omega);have e:(zgL c).length=(encU c.1.length).length+c.1.length+1:=by unfold zgL encB;simp;omega
  unfold zaK at ih ⊢;rw[Db,Ae,Ap,e];omega
variable {l:Bs} {k:Nat}
def zyS{cs:List Col}(h:errS cs=0):(wrS cs).length<=1000:=by
 obtain⟨d,e,_,a⟩:=zaO h;have:=zi7 cs (fun c b=>(a c b).1);have:=zaA cs.length (by omega);unfold wrS;rw[Ae];omega
def WrO(w:World)(cs:List Col)(e:Ending)(w':World):Prop :=
 ∃v,e=.returned (.tuple #[v,.int .i64 (errS cs:Nat)])/\Lz w w'/\((errS cs≠0/\v=.slice none 0 0)\/(errS cs=0/\Own w' w.heap.size v (wrS cs)))
def zqG(v:Value)(cs:List ColB)(w:World)(h:RdC w v cs)(hC:CS cs)(hT:Tabs w) :Calls prog 69 #[v] w (WrO w (colsL cs)):=by
 have aD:=h.len;have aW:=h.small;have aS:=znL (colsL cs);by_cases h0:errS (colsL cs)=0
 .have HZ:=h_ h0;obtain⟨z1,z2,z3,z4⟩:=zaO h0;rw[za4]at z1 z2;have HH:=h_ h;clear h h0;go_enter func69,ntmps69;go_wp2_with fail;refine(zb0 v cs w HH.o hC hT).mono ?_;rintro e w1⟨rfl,c⟩;rw[HZ.o];have f:=h_ c;clear c;go_wp2_with fail;refine(zcW (cs.length:Int) (by omega) (by omega) w1).mono ?_;rintro e w2⟨u,rfl,hO,c⟩;rw[Aw]at hO;have E:=h_ (hO.base f.size);have G:=bT f c;clear c hO;go_wp2;go_loopw [5,19] (fun a i wr=>∃k:Nat,k<=cs.length/\i=.int .i64 k/\Hid (Lz w wr)/\Hid (Own wr w.heap.size a (encU cs.length++zaK ((colsL cs).take k)))/\Hid ((encU cs.length++zaK ((colsL cs).take k)).length<=10+60*k)) (fun _ i _=>cs.length-(intOf i).toNat)
  case atStart=>
   refine⟨0,by omega,rfl,G,?_,h_ ?_⟩
   .simpa[zaK]using E
   have:=zaA cs.length (by omega);simpa[zaK]using this
  clear E G;obtain⟨k,hk,rfl,HB,E,m⟩:=hrel;by_cases d:k<cs.length
  .have hr:=HH.later HB.o l_;obtain⟨b,o,aC,p,aB⟩:=hr.get d;obtain⟨z,A⟩:=p _ hr;obtain⟨r,X,Y⟩:=hC.get d
   have hz:=z4 ((colsL cs).getD k default) (by
    rw[show(colsL cs).getD k default=(colsL cs)[k]'(by rw[za4];exact d)from by simp[List.getD,za4,d]];exact AM _)
   rw[zbX d]at hz;have g:=zjQ (cs:=colsL cs) (k:=k) (by rw[za4];exact d);rw[zbX d]at g;rcases hcg:cs.getD k default with⟨s,kd⟩
   rw[hcg]at z A r X Y hz g;dsimp only at z A r X Y;have hS:=zdA r;obtain⟨l,hl⟩:=nm_ s.data.toList;rw[<-hl]at hS;have hz:l.length<=32/\0<=kd/\kd<=5:=(by rw[hl];exact hz);have g:zaK ((colsL cs).take (k+1))=(zaK ((colsL cs).take k)++encB l)++[UInt8.ofNat kd.toNat]:=(by rw[hl];exact g);have L:=h_ g;have HS:=h_ hS;clear hr p hcg hl hS g r z4;have f:=h_ (HB.alloc HB.size (.cells #[.string s,.int .i64 kd] 62));have J:=h_ (E.alloc (.cells #[.string s,.int .i64 kd] 62));obtain⟨N0,N1,N2⟩:=new1 wr (.cells #[.string s,.int .i64 kd] 62);obtain⟨w3,D⟩:=nm_ (wr.alloc (.cells #[.string s,.int .i64 kd] 62));obtain⟨bv,w4,t,U,c⟩:=zdE HS.o w3;rw[D]at t;rw[<-D]at f J N1;have ae:=bT f c;have ai:=h_ (J.later c l_);have Q4:=h_ (zIX N1 c);have am:=h_ U;clear N0 N1 N2 c U D;go_wp2_with fail;refine(zhE bv l w4 am.o).mono ?_;rintro e w5⟨y,rfl,Q,c⟩;have H:=bT ae c;have aj:=h_ (ai.later c l_);have Q5:=h_ (zIX Q4.o c);have hY:=Q.rd (by have:=zaA l.length (by omega);unfold encB;simp;omega);have HY:=h_ hY;clear c Q hY t z A;go_wp2_with (with_reducible refine wpl_append w.heap.size _ _ ?hs aj.o _ (encB l) ?hx HY.o ?hn ?hbase w.heap.size w H.o l_ ?_)
   case hs=>rfl
   case hx=>rfl
   case hn=>have:=zaA l.length (by omega);have:=m.o;unfold encB;simp at this ⊢;omega
   case hbase=>exact H.size
   intro v6 w6 S N V;have ak:=h_ S;have I:=h_ N;have Z:=fun j hj=>World.ownsRow.lt E.o j hj;have q6:=(V.block wr.heap.size (AE (Aj.1 Q5.o).1 l_) (fun hh=>by have:=(Z _ hh.symm).2;omega)).trans Q5.o;have c1:=za2 (i:=1) q6 rfl;have aV:kd.toNat<256:=(by omega);clear S N V Z q6;have n:Lz w (w6.alloc (.cells #[.int .u8 kd] 5)):=I.alloc I.size _;have M:=h_ n;clear n;go_wp2_with (with_reducible refine wpl_append w.heap.size _ _ ?hs (ak.o.alloc _) _ [UInt8.ofNat kd.toNat] ?hx (zqZ w6 kd (by omega) (by omega)) ?hn ?hbase w.heap.size w M.o l_ ?_)
   case hs=>rfl
   case hx=>rfl
   case hn=>have:=zaA l.length (by omega);have:=m.o;unfold encB;simp at this ⊢;omega
   case hbase=>exact M.size
   intro v8 w8 T O au;have al:=h_ (show Own w8 w.heap.size v8 (encU cs.length++zaK ((colsL cs).take (k+1))) by rw[L.o,<-An,<-An];exact T);have af:=h_ O;have ag:=h_ (show(encU cs.length++zaK ((colsL cs).take (k+1))).length<=10+60*(k+1) by
    have h1:=zaA l.length (by omega);have h2:=m.o;rw[L.o];unfold encB;simp at h2 ⊢;omega)
   clear T O au c1;go_wp2;go_roundw
   case rel=>exact⟨k+1,by omega,by go_num,af,al,ag⟩
   simp[intOf];omega
  obtain rfl:k=cs.length:=by omega
  have ht:(colsL cs).take cs.length=colsL cs:=Am (by rw[za4];omega);have ah:=h_ (show Own wr w.heap.size u5 (wrS (colsL cs)) by
   have:=E.o;rw[ht]at this;unfold wrS;rw[za4];exact this)
  clear d ht;go_wp2;go_ret2;exact⟨_,by rw[HZ.o];rfl,HB.o,.inr ⟨HZ.o,ah.o⟩⟩
 have av:(((errS (colsL cs):Nat):Int)!=0)=true:=by simp;omega
 obtain⟨x,hx⟩:=nm_ (errS (colsL cs));rw[<-hx]at av;have C:=zb0 v cs w h hC hT;rw[<-hx]at C;have HX:=h_ hx;clear hx h;go_enter func69,ntmps69;go_wp2_with fail;refine C.mono ?_;rintro e w1⟨rfl,c⟩;have f:=h_ c;clear c C;go_wp2;go_ret2;exact⟨_,by rw[<-HX.o];rfl,f.o,.inl ⟨h0,rfl⟩⟩
/- -/
def zz3(l:Bs)(n j:Nat)(c:n<l.length)(b:j<=n):(valU ((l.take (n+1)).drop j):Int)=at8 l j%128+128*valU ((l.take (n+1)).drop (j+1)):=by
 have a:j<(l.take (n+1)).length:=by simp;omega
 rw[Bf a,zc0,ziY (by omega)];simp
def zDL(l:Bs)(j:Nat)(a:j<=l.length):128^j*valU (l.drop j)<=valU l:=by
 have h:=zjV (l.take j) (l.drop j);rw[A0,Aq,A7 a]at h;omega
def zz2(l:Bs)(n j:Nat)(e:n<l.length)(d:j<=n)(h:144115188075855871<valU ((l.take (n+1)).drop (j+1))):2^64<=valU (l.take (n+1)):=by
 have b:=zDL (l.take (n+1)) (j+1) (by simp;omega);have a:128^1<=128^(j+1):=BE (by decide) (by omega);have c:128^1*144115188075855872<=128^(j+1)*valU ((l.take (n+1)).drop (j+1)):=Nat.mul_le_mul a (by omega);omega
def zC2(a:∀j,j<k->128<=at8 l j)(d:k<10)(e:k<l.length)(b:at8 l k<128)(c:2^64<=valU (l.take (k+1))):getU l=(0,0,7):=by
 have:=zdC (k:=10) (n:=k) (l:=l) (by omega) (by omega) a (fun _ _=>b);simp only[getU,this];rw[Aa (by omega),Aa (by omega),Ab c]
def zC1(b:∀j,j<k->128<=at8 l j)(e:k<10)(f:k<l.length)(c:at8 l k=0)(a:0<k)(d:valU (l.take (k+1))<2^64):getU l=(0,0,6):=by
 have:=zdC (k:=10) (n:=k) (l:=l) (by omega) (by omega) b (fun _ _=>by omega);simp only[getU,this];rw[Aa (by omega),Aa (by omega),Aa (by omega),Ab ⟨a,c⟩]
def zrM(b:∀j,j<k->128<=at8 l j)(e:k<10)(f:k<l.length)(c:at8 l k<128)(a:¬(0<k/\at8 l k=0))(d:valU (l.take (k+1))<2^64):getU l=(valU (l.take (k+1)),k+1,0):=by
 have:=zdC (k:=10) (n:=k) (l:=l) (by omega) (by omega) b (fun _ _=>c);simp only[getU,this];rw[Aa (by omega),Aa (by omega),Aa (by omega),Aa a]
def zbD(v:Value)(l:Bs)(w:World)(h:Rd w v l) :Calls prog 175 #[v] w fun e w'=>e=.returned (.tuple #[.int .u64 (getU l).1,.int .i64 (getU l).2.1,.int .i64 (getU l).2.2])/\w=w':=by
 have z:=h.len;have u:=h.idx;have s:=h.cells;have L:=h.small;go_enter func175,ntmps175;go_wp2;go_loop [5] (fun i=>∃(k:Nat),k<=l.length/\k<=10/\i=.int .i64 k/\Hid (∀j,j<k->128<=at8 l j)) (fun i=>10-(intOf i).toNat)
 case atStart=>exact⟨0,by omega,by omega,rfl,fun j d=>absurd d (by omega)⟩
 obtain⟨k,m,y,rfl,b⟩:=hrel;have E:=zfB l k;have G:=zdG l k;by_cases a:k<10
 .by_cases c:k<l.length
  .by_cases O:127<at8 l k
   .go_wp2;go_round
    case rel=>exact⟨k+1,by omega,by omega,by go_num,fun j d=>(by
      by_cases e:j=k
      .subst e;omega
      .exact b j (by omega))⟩
    simp[intOf];omega
   have M:((k:Int)==10)=false:=(by simp;omega);have N:((k:Int)==(l.length:Int))=false:=(by simp;omega);go_wp2;go_loop [6,7] (fun x i=>(∃(j:Nat)(X:Int),j<=k/\0<=X/\i=.int .i64 j/\x=.int .u64 X/\Hid (X=valU ((l.take (k+1)).drop (j+1))))\/(∃X:Int,i=.int .i64 (-1)/\x=.int .u64 X/\Hid (X=valU (l.take (k+1))/\X<2^64))) (fun _ i=>(intOf i+1).toNat)
   case atStart=>exact .inl ⟨k,0,l_,Int.le_refl _,rfl,rfl,by rw[Bj (by simp;omega)];rfl⟩
   rcases hrel with⟨j,X,d,C,rfl,rfl,f⟩|⟨X,rfl,rfl,f⟩
   .have J:j<l.length:=(by omega);have H:=zfB l j;have I:=zdG l j;by_cases r:144115188075855871<X
    .go_wp2;go_ret3;refine⟨?_,rfl⟩;have p:=f.o;exact ret3 (zC2 b a c (by omega) (zz2 l k j c d (by omega))) rfl rfl rfl
    go_wp2;have A:=zz3 l k j c d;have p:=f.o;rw[<-p]at A;go_round
    case rel=>
     by_cases g:j=0
     .subst g;exact .inr ⟨_,rfl,rfl,by rw[Bz]at A;omega,by omega⟩
     exact .inl ⟨j-1,_,by omega,by omega,by go_num,rfl,by rw[show j-1+1=j by omega];show _=_;omega⟩
    simp[intOf]
   go_wp2
   all_goals go_ret3
   all_goals refine⟨?_,rfl⟩
   all_goals obtain⟨rfl,D⟩:=f
   .exact ret3 (zC1 b a c (eq_of_beq (by assumption)) (by omega) (by omega)) rfl rfl rfl
   .have n:(at8 l k==0)=false:=(by assumption);exact ret3 (zrM b a c (by omega) (fun t=>by simp[t.2]at n) (by omega)) rfl (by omega) rfl
   exact ret3 (zrM b a c (by omega) (fun t=>by omega) (by omega)) rfl (by omega) rfl
  obtain rfl:k=l.length:=by omega
  have M:((l.length:Int)==10)=false:=by simp;omega
  go_wp2;go_ret3;exact⟨ret3 (zhT b a rfl) rfl rfl rfl,rfl⟩
 obtain rfl:k=10:=by omega
 go_wp2;go_ret3;exact⟨ret3 (zrL b rfl m) rfl rfl rfl,rfl⟩
def zbT(v:Value)(l:Bs)(most:Int)(I:-9223372036854775808<=most)(J:most<=9223372036854775807)(w:World)(h:Rd w v l) :Calls prog 125 #[v,.int .i64 most] w (zfN w (getB l most)):=by
 have r:=zw1 l;have i:=zaY l;have u:=zdV l;have E:=h.len;have Q:=h.small;have a:getB l most=getB l most:=rfl
 conv at a=>rhs;unfold getB
 rcases hr:getU l with⟨x,n,D⟩;rw[hr]at r i u a;dsimp only at r i u a;have f:=h_ hr;clear hr;by_cases y:D=0
 .subst y;obtain⟨hx,L,M,N⟩:=i rfl;clear r i u;rw[Aa (by simp)]at a;by_cases b:most<0\/most<x
  .rw[Ab b]at a;have d:=h_ a;clear a;by_cases j:most<0
   .clear b;go_enter func125,ntmps125;go_wp2_with (go_at_call 175;refine(zbD v l _ h).mono ?_;rintro e w'⟨rfl,rfl⟩;rw[f.o];dsimp only);go_ret3;exact zfN.none d.o rfl
   have H:most<x:=(by omega);have A:0<=most:=(by omega);clear b j;go_enter func125,ntmps125;go_wp2_with (go_at_call 175;refine(zbD v l _ h).mono ?_;rintro e w'⟨rfl,rfl⟩;rw[f.o];dsimp only);go_ret3;exact zfN.none d.o rfl
  rw[Aa b]at a;have G:(x:Int)<=most:=by omega
  have A:0<=most:=by omega
  clear b;by_cases m:l.length-n<x
  .rw[Ab m]at a;have d:=h_ a;clear a;have p:(l.length:Int)-n<x:=(by omega);have C:(n:Int)<=l.length:=(by omega);go_enter func125,ntmps125;go_wp2_with (go_at_call 175;refine(zbD v l _ h).mono ?_;rintro e w'⟨rfl,rfl⟩;rw[f.o];dsimp only);go_ret3;exact zfN.none d.o rfl
  rw[Aa m]at a;have d:=h_ a;clear a;have p:(x:Int)<=(l.length:Int)-n:=by omega
  have C:(n:Int)<=l.length:=by omega
  obtain⟨S,z,k⟩:=h.cut n (n+x) (by omega) (by omega);have s:=h_ k;clear k;rw[show(((n+x:Nat)):Int)=(n:Int)+(x:Int) by omega]at z;go_enter func125,ntmps125;have g:Lz w (w.alloc (.cells #[] 5)):=(Ac _ _).alloc l_ _;go_wp2_with (first|(go_at_call 175;refine(zbD v l _ h).mono ?_;rintro e w'⟨rfl,rfl⟩;rw[f.o];dsimp only)|(with_reducible refine wpl_append w.heap.size _ [] ?hs (own_empty w w.heap.size l_) S _ ?hx (s.o _ (h.alloc _)) ?hn ?hbase w.heap.size w g l_ ?_))
  case hs=>rfl
  case hx=>rfl
  case hn=>simp;omega
  case hbase=>simp
  intro T U c t _;go_wp2;go_ret3;rw[AA,List.drop_take,Nat.add_sub_cancel_left]at c;exact zfN.own d.o c t (by omega) rfl
 obtain⟨hx,hn⟩:=r y;subst hx hn;rw[Ab y]at a;have d:=h_ a;clear a i;have O:((D:Int)!=0)=true:=by simp;omega
 go_enter func125,ntmps125;go_wp2_with (go_at_call 175;refine(zbD v l _ h).mono ?_;rintro e w'⟨rfl,rfl⟩;rw[f.o];dsimp only);go_ret3;exact zfN.none d.o rfl
/- -/
def zkE(v:Value)(cs:List ColB)(w:World)(h:RdC w v cs)(hC:CS cs)(h0:errS (colsL cs)=0) :Calls prog 130 #[v] w (RetB w (wrS (colsL cs))):=by
 have aq:=h.len;have aC:=h.small;have HZ:=h_ h0;obtain⟨z1,z2,z3,z4⟩:=zaO h0;rw[za4]at z1 z2;have HH:=h_ h;clear h h0;go_enter func130,ntmps130;go_wp2_with fail;refine(zd9 (cs.length:Int) (by omega) (by omega) w).mono ?_;rintro e w2⟨u,rfl,hO,n⟩;rw[Aw]at hO;have C:=h_ hO;have z:=h_ n;clear n hO;go_wp2;go_loopw [3,4] (fun a i wr=>∃k:Nat,k<=cs.length/\i=.int .i64 k/\Hid (Lz w wr)/\Hid (Own wr w.heap.size a (encU cs.length++zaK ((colsL cs).take k)))/\Hid ((encU cs.length++zaK ((colsL cs).take k)).length<=10+60*k)) (fun _ i _=>cs.length-(intOf i).toNat)
 case atStart=>
  refine⟨0,by omega,rfl,z,?_,h_ ?_⟩
  .simpa[zaK]using C
  have:=zaA cs.length (by omega);simpa[zaK]using this
 clear C z;obtain⟨k,hk,rfl,V,C,j⟩:=hrel;by_cases c:k<cs.length
 .have T:=HH.later V.o l_;obtain⟨b,o,ap,d,ao⟩:=T.get c;obtain⟨t,x⟩:=d _ T;obtain⟨p,N,O⟩:=hC.get c
  have U:=z4 ((colsL cs).getD k default) (by
   rw[show(colsL cs).getD k default=(colsL cs)[k]'(by rw[za4];exact c)from by simp[List.getD,za4,c]];exact AM _)
  rw[zbX c]at U;have f:=zjQ (cs:=colsL cs) (k:=k) (by rw[za4];exact c);rw[zbX c]at f;have HR:=h_ T;rcases hcg:cs.getD k default with⟨s,kd⟩
  rw[hcg]at t x p N O U f;have g:=h_ d;rw[hcg]at g;dsimp only at t x p N O;have hS:=zdA p;obtain⟨l,S⟩:=nm_ s.data.toList;rw[<-S]at hS;have U:l.length<=32/\0<=kd/\kd<=5:=by rw[S];exact U
  have f:zaK ((colsL cs).take (k+1))=(zaK ((colsL cs).take k)++encB l)++[UInt8.ofNat kd.toNat]:=by rw[S];exact f
  have D:=h_ f;have HS:=h_ hS;obtain⟨bv,w4,Q,M,n⟩:=zdE HS.o wr;have X:=bT V n;have ab:=h_ (C.later n l_);have af:=h_ M;clear T d hcg S hS f p z4 n M;go_wp2_with fail;refine(zkH bv l w4 af.o).mono ?_;rintro e w5⟨y,rfl,I,n⟩;have A:=bT X n;have ac:=h_ (ab.later n l_);have hY:=I.rd (by have:=zaA l.length (by omega);unfold encB;simp;omega);have HY:=h_ hY;clear n I hY Q t x;go_wp2_with (with_reducible refine wpl_append w.heap.size _ _ ?hs ac.o _ (encB l) ?hx HY.o ?hn ?hbase w.heap.size w A.o l_ ?_)
  case hs=>rfl
  case hx=>rfl
  case hn=>have:=zaA l.length (by omega);have:=j.o;unfold encB;simp at this ⊢;omega
  case hbase=>exact A.size
  intro v6 w6 J G aj;have ad:=h_ J;have r:=h_ G;have c1:=(g.o w6 (HH.later r.o l_)).2;have aB:kd.toNat<256:=by omega
  clear J G aj;have m:Lz w (w6.alloc (.cells #[.int .u8 kd] 5)):=r.alloc r.size _;have E:=h_ m;clear m;go_wp2_with (with_reducible refine wpl_append w.heap.size _ _ ?hs (ad.o.alloc _) _ [UInt8.ofNat kd.toNat] ?hx (zqZ w6 kd (by omega) (by omega)) ?hn ?hbase w.heap.size w E.o l_ ?_)
  case hs=>rfl
  case hx=>rfl
  case hn=>have:=zaA l.length (by omega);have:=j.o;unfold encB;simp at this ⊢;omega
  case hbase=>exact E.size
  intro v8 w8 L H ak;have ae:=h_ (show Own w8 w.heap.size v8 (encU cs.length++zaK ((colsL cs).take (k+1))) by rw[D.o,<-An,<-An];exact L);have Y:=h_ H;have Z:=h_ (show(encU cs.length++zaK ((colsL cs).take (k+1))).length<=10+60*(k+1) by
   have h1:=zaA l.length (by omega);have h2:=j.o;rw[D.o];unfold encB;simp at h2 ⊢;omega)
  clear L H ak c1;go_wp2;go_roundw
  case rel=>exact⟨k+1,by omega,by go_num,Y,ae,Z⟩
  simp[intOf];omega
 obtain rfl:k=cs.length:=by omega
 have ht:(colsL cs).take cs.length=colsL cs:=Am (by rw[za4];omega);have aa:=h_ (show Own wr w.heap.size u3 (wrS (colsL cs)) by
  have:=C.o;rw[ht]at this;unfold wrS;rw[za4];exact this)
 clear c ht;go_wp2;go_ret;exact⟨_,rfl,aa.o,V.o⟩
def ztL(v:Value)(cs:List ColB)(w:World)(h:RdC w v cs)(g:CS cs)(b:errS (colsL cs)=0) :Calls prog 92 #[v] w fun e w'=>e=.returned (.int .u32 (Crc.sum (wrS (colsL cs)):Nat))/\Lz w w':=by
 have i:=zyS b;go_enter func92,ntmps92;go_wp2_with fail;refine(zkE v cs w h g b).mono ?_;rintro e j⟨u,rfl,c,d⟩;have a:=h_ d;have f:=h_ (c.rd (by omega));clear d c b;go_wp2_with fail;refine(zoP u _ _ f.o).mono ?_;rintro e k⟨rfl,rfl⟩;go_wp2;go_ret;exact⟨rfl,a.o⟩
end
