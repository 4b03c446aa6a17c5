/- -/
import Derived.Lib.SliceRun
import Derived.Test.YtgboedffaangeaaGreatDoorVColWr
set_option maxHeartbeats 16000000
set_option linter.all false
set_option maxRecDepth 1000000
namespace Go.Proofs.YtgboedffaangeaaGreatDoor
open _root_.Go.Proofs.Tryz
open Go.RowKit
def Plc(w:World)(v v':Value):Prop:=∀k,v'.ownBlock=some k->v.ownBlock=some k\/w.heap.size<=k
def Tor(w:World)(base:Nat)(v:Value)(l:Bs):Prop :=
 (v=.slice none 0 0/\l=[])\/∃(g cap:Nat)(cur:Array Value),v=.slice (some ⟨g,0,none⟩) l.length cap/\base<=g/\w.heap[g]?=some (.cells cur 5 (0,0))/\l.length<=cap/\cap<=maxLen/\cap<=cur.size/\cur.toList.take l.length=za7 l
section
variable{w w':World}{base:Nat}{v:Value}{l:Bs}
def Own.tor(h:Own w base v l):Tor w base v l:=by
 rcases h.2 with⟨rfl,d⟩|⟨g,cap,a,rfl,b,e,d,hm,f,i⟩
 .exact .inl ⟨rfl,AR d⟩
 exact .inr ⟨g,cap,a,rfl,b,e,d,hm,by simp at f;omega,by simpa using i⟩
def Tor.cells(h:Tor w base v l){i:Nat}{u:Value}(a:(za7 l)[i]?=some u):w.cell? (adr v i)=some u:=by
 rcases h with⟨rfl,rfl⟩|⟨g,cap,b,rfl,d,f,k,hm,m,j⟩
 .simp[za7]at a
 have e:adr (.slice (some ⟨g,0,none⟩) l.length cap) i=⟨g,i,none⟩:=by simp only[adr,Addr.add];split<;>simp_all
 rw[e,Ag _ _ _ _ _ _ f];rw[<-j,List.getElem?_take]at a;split at a
 .simpa using a
 cases a
def Tor.lit(h:Tor w base v l):∃b cap,v=.slice b l.length cap/\l.length<=cap/\(b=none->cap=0)/\(∀a,b=some a->∃g,a=⟨g,0,none⟩):=by
 rcases h with⟨rfl,rfl⟩|⟨g,cap,d,rfl,e,i,f,hm,j,k⟩
 .exact⟨_,_,rfl,l_,fun _=>rfl,fun a h=>by cases h⟩
 exact⟨_,_,rfl,f,(by intro h;cases h),fun a h=>by injection h with h;exact⟨g,h.symm⟩⟩
def Tor.rd(h:Tor w base v l)(k:l.length<=140737488351232):Rd w v l:=by
 obtain⟨b,cap,m,f,d,e⟩:=h.lit;refine⟨⟨b,cap,m,f,d,fun hp=>?_⟩,fun i j=>h.cells (zlW j),k⟩;cases b with
 | none=>have:=d rfl;omega
 | some a=>obtain⟨g,rfl⟩:=e a rfl;exact⟨g,0,rfl⟩
def Tor.lt(h:Tor w base v l){k:Nat}(b:v.ownBlock=some k):base<=k/\k<w.heap.size:=by
 rcases h with⟨rfl,rfl⟩|⟨g,cap,d,rfl,a,e,f,hm,i,j⟩
 .cases b
 cases b;exact⟨a,(Aj.1 e).1⟩
def Tor.type(h:Tor w base v l){k:Nat}(b:v.ownBlock=some k):∃a,w.heap[k]?=some (.cells a 5 (0,0)):=by
 rcases h with⟨rfl,rfl⟩|⟨g,cap,a,rfl,d,e,f,hm,i,j⟩
 .cases b
 cases b;exact⟨_,e⟩
def Tor.only{S:Nat->Prop}(h:Tor w base v l)(d:Only S w w')(f:∀q,v.ownBlock=some q->¬S q):Tor w' base v l:=by
 rcases h with h|⟨g,cap,a,rfl,b,e,r⟩
 .exact .inl h
 exact .inr ⟨g,cap,a,rfl,b,d.keep e (f g rfl),r⟩
def Tor.base_le{b':Nat}(h:Tor w base v l)(d:b'<=base):Tor w b' v l:=by
 rcases h with h|⟨g,cap,a,rfl,b,r⟩
 .exact .inl h
 exact .inr ⟨g,cap,a,rfl,Ar d b,r⟩
end
variable {a:Act} {ops:Array Oper} {Q:Exit->Act->World->Prop} {rest:List Oper} {s x:Operand} {pos:String} {w:World}
def zt5{H:Option Tmp}{U:TypeId}{Y:Array Edge}(base:Nat)(C:Value)(m:Bs)(hs:a.eval s=C)(ho:Tor w base C m)(xv:Value)(l:Bs)(hx:a.eval x=xv)(hR:Rd w xv l)(X:m.length+l.length<=140737488355328)(f:base<=w.heap.size)(h:∀d w',Tor w' base d (m++l)->w.grownBy w' C.ownBlock->Plc w C d->wpList prog ops Q rest (a.put H d) w') :wpList prog ops Q (⟨H,.call ⟨.builtin .append,#[s,x],#[34,34]⟩,U,pos,Y,none⟩::rest) a w:=by
 obtain⟨i0,J,O,t,T⟩:=info_parts zgB;obtain⟨⟨ao,cap,rfl,ak,L,ag⟩,I,_⟩:=hR;refine wpList_plain rfl fun K hK=>?_;have key:∃d w',(Builtin.append_ #[34,34] U #[C,.slice ao l.length cap]).run prog w=.ok d w'/\Tor w' base d (m++l)/\w.grownBy w' C.ownBlock/\Plc w C d:=by
  cases ao with
  | none=>
   obtain rfl:cap=0:=L rfl;obtain rfl:l=[]:=AR (by omega);refine⟨C,w,?_,by simpa using ho,World.grownBy.refl _ _,fun k i=>.inl i⟩;rcases ho with⟨rfl,rfl⟩|⟨g,cap,y,rfl,E,V,X,hm,hs,ht⟩
   .simp[Builtin.append_,run_underlying (P:=prog) underlying34,sizeOf,typeInfo,J,Builtin.lenOf,Builtin.firstCells]
   simp[Builtin.append_,run_underlying (P:=prog) underlying34,sizeOf,typeInfo,J,Builtin.lenOf,Builtin.firstCells,X,storeCells]
  | some ad=>
   have b:∀j u,(za7 l)[j]?=some u->w.cell? (ad.add j)=some u:=fun j u hj=>by
    obtain⟨ac,rfl⟩:=zbM hj;exact I j ac
   rcases ho with⟨rfl,rfl⟩|⟨g,c,y,rfl,E,V,ae,hm,aa,ht⟩
   .obtain⟨d,w',G,D,A,_⟩:=run_append_own (P:=prog) w w.heap.size 34 U 5 i0 (.int .u8 0) 1 1 underlying34 J O t T rfl (by decide) (.slice none 0 0) 0 [] (World.ownsRow_nil w _ _ 1) ad l.length cap (za7 l) (by simp[za1]) b (zbL l) (by unfold maxLen;simp at X;omega) (by simp at X;omega) l_;have Z:Own w' w.heap.size d ([]++l):=(by unfold Own;simpa using D);exact⟨d,w',G,(Z.base f).tor,A,fun k i=>.inr (World.ownsRow.lt D k i).1⟩
   by_cases p:m.length+l.length<=c
   .have G:=run_append_room (P:=prog) w 34 U 5 i0 underlying34 J g m.length c y V ad l.length cap (za7 l) (by rw[t];simp[za1]) b (zbL l) p (by rw[t,za1];omega);rw[t]at G;refine⟨_,_,G,.inr ⟨g,c,_,by rw[Ae],E,setRow_heap w g y _ _ _ V,by rw[Ae];exact p,hm,?_,?_⟩,⟨rfl,rfl,rfl,by simp,fun k _ i=>setRow_other w g k _ (fun e=>i (by simp[Value.ownBlock,e]))⟩,fun k i=>.inl i⟩
    .simp only[Br,Ae,Aq,Ay,Array.length_toList,za1];omega
    rw[Nat.mul_one,ht,<-zaG,Ae];have:m.length+l.length=(za7 (m++l)).length:=(by rw[za1,Ae]);rw[this];exact Da
   obtain⟨d,w',G,D,A⟩:=run_append_arg_grows (P:=prog) w 34 U 5 i0 (.int .u8 0) 1 1 underlying34 J O t T rfl (by decide) ⟨g,0,none⟩ m.length c (za7 m) (by simp[za1]) (fun j u hj=>by
    have:=Tor.cells (.inr ⟨g,c,y,rfl,E,V,ae,hm,aa,ht⟩:Tor w base (.slice (some ⟨g,0,none⟩) m.length c) m) hj;exact this) ad l.length cap (za7 l) (by simp[za1]) b (by omega) (by unfold maxLen;omega) (by omega)
   have Z:Own w' w.heap.size d (m++l):=(by unfold Own;rw[Ae,zaG];exact D);refine⟨d,w',G,(Z.base f).tor,⟨A.os,A.tape,A.output,A.size,fun k i _=>A.block k i (by simp)⟩,fun k i=>.inr (World.ownsRow.lt D k i).1⟩
 obtain⟨d,w',M,D,A,h3⟩:=key;unfold Oper.wp;simp[execOp,resolve,invoke,builtin,hs,hx,M,Result.andThen];exact hK _ _ (h d w' D A h3)
def zbW{K:Act->World->Prop}{d:Option Tmp}{X:TypeId}{D:Array Edge}{gu:Option (Nat×Bool)}(base:Nat)(y:Value)(m:Bs)(T:a.eval s=y)(A:Own w base y m)(Y:Value)(l:Bs)(U:a.eval x=Y)(hR:Rd w Y l)(hn:m.length+l.length<=140737488355328)(b:base<=w.heap.size)(h:∀C w',Own w' base C (m++l)->Only (fun j=>base<=j) w w'->K (a.put d C) w') :Oper.wp prog ⟨d,.call ⟨.builtin .append,#[s,x],#[34,34]⟩,X,pos,D,gu⟩ a w K Q:=by
 obtain⟨V,O,H,I,J⟩:=info_parts zgB;obtain⟨⟨Z,cap,rfl,M,p,G⟩,i,_⟩:=hR;cases Z with
 | none=>
  obtain rfl:cap=0:=p rfl;obtain rfl:l=[]:=AR (by omega);have t:=run_append_owned_none (P:=prog) w base 34 X 5 V 1 underlying34 O y m.length (za7 m) A;unfold Oper.wp;simp[execOp,resolve,invoke,builtin,T,U,t,Result.andThen];exact h y w (by simpa using A) (Only.refl _ _)
 | some ad=>
  refine wp_append_own w s x 34 rfl base 5 V (.int .u8 0) 1 1 underlying34 O H I J rfl (by decide) y m.length (za7 m) T A ad l.length cap (za7 l) U (by simp[za1]) (fun j u hj=>?_) (zbL l) (by unfold maxLen;omega) (by omega) b (fun C w' L f _=>?_)
  .obtain⟨E,rfl⟩:=zbM hj;exact i j E
  refine h C w' ?_ ⟨f.os,f.tape,f.output,f.size,fun k h3 h4=>f.block k h3 fun e=>h4 ((World.ownsRow.lt A k e.symm).1)⟩;rw[<-zaG]at L;unfold Own;rw[Ae];exact L
def zyW{t:Option Tmp}{ty:TypeId}{A:Array Edge} {d:Operand}(C:Option Addr)(f m:Nat)(J:a.eval d=.slice C f m)(O:Value)(l:Bs)(M:a.eval s=O)(V:Rd w O l)(Z:l.length<=f)(g off:Nat)(i:Array Value)(E:w.heap[g]?=some (.cells i 5 (0,0)))(D:0<l.length->C=some ⟨g,off,none⟩)(y:off+l.length<=i.size)(h:∀w',Hid (w'.heap[g]?=some (.cells (splice i.toList off (za7 l)).toArray 5 (0,0)))->w.grownBy w' (some g)->wpList prog ops Q rest (a.put t (.int .i64 (l.length:Int))) w') :wpList prog ops Q (⟨t,.call ⟨.builtin .copy,#[d,s],#[34,34]⟩,ty,pos,A,none⟩::rest) a w:=by
 obtain⟨⟨T,cap,rfl,I,L,p⟩,x,_⟩:=V;by_cases U:l.length=0
 .have H:l=[]:=AR U;subst H;refine wpList_copy_nothing rfl d s 34 34 rfl 5 underlying34 zk4 C T f m 0 cap J M (by simp) ?_;exact h w (h_ (by rw[E];simp[splice,za7])) (World.grownBy.refl _ _)
 obtain rfl:=D (by omega);obtain⟨b,o,rfl⟩:=p (by omega);have H:(za7 l).length=Nat.min l.length f:=by rw[za1];exact(A7 Z).symm
 refine wpList_copy_own rfl d s 34 34 rfl 5 underlying34 zk4 g off f m ⟨b,o,none⟩ l.length cap J M i _ E (za7 l) H (fun j u X=>?_) (by rw[za1];exact y) (zbL l) ?_
 .obtain⟨G,rfl⟩:=zbM X;exact x j G
 have:=h (w.setRow g (i.toList.take off++(za7 l++i.toList.drop (off+(za7 l).length))).toArray) (h_ (setRow_heap w g i _ _ _ E)) ⟨rfl,rfl,rfl,by simp[World.setRow],fun k _ Y=>setRow_other w g k _ (fun e=>Y (by rw[e]))⟩;simpa[goInt,za1]using this
structure Dsk(w:World)(N g:Nat)(v:Value)(l:Bs)(s c:Nat):Prop where
 from_:N<=g
 tor:Tor w N v l
 safe:s<=l.length
 small:l.length<=100000000
 few:c<=1000000
 box:w.heap[g]?=some (.cells #[v,.int .i64 (s:Int),.int .i64 (c:Int)] 115 (0,0))
def DskQ(g:Nat)(v:Value)(q:Nat):Prop:=q=g\/v.ownBlock=some q
section
variable{w w':World}{N g s c:Nat}{v:Value}{l:Bs}{S:Nat->Prop}
def Dsk.lt(h:Dsk w N g v l s c):g<w.heap.size:=(Aj.1 h.box).1
def Dsk.cells(h:Dsk w N g v l s c):w.cell? ⟨g,0,none⟩=some v/\w.cell? ⟨g,1,none⟩=some (.int .i64 (s:Int))/\w.cell? ⟨g,2,none⟩=some (.int .i64 (c:Int)):=by
 refine⟨?_,?_,?_⟩<;>rw[Ag _ _ _ _ _ _ h.box]<;>rfl
def Dsk.free(h:Dsk w N g v l s c)(i:Nat):w.frozen? ⟨g,i,none⟩=false:=At _ _ _ _ _ h.box
def Dsk.rd(h:Dsk w N g v l s c):Rd w v l:=h.tor.rd (by have:=h.small;omega)
def Dsk.away(h:Dsk w N g v l s c):v.ownBlock≠some g:=fun e=>by
 obtain⟨b,a⟩:=h.tor.type e;rw[h.box]at a;injection a with a;injection a with _ a _;exact absurd a (by decide)
def Dsk.q(h:Dsk w N g v l s c){q:Nat}(a:DskQ g v q):N<=q/\q<w.heap.size:=by
 rcases a with rfl|a
 .exact⟨h.from_,h.lt⟩
 exact h.tor.lt a
def Dsk.only(h:Dsk w N g v l s c)(a:Only S w w')(b:∀q,DskQ g v q->¬S q):Dsk w' N g v l s c :=
 ⟨h.from_,h.tor.only a fun q d=>b q (.inr d),h.safe,h.small,h.few,a.keep h.box (b g (.inl rfl))⟩
def Dsk.later(h:Dsk w N g v l s c)(a:Lz w w'):Dsk w' N g v l s c :=
 h.only (S:=fun _=>False) ((Only.refl _ w).below a l_) fun _ _ h=>h
def Dsk.below(h:Dsk w N g v l s c)(a:Only (DskQ g v) w w'):Below N w w':=a.toBelow (fun q b=>(h.q b).1) (by have:=h.from_;have:=h.lt;omega)
def Dsk.base_le15{N':Nat}(h:Dsk w N g v l s c)(a:N'<=N):Dsk w N' g v l s c:=⟨Ar a h.from_,h.tor.base_le a,h.safe,h.small,h.few,h.box⟩
def Only.later15(a:Lz w w'):Only S w w':=(Only.refl S w).below a l_
def Only.by15{r:Option Nat}(k:w.grownBy w' r)(d:∀q,r=some q->S q):Only S w w':=⟨k.os,k.tape,k.output,k.size,fun j a b=>k.block j a (fun e=>b (d j e.symm))⟩
def Plc.refl(w:World)(v:Value):Plc w v v:=fun _ h=>.inl h
end
def OffB(w:World)(v:Value)(l:Bs)(Q:Nat->Prop):Prop:=Rd w v l/\∀i,i<l.length->¬Q (adr v i).block
section
variable{w w':World}{v:Value}{l:Bs}{Q Q' S:Nat->Prop}{base:Nat}
def OffB.keep(h:OffB w v l Q)(b:∀j,j<w.heap.size->¬Q j->w'.heap[j]?=w.heap[j]?):OffB w' v l Q :=
 ⟨⟨h.1.shape,fun i a=>(Bi (b _ (h.1.block a) (h.2 i a))).trans (h.1.cells i a),h.1.small⟩,h.2⟩
def OffB.only(h:OffB w v l Q)(d:Only S w w')(e:∀j,S j->Q j):OffB w' v l Q:=h.keep fun j a b=>d.block j a fun f=>b (e j f)
def OffB.more(h:OffB w v l Q)(b:∀j,j<w.heap.size->Q' j->Q j):OffB w v l Q':=⟨h.1,fun i a d=>h.2 i a (b _ (h.1.block a) d)⟩
def OffB.later(h:OffB w v l Q)(a:Lz w w'):OffB w' v l Q:=h.keep fun j b _=>a.block j b
def Rd.off(h:Rd w v l)(a:∀j,j<w.heap.size->¬Q j):OffB w v l Q:=⟨h,fun i b=>a _ (h.block b)⟩
def Own.off(h:Own w base v l)(f:l.length<=140737488351232)(d:∀j,base<=j->¬Q j):OffB w v l Q:=by
 refine⟨h.rd f,fun i m=>?_⟩;rcases h.2 with⟨rfl,p⟩|⟨g,cap,b,rfl,a,k,r⟩
 .omega
 have e:(adr (.slice (some ⟨g,0,none⟩) l.length cap) i).block=g:=by simp only[adr,Addr.add];split<;>simp_all
 rw[e];exact d g a
def OffB.nil(w:World)(Q:Nat->Prop):OffB w (.slice none 0 0) [] Q:=⟨Rd.nil w,fun i a=>by simp at a⟩
end
structure Mdk(w:World)(N g:Nat)(s r:Bs)(n:Nat)(Q:Nat->Prop):Prop where
 from_:N<=g
 away:¬Q g
 small:s.length+r.length<=100000000
 few:n<=1000000
 box:∃sv rv,w.heap[g]?=some (.cells #[sv,rv,.int .i64 (n:Int)] 48 (0,0))/\OffB w sv s (fun q=>q=g\/Q q)/\OffB w rv r (fun q=>q=g\/Q q)
section
variable{w w':World}{N g n:Nat}{s r:Bs}{Q Q' S:Nat->Prop}
def Mdk.lt(h:Mdk w N g s r n Q):g<w.heap.size:=by
 obtain⟨b,rv,a,_⟩:=h.box;exact(Aj.1 a).1
def Mdk.only(h:Mdk w N g s r n Q)(a:Only S w w')(b:∀j,S j->Q j):Mdk w' N g s r n Q:=by
 obtain⟨m,rv,i,e,f⟩:=h.box;exact⟨h.from_,h.away,h.small,h.few,m,rv,a.keep i fun k=>h.away (b g k),e.only a fun j d=>.inr (b j d),f.only a fun j d=>.inr (b j d)⟩
def Mdk.more(h:Mdk w N g s r n Q)(b:∀j,j<w.heap.size->Q' j->Q j):Mdk w N g s r n Q':=by
 obtain⟨k,rv,f,d,e⟩:=h.box;have key:∀j,j<w.heap.size->(j=g\/Q' j)->j=g\/Q j:=fun j i a=>a.imp id (b j i);exact⟨h.from_,fun a=>h.away (b g h.lt a),h.small,h.few,k,rv,f,d.more key,e.more key⟩
def Mdk.later(h:Mdk w N g s r n Q)(a:Lz w w'):Mdk w' N g s r n Q:=h.only (S:=fun _=>False) (Only.later15 a) fun _ h=>h.elim
end
/- -/
def zhC(v:Value)(l:Bs)(w:World)(h:Rd w v l)(hn:l.length<=70368744177664) :Calls prog 54 #[v] w (RetB w l):=by
 obtain⟨y,cap,k,a,b,_⟩:=h.shape;obtain⟨x,d⟩:=nm_ l.length;rw[<-d]at k a;cases y with
 | none=>
  obtain rfl:cap=0:=b rfl;obtain rfl:x=0:=by omega
  obtain rfl:l=[]:=AR d.symm;clear h b a d;subst k;have A:=fun u:World=>Bm (P:=prog) u 34 5 none 0 0 0 0 underlying34;go_enter func54,ntmps54;go_wp2;go_ret;exact⟨_,rfl,zaE _ _,Ac _ _⟩
 | some ad=>
  subst k;have t:=h.later ((Ac w.heap.size w).alloc l_ (.cells #[] 5)) l_;have p:=own_empty w w.heap.size l_;have m:=(Ac w.heap.size w).alloc l_ (.cells #[] 5);clear h b a d;have A:=fun u:World=>Bm (P:=prog) u 34 5 (some ad) x cap 0 0 underlying34;go_enter func54,ntmps54;go_wp2_with (with_reducible refine wpl_append w.heap.size _ [] ?hs p _ l ?hx t ?hn ?hbase w.heap.size w m l_ ?_)
  case hs=>rfl
  case hx=>rfl
  case hn=>simp;omega
  case hbase=>simp
  intro C w4 e f _;rw[AA]at e;have j:=h_ e;have i:=h_ f;clear e f p m t;go_wp2;go_ret;exact⟨_,rfl,j.o,i.o⟩
def NwD(w:World)(b:Bs)(e:Ending)(w':World):Prop :=
 ∃g v,e=.returned (.pointer (some ⟨g,0,none⟩))/\Dsk w' w.heap.size g v b b.length 0/\Lz w w'
def zwB(v:Value)(b:Bs)(w:World)(h:Rd w v b)(t:b.length<=100000000) :Calls prog 28 #[v] w (NwD w b):=by
 have f:=h_ (zhC v b w h (by omega));obtain⟨x,cap,rfl,_⟩:=h.shape;have j:=h.len;clear h;go_enter func28,ntmps28;go_wp2_with fail;refine f.mono ?_;rintro e k⟨y,rfl,d,i⟩;obtain⟨p,u,rfl,_⟩:=d.tor.lit;have m:=h_ d;have a:=h_ i;clear d i f;go_wp2;go_ret;have N:=(Ac k.heap.size k).alloc l_ (.cells #[.slice p b.length u,.int .i64 (b.length:Int),.int .i64 0] 115);exact⟨_,_,rfl,⟨a.size,(m.later N l_).tor,l_,t,by omega,AB _ _⟩,a.trans (N.mono a.size)⟩
def DkO(w:World)(N g:Nat)(v:Value)(l:Bs)(s c:Nat)(x:Nat)(e:Ending)(w':World):Prop :=
 e=.returned (.int .i64 (x:Int))/\∃v',Dsk w' N g v' l s c/\Only (DskQ g v) w w'/\Plc w v v'
def zlH(N g:Nat)(v:Value)(l:Bs)(s c:Nat)(A:Value)(b:Bs)(w:World)(h:Dsk w N g v l s c)(k:Rd w A b)(hn:l.length+b.length<=100000000) :Calls prog 34 #[.pointer (some ⟨g,0,none⟩),A] w (DkO w N g v (l++b) s c 0):=by
 obtain⟨I,cap,rfl,_⟩:=h.tor.lit;obtain⟨O,U,rfl,_⟩:=k.shape;obtain⟨T,J,L⟩:=h.cells;have d:=h_ h;have H:=h_ k;clear h k J L;go_enter func34,ntmps34;go_wp2_with (with_reducible refine zt5 N _ l ?hs d.o.tor _ b ?hx H.o ?hn ?hbase ?_)
 case hs=>rfl
 case hx=>rfl
 case hn=>omega
 case hbase=>have:=d.from_;have:=d.lt;omega
 intro Y w4 j m hp;obtain⟨y,D,rfl,_⟩:=j.lit;rw[Ae]at j hp;have u:=h_ j;have E:=h_ m;have G:=h_ hp;have a:=(m.block g d.lt (fun e=>d.away e.symm)).trans d.box;have V:w4.cell? ⟨g,0,none⟩=some (.slice I l.length cap):=by rw[Ag _ _ _ _ _ _ a];rfl
 have X:w4.frozen? ⟨g,0,none⟩=false:=At _ _ _ _ _ a;have x:=h_ a;clear j m hp a;go_wp2;go_ret;have t:∀q,(Value.slice y (l.length+b.length) D).ownBlock=some q->¬q=g:=fun q i e=>by
  rw[e]at i;obtain⟨M,f⟩:=u.type i;rw[x.o]at f;injection f with f
  injection f with _ f _
  exact absurd f (by decide)
 have C:Only (fun q=>q=g) w4 (w4.setCell ⟨g,0,none⟩ (.slice y (l.length+b.length) D)):=(Only.refl (fun q=>q=g) _).setCell (p:=⟨g,0,none⟩) rfl _;refine⟨rfl,_,⟨d.from_,u.only C t,by rw[Ae];have:=d.safe;omega,by rw[Ae];exact hn,d.few,?_⟩,(Only.by15 E.o fun q i=>.inr i).trans (C.mono fun q i=>.inl i),G.o⟩;exact block_setCell x.o _
def zCJ(N g:Nat)(v:Value)(l:Bs)(s c:Nat)(w:World)(h:Dsk w N g v l s c) :Calls prog 38 #[.pointer (some ⟨g,0,none⟩)] w (DkO w N g v l l.length c 0):=by
 obtain⟨j,cap,rfl,_⟩:=h.tor.lit;obtain⟨k,m,i⟩:=h.cells;have t:=h.free 1;have f:=h.rd.len;have a:=h_ h;clear h i;go_enter func38,ntmps38;go_wp2;go_ret;have d:Only (fun q=>q=g) w (w.setCell ⟨g,1,none⟩ (.int .i64 (l.length:Int))):=(Only.refl (fun q=>q=g) _).setCell (p:=⟨g,1,none⟩) rfl _;exact⟨rfl,_,⟨a.from_,a.tor.only d fun q b e=>a.away (by rw[b,e]),l_,a.small,a.few,block_setCell a.box _⟩,d.mono fun q b=>.inl b,Plc.refl _ _⟩
def znN(N g:Nat)(v:Value)(l:Bs)(s c:Nat)(w:World)(h:Dsk w N g v l s c) :Calls prog 40 #[.pointer (some ⟨g,0,none⟩)] w (RetB w l):=by
 have a:=h_ (zhC v l w h.rd (by have:=h.small;omega));obtain⟨m,cap,rfl,_⟩:=h.tor.lit;obtain⟨p,j,k⟩:=h.cells;clear h j k;go_enter func40,ntmps40;go_wp2_with fail;refine a.mono ?_;rintro e u⟨t,rfl,d,b⟩;have i:=h_ d;have f:=h_ b;clear d b a;go_wp2;go_ret;exact⟨_,rfl,i.o,f.o⟩
def crE(n:Nat)(k:Int)(m:Nat):Nat:=if k<0\/(n:Int)<k then 3 else if(n:Int)<k+m then 7 else 0
def crL(l:Bs)(s:Nat)(k:Int)(j:Bs):Bs:=if crE (l.length-s) k j.length=0 then l.take (s+k.toNat)++j else l
def crS(l:Bs)(s:Nat)(k:Int)(j:Bs):Nat:=if crE (l.length-s) k j.length=0 then s+k.toNat+j.length else s
def crC(l:Bs)(s:Nat)(k:Int)(j:Bs)(c:Nat):Nat:=if crE (l.length-s) k j.length=0 then c+1 else c
def zGM{w':World}{base:Nat}{g cap:Nat}{l:Bs}{a:Array Value}{x:Nat}{j:Bs}(u:x+j.length<=l.length)(b:base<=g)(p:l.length<=cap)(hm:cap<=maxLen)(t:cap<=a.size)(m:a.toList.take l.length=za7 l)(k:w'.heap[g]?=some (.cells (splice a.toList x (za7 j)).toArray 5 (0,0))):Tor w' base (.slice (some ⟨g,0,none⟩) (x+j.length) (x+j.length)) (l.take x++j):=by
 have e:(l.take x++j).length=x+j.length:=by rw[Ae,Aq];omega
 have i:a.toList.length=a.size:=Array.length_toList;refine .inr ⟨g,x+j.length,_,by rw[e],b,k,by rw[e];exact l_,by omega,?_,?_⟩
 .rw[Br,length_splice _ _ _ (by rw[za1];omega)];omega
 rw[e,zaG];have f:(za7 (l.take x)).length=x:=by rw[za1,Aq];omega
 have h:a.toList.take x=za7 (l.take x):=by
  have d:=congrArg (List.take x) m;rw[Cf,A7 (by omega)]at d;rw[d];simp[za7]
 unfold splice;rw[h,<-An];refine BR ?_;rw[Ae,f,za1]
def zyB(N g:Nat)(v:Value)(l:Bs)(s c:Nat)(k:Int)(jv:Value)(j:Bs)(w:World)(h:Dsk w N g v l s c)(T:OffB w jv j (DskQ g v))(hk:-9223372036854775808<=k/\k<=9223372036854775807)(hc:c<1000000) :Calls prog 39 #[.pointer (some ⟨g,0,none⟩),.int .i64 k,jv] w (DkO w N g v (crL l s k j) (crS l s k j) (crC l s k j c) (crE (l.length-s) k j.length)):=by
 have O:=T.1;obtain⟨aj,cj,rfl,aw,ay,az⟩:=O.shape;have aQ:=O.len;have aD:=h.rd.len;have aA:=h.safe;have ah:=h.small;have ae:=O.small;have C:=h_ h;have HJ:=h_ (fun m u=>(T.only (S:=DskQ g v) ((Only.later15 (Go.below_drewN (Ac w.heap.size w) m)).setCell (p:=⟨g,0,none⟩) (.inl rfl) u) (fun _ h=>h)).1);clear T aw ay az;unfold crL crS crC;by_cases X:k<0\/((l.length-s:Nat):Int)<k
 .have y:crE (l.length-s) k j.length=3:=Ab X;rw[y,Aa (by decide),Aa (by decide),Aa (by decide)];obtain⟨ao,cap,rfl,_⟩:=h.tor.lit;obtain⟨c0,c1,Z⟩:=h.cells;have f:∀m,DkO w N g (.slice ao l.length cap) l s c 3 (.returned (.int .i64 3)) (w.drewN m):=fun m=>
   have A:=Go.below_drewN (Ac w.heap.size w) m
   ⟨rfl,_,C.later A,Only.later15 A,Plc.refl _ _⟩
  have t:=h_ f;clear h O y Z f;go_enter func39,ntmps39;go_wp2;go_quiet (fail);by_cases aS:k<0
  .go_wp2;go_ret;exact t.o _
  have aT:(l.length:Int)-(s:Int)<k:=by omega
  go_wp2;go_ret;exact t.o _
 obtain⟨a,rfl⟩:∃a:Nat,k=(a:Int):=⟨k.toNat,by omega⟩;have aU:s+a<=l.length:=by omega
 by_cases h2:((l.length-s:Nat):Int)<(a:Int)+(j.length:Int)
 .have y:crE (l.length-s) (a:Int) j.length=7:=by unfold crE;rw[Aa X,Ab h2]
  rw[y,Aa (by decide),Aa (by decide),Aa (by decide)];obtain⟨ao,cap,rfl,_⟩:=h.tor.lit;obtain⟨c0,c1,Z⟩:=h.cells;have f:∀m,DkO w N g (.slice ao l.length cap) l s c 7 (.returned (.int .i64 7)) (w.drewN m):=fun m=>
   have A:=Go.below_drewN (Ac w.heap.size w) m
   ⟨rfl,_,C.later A,Only.later15 A,Plc.refl _ _⟩
  have t:=h_ f;clear h O y Z f X;go_enter func39,ntmps39;go_wp2;go_quiet (fail);go_wp2;go_ret;exact t.o _
 have y:crE (l.length-s) (a:Int) j.length=0:=by unfold crE;rw[Aa X,Aa h2]
 rw[y,Ab rfl,Ab rfl,Ab rfl,Aw];have x:s+a+j.length<=l.length:=by omega
 obtain⟨c0,c1,Z⟩:=h.cells;have f0:=h.free 0;have f1:=h.free 1;have f2:=h.free 2;have av:(c:Int)+1<=1000000:=by omega
 have hT:=C.tor;rcases hT with⟨rfl,rfl⟩|⟨b,cap,aa,rfl,D,A,G,H,E,i⟩
 .simp only[Bh]at x;obtain rfl:j=[]:=AR (by omega);obtain rfl:s=0:=by omega
  obtain rfl:a=0:=by omega
  have aB:∀u,(Instr.slice 34 (.slice none 0 0) none (some (.int .i64 0)) (some (.int .i64 0))).run prog u=.ok (.slice none 0 0) u:=fun u=>by
   have:=run_slice_hm (P:=prog) u 34 none 0 0 underlying34 .i64 .i64 0 0 (by omega) (by omega) (by omega);rw[this];simp[go_sem,Result.andThen,sliced]
  have V:∀u,(Instr.slice 34 (.slice none 0 0) (some (.int .i64 0)) none none).run prog u=.ok (.slice none 0 0) u:=fun u=>by
   have:=run_slice_l (P:=prog) u 34 none 0 0 underlying34 .i64 0 (by omega) (by omega);rw[this];simp[go_sem,Result.andThen,sliced]
  have f:∀m,DkO w N g (.slice none 0 0) (List.take 0 []++[]) 0 (c+1) 0 (.returned (.int .i64 0)) ((((w.drewN m).setCell ⟨g,0,none⟩ (.slice none 0 0)).setCell ⟨g,1,none⟩ (.int .i64 0)).setCell ⟨g,2,none⟩ (.int .i64 ((c:Int)+1))):=fun m=>by
   have hO:Only (fun q=>q=g) w ((((w.drewN m).setCell ⟨g,0,none⟩ (.slice none 0 0)).setCell ⟨g,1,none⟩ (.int .i64 0)).setCell ⟨g,2,none⟩ (.int .i64 ((c:Int)+1))) :=
    (((Only.later15 (S:=fun q=>q=g) (Go.below_drewN (Ac w.heap.size w) m)).setCell (p:=⟨g,0,none⟩) rfl _).setCell (p:=⟨g,1,none⟩) rfl _).setCell (p:=⟨g,2,none⟩) rfl _
   exact⟨rfl,_,⟨C.from_,.inl ⟨rfl,rfl⟩,Bg _,Bg _,hc,block_setCell (block_setCell (block_setCell (w:=w.drewN m) C.box _) _) _⟩,hO.mono fun q U=>.inl U,Plc.refl _ _⟩
  have t:=h_ f;clear h O y X h2 f;simp only[Bh]at *;go_enter func39,ntmps39;go_wp2;go_quiet (fail);obtain⟨m,hm⟩:=nm_ ((2:Nat));go_wp2_with (with_reducible refine wpList_copy_nothing rfl _ _ 34 34 rfl 5 underlying34 zk4 none aj 0 0 0 cj ?hd ?hs (by simp) ?_)
  case hd=>rfl
  case hs=>rfl
  go_wp2;go_ret;exact t.o _
 obtain⟨dp,V,ad,_⟩:=zmU (some ⟨b,0,none⟩) (s+a+j.length) (s+a+j.length) (s+a) (by omega) l_;have aB:∀u,(Instr.slice 34 (.slice (some ⟨b,0,none⟩) l.length cap) none (some (.int .i64 ((s:Int)+(a:Int)+(j.length:Int)))) (some (.int .i64 ((s:Int)+(a:Int)+(j.length:Int))))).run prog u=.ok (.slice (some ⟨b,0,none⟩) (s+a+j.length) (s+a+j.length)) u:=fun u=>by
  rw[run_slice_hm (P:=prog) u 34 (some ⟨b,0,none⟩) l.length cap underlying34 .i64 .i64 ((s:Int)+(a:Int)+(j.length:Int)) ((s:Int)+(a:Int)+(j.length:Int)) (by omega) (by omega) (by omega)];rw[show(((s:Int)+(a:Int)+(j.length:Int))).toNat=s+a+j.length from by omega];simp[go_sem,Result.andThen,sliced]
 rw[show((s+a:Nat):Int)=(s:Int)+(a:Int)from by omega]at V;rw[show s+a+j.length-(s+a)=j.length from by omega]at V;have d1:decide ((a:Int)>(l.length:Int)-(s:Int))=false:=Af (by omega);have d2:decide ((j.length:Int)>(l.length:Int)-(s:Int)-(a:Int))=false:=Af (by omega);have HE:=h_ y;have al:=h_ (show 0<j.length->dp=some ⟨b,s+a,none⟩from fun hp=>by have:=ad b 0 rfl (by omega);rwa[A5]at this);have J:=h_ (Al D (Al A (Al G (Al H (Al E i)))));have ak:=h_ hc;have L:b≠g:=fun e=>C.away (by rw[e];rfl);have Y:=h_ L;have ai:=h_ (fun m u=>show((w.drewN m).setCell ⟨g,0,none⟩ u).heap[b]?=some (.cells aa 5 (0,0))from(AF _ _ _ _ L).trans A);have am:=h_ x;clear h O y X h2 ad D A G H E i hk hc ae av L;go_enter func39,ntmps39;go_wp2;go_quiet (fail);go_wp2_with (with_reducible refine zyW dp j.length j.length ?hd _ j ?hs (HJ.o _ _) l_ b (s+a) aa (ai.o _ _) al.o ?hf ?_)
 case hd=>rfl
 case hs=>rfl
 case hf=>have:=J.2.2.2.2.1;have:=J.2.2.1;have:=am.o;omega
 intro I ax M;have an:=h_ M;have d:I.heap[g]?=some (.cells #[.slice (some ⟨b,0,none⟩) (s+a+j.length) (s+a+j.length),.int .i64 (s:Int),.int .i64 (c:Int)] 115 (0,0)) :=
  (M.block g (by simp[World.setCell];exact C.lt) (fun e=>Y.o (by injection e with e;exact e.symm))).trans (block_setCell (w:=w.drewN nq) C.box _)
 have d1:I.cell? ⟨g,1,none⟩=some (.int .i64 (s:Int)):=by rw[Ag _ _ _ _ _ _ d];rfl
 have d2:I.cell? ⟨g,2,none⟩=some (.int .i64 (c:Int)):=by rw[Ag _ _ _ _ _ _ d];rfl
 have g1:I.frozen? ⟨g,1,none⟩=false:=At _ _ _ _ _ d;have g2:I.frozen? ⟨g,2,none⟩=false:=At _ _ _ _ _ d;have HX:=h_ d;clear M d c0 c1 Z f0 f1 f2;have hc:=ak.o;go_wp2;go_ret;obtain⟨D,A,G,H,E,i⟩:=J.o;have au:Only (DskQ g (.slice (some ⟨b,0,none⟩) l.length cap)) w I:=((Only.later15 (Go.below_drewN (Ac w.heap.size w) nq)).setCell (p:=⟨g,0,none⟩) (.inl rfl) _).trans (Only.by15 an.o fun q U=>.inr U);have ab:Only (fun q=>q=g) I ((I.setCell ⟨g,1,none⟩ (.int .i64 ((s:Int)+(a:Int)+(j.length:Int)))).setCell ⟨g,2,none⟩ (.int .i64 ((c:Int)+1))) :=
  ((Only.refl (fun q=>q=g) _).setCell (p:=⟨g,1,none⟩) rfl _).setCell (p:=⟨g,2,none⟩) rfl _
 have af:(l.take (s+a)++j).length=s+a+j.length:=by rw[Ae,Aq];omega
 refine⟨rfl,.slice (some ⟨b,0,none⟩) (s+a+j.length) (s+a+j.length),⟨C.from_,zGM x D G H E i (ab.keep ax.o fun e=>Y.o e),by rw[af];exact l_,by rw[af];omega,hc,?_⟩,au.trans (ab.mono fun q U=>.inl U),fun q U=>.inl U⟩;have:=block_setCell (k:=2) (block_setCell (k:=1) HX.o (.int .i64 ((s:Int)+(a:Int)+(j.length:Int)))) (.int .i64 ((c:Int)+1));refine this.trans ?_;rfl
end Go.Proofs.YtgboedffaangeaaGreatDoor
/- -/
namespace Go.Proofs.YtgboedffaangeaaGreatDoor.OrdZ
open _root_.Go.Proofs.Tryz
open Go.RowKit OrdR
def deps(md:Region.Mode)(ops:Array Oper)(j:Nat):List Nat:=match ops[j]? with
 | none=>[]
 | some o=>(o.after.toList.filter (Region.binds md)).map (·.on)
def clos(md:Region.Mode)(ops:Array Oper):Nat->List Nat->List Nat
 | 0,l=>l
 | n+1,l=>clos md ops n (l++(l.map (deps md ops)).flatten).eraseDups
def zIW(md:Region.Mode)(ops:Array Oper)(z n:Nat):Bool:=(List.range ops.size).all fun i=>i==z||(clos md ops n (deps md ops z)).contains i
section
variable{R:World->World->Prop}{P:Program}{ops:Array Oper}{Q:Exit->Act->World->Prop}{md:Region.Mode}{z:Nat}
def Closed(md:Region.Mode)(ops:Array Oper)(listed:Array Bool):Prop:=∀j,listed.getD j false=true->∀d∈deps md ops j,listed.getD d false=true
def Closed.all{a:Array Bool}(h:Closed md ops a):∀(n:Nat)(l:List Nat),(∀x∈l,a.getD x false=true)->∀x∈clos md ops n l,a.getD x false=true
 | 0,l,hl=>hl
 | n+1,l,hl=>h.all n _ fun x b=>by
  rw[List.mem_eraseDups]at b;rcases AD.1 b with b|b
  .exact hl x b
  .obtain⟨m,hm,b⟩:=Cg.1 b
   obtain⟨y,d,rfl⟩:=Au.1 hm;exact h y (hl y d) x b
def zvU{a:Array Bool}{d:Nat}(f:a.getD d true=false)(e:a.getD d false=true):False:=by
 rw[Cj]at f e;cases h:a[d]? with
 | none=>rw[h]at e;cases e
 | some b=>rw[h]at f e;simp at f e;rw[f]at e;cases e
def zhN{a:Array Bool}{j:Nat}(t:j∈Region.ready md ops a):a.getD j true=false/\j<ops.size/\∀d∈deps md ops j,a.getD d false=true:=by
 obtain⟨i,u,h,b⟩:=mem_ready.1 t;refine⟨i,(Aj.1 h).1,fun d f=>?_⟩;unfold deps at f;rw[h]at f;obtain⟨e,p,rfl⟩:=Au.1 f;obtain⟨k,m⟩:=List.mem_filter.1 p;exact b e (by simpa using k) m
def getD_set_ne'{a:Array Bool}{j k:Nat}(h:j≠k):(a.setIfInBounds j true).getD k false=a.getD k false:=by
 rw[Cj,Cj,Array.getElem?_setIfInBounds_ne h]
def Closed.set{a:Array Bool}(h:Closed md ops a){j:Nat}(p:j∈Region.ready md ops a):Closed md ops (a.setIfInBounds j true):=by
 obtain⟨m,_,f⟩:=zhN p;have key:∀d,a.getD d false=true->(a.setIfInBounds j true).getD d false=true:=fun d f=>by
  by_cases e:j=d
  .subst e;exact(zvU m f).elim
  rw[getD_set_ne' e];exact f
 intro k i d b;by_cases e:j=k
 .subst e;exact key d (f d b)
 rw[getD_set_ne' e]at i;exact key d (h k i d b)
def zHB{n:Nat}(e:zIW md ops z n=true){a:Array Bool}(f:Closed md ops a)(m:z∈Region.ready md ops a){i:Nat}(j:i∈Region.ready md ops a):i=z:=by
 obtain⟨d,k,_⟩:=zhN j;obtain⟨_,_,h⟩:=zhN m;have b:=CV.1 e i (B3.2 k);simp only[Bool.or_eq_true,beq_iff_eq,List.contains_iff_mem]at b;rcases b with b|b
 .exact b
 exact(zvU d (f.all n _ h i b)).elim
def wp_region_ord(A:OrdR.Way R){id:Nat}{l:List Oper}{a:Act}{w:World}(b:List (Nat×Bool))(z n:Nat)(m:zIW .any l.toArray z n=true)(hm:P.follows .mixedOrders=true)(f:b.length=l.length)(G:Region.noSelect l.toArray=true)(x:ordB .any l.toArray b (Array.replicate l.toArray.size false)=true)(y:∀c a w d v,Q (.panic c) (Act.put a d v) w->Q (.panic c) a w)(h:zdI R (some z) P l.toArray Q b a w.drew):(Code.region id l.toArray true).wp P Q a w :=
 zi9 (C:=Closed .any l.toArray) A b ⟨fun _ _ p t=>p.set t,fun _ i k p D E e=>by injection e with e;subst e;exact zHB m p E D⟩ (fun j u=>by
  rw[Cj]at u;by_cases t:j<l.length<;>simp[t]at u) hm f G x y h
end
end Go.Proofs.YtgboedffaangeaaGreatDoor.OrdZ
/- -/
namespace Go.Proofs.YtgboedffaangeaaGreatDoor
open _root_.Go.Proofs.Tryz
open Go.RowKit
def zt9(S:Nat->Prop):OrdR.Way (Only S):=⟨fun w=>Only.refl S w,fun _ _ _ h k=>h.trans k⟩
instance gw15(S:Nat->Prop)(w:World):Nonempty (OrdR.GW (Only S) w):=⟨⟨w,Only.refl S w⟩⟩
def zu2{w m w4:World}{N g n d:Nat}{s r f e:Bs}{Q:Nat->Prop}{i rv:Value}(h:Mdk w N g s r n Q)(C:∀j,Q j->j<w.heap.size)(a:Only (fun j=>w.heap.size<=j) w m)(b:Only (fun j=>j=g) m w4)(t:w4.heap[g]?=some (.cells #[i,rv,.int .i64 (d:Int)] 48 (0,0)))(A:OffB w4 i f (fun q=>q=g\/Q q))(y:OffB w4 rv e (fun q=>q=g\/Q q))(u:f.length+e.length<=100000000)(x:d<=1000000) :Mdk w4 N g f e d Q/\Only (fun j=>j=g) w w4:=by
 refine⟨⟨h.from_,h.away,u,x,i,rv,t,A,y⟩,⟨b.os.trans a.os,b.tape.trans a.tape,b.output.trans a.output,Ar a.size b.size,fun j k p=>(b.block j (AE k a.size) p).trans (a.block j k (by omega))⟩⟩
def zn0(N g:Nat)(s r:Bs)(n:Nat)(Q:Nat->Prop)(w:World)(h:Mdk w N g s r n Q)(M:∀j,Q j->j<w.heap.size) :Calls prog 13 #[.pointer (some ⟨g,0,none⟩)] w fun e w'=>e=.returned (.tuple #[])/\Mdk w' N g (s++r) [] n Q/\Only (fun j=>j=g) w w':=by
 have k:=h_ h;obtain⟨sv,rv,O,J,I⟩:=h.box;obtain⟨sa,sc,rfl,_⟩:=J.1.shape;obtain⟨Z,rc,rfl,_⟩:=I.1.shape;have D:Only (fun j=>w.heap.size<=j) w (w.drew.alloc (.cells #[] 5)):=(Only.refl _ _).drew.alloc _;have t:=h.lt;have V:=h_ (fun b(u:Only (fun j=>w.heap.size<=j) w b)=>(J.keep (w':=b) fun j a _=>u.block j a (by omega)).1);have U:=h_ (fun b(u:Only (fun j=>w.heap.size<=j) w b)=>(I.keep (w':=b) fun j a _=>u.block j a (by omega)).1);have L:=h_ (fun b(u:Only (fun j=>w.heap.size<=j) w b)=>(u.block g t (by omega)).trans O);have A:=h_ (fun b(u:Only (fun j=>w.heap.size<=j) w b)=>show b.cell? ⟨g,0,none⟩=some (.slice sa s.length sc)/\b.cell? ⟨g,1,none⟩=some (.slice Z r.length rc)/\b.frozen? ⟨g,0,none⟩=false/\b.frozen? ⟨g,1,none⟩=false from by
  have:=L.o b u;refine⟨?_,?_,At _ _ _ _ _ this,At _ _ _ _ _ this⟩<;>rw[Ag _ _ _ _ _ _ this]<;>rfl)
 have L0:=fun x:OrdR.GW (Only (fun j=>w.heap.size<=j)) w.drew=>(A.o x.val ((Only.refl _ w).drew.trans x.grew)).1;have L1:=fun x:OrdR.GW (Only (fun j=>w.heap.size<=j)) w.drew=>(A.o x.val ((Only.refl _ w).drew.trans x.grew)).2.1;have T:=h_ (show Own (w.drew.alloc (.cells #[] 5)) w.heap.size (.slice (some ⟨w.heap.size,0,none⟩) 0 0) []from own_empty w.drew w.heap.size l_);have H:=h_ (V.o _ D);clear h O J I t;go_enter func13,ntmps13;go_wp2_with fail;refine OrdZ.wp_region_ord (R:=Only (fun j=>w.heap.size<=j)) (zt9 _) [(0,false),(2,false),(3,false),(4,false),(5,false),(7,false),(8,false),(9,false),(10,false),(1,true),(6,true),(11,true),(12,false),(13,false),(14,true)] 14 20 (by kernel_rfl) (by kernel_rfl) rfl (by kernel_rfl) (by kernel_rfl) (fun _ _ _ d _ h=>by cases d<;>exact h) ?_;iterate 9 (refine Ak rfl rfl (by kernel_rfl) (fun K hK=>?_);go_big_quiet_op;refine hK _ ?_;clear hK K)
 refine Ax rfl (by kernel_rfl) (fun K hK=>?_);go_big_op;refine hK _ _ (Only.later15 ((Ac _ _).alloc l_ _)) ?_;clear hK K;refine Ax rfl (by kernel_rfl) (fun K hK=>?_);refine zbW w.heap.size _ [] rfl T.o _ s rfl H.o ?hn1 ?hb1 (fun v2 w2 a i=>hK _ _ i ?_)
 case hn1=>have:=k.small;simp;omega
 case hb1=>simp
 rw[AA]at a;obtain⟨a2,n2,rfl,_⟩:=a.tor.lit;have E:=h_ a;have m:=h_ (D.trans i);simp only[Act.put,A8,Bw,Bc];clear a i;clear hK K;refine Ax rfl (by kernel_rfl) (fun K hK=>?_);refine zbW w.heap.size _ s rfl E.o _ r rfl (U.o _ m.o) ?hn2 ?hb2 (fun v3 y a i=>hK _ _ i ?_)
 case hn2=>have:=k.small;omega
 case hb2=>exact m.size
 obtain⟨X,Y,rfl,_⟩:=a.tor.lit;rw[Ae]at a;have G:=h_ a;have f:=h_ (m.trans i);simp only[Act.put,A8,Bw,Bc];have e0:=(A.o y f.o).1;have e1:=(A.o y f.o).2.1;have f0:=(A.o y f.o).2.2.1;have f1:=(A.o y f.o).2.2.2;clear a i;clear hK K;iterate 2 (refine Ak rfl rfl (by kernel_rfl) (fun K hK=>?_);go_big_quiet_op;refine hK _ ?_;clear hK K)
 refine OrdR.ord_last rfl (by kernel_rfl) (fun K hK=>?_);go_big_op;refine hK _ _ ?_;clear hK K;go_wp2;go_end0;have C:Only (fun j=>j=g) y ((y.setCell ⟨g,0,none⟩ (.slice X (s.length+r.length) Y)).setCell ⟨g,1,none⟩ (.slice none 0 0)):=((Only.refl (fun j=>j=g) _).setCell (p:=⟨g,0,none⟩) rfl _).setCell (p:=⟨g,1,none⟩) rfl _;have t:=k.lt;refine⟨rfl,zu2 k.o M f.o C (block_setCell (block_setCell (L.o y f.o) _) _) ?_ (OffB.nil _ _) (by rw[Ae];have:=k.small;simp;omega) k.few⟩;refine(G.off (by rw[Ae];have:=k.small;omega) fun j a i=>?_).only C fun j h=>.inl h;rcases i with i|i
 .omega
 have:=M j i;omega
def zg4(N g:Nat)(s r:Bs)(n:Nat)(Q:Nat->Prop)(w:World)(h:Mdk w N g s r n Q) :Calls prog 18 #[.pointer (some ⟨g,0,none⟩)] w (RetB w (s++r)):=by
 have E:=h_ h;obtain⟨sv,rv,G,C,A⟩:=h.box;obtain⟨T,U,rfl,_⟩:=C.1.shape;obtain⟨M,O,rfl,_⟩:=A.1.shape;have k:Only (fun j=>w.heap.size<=j) w (w.drew.alloc (.cells #[] 5)):=(Only.refl _ _).drew.alloc _;have m:=h.lt;have L:=h_ (fun b(i:Only (fun j=>w.heap.size<=j) w b)=>(C.keep (w':=b) fun j a _=>i.block j a (by omega)).1);have J:=h_ (fun b(i:Only (fun j=>w.heap.size<=j) w b)=>(A.keep (w':=b) fun j a _=>i.block j a (by omega)).1);have H:=h_ (fun b(i:Only (fun j=>w.heap.size<=j) w b)=>(i.block g m (by omega)).trans G);have D:=h_ (fun b(i:Only (fun j=>w.heap.size<=j) w b)=>show b.cell? ⟨g,0,none⟩=some (.slice T s.length U)/\b.cell? ⟨g,1,none⟩=some (.slice M r.length O)from by
  have:=H.o b i;refine⟨?_,?_⟩<;>rw[Ag _ _ _ _ _ _ this]<;>rfl)
 have V:=fun x:OrdR.GW (Only (fun j=>w.heap.size<=j)) w.drew=>(D.o x.val ((Only.refl _ w).drew.trans x.grew)).1;have X:=fun x:OrdR.GW (Only (fun j=>w.heap.size<=j)) w.drew=>(D.o x.val ((Only.refl _ w).drew.trans x.grew)).2;have I:=h_ (show Own (w.drew.alloc (.cells #[] 5)) w.heap.size (.slice (some ⟨w.heap.size,0,none⟩) 0 0) []from own_empty w.drew w.heap.size l_);have y:=h_ (L.o _ k);clear h G C A m;go_enter func18,ntmps18;go_wp2_with fail;refine AY (R:=Only (fun j=>w.heap.size<=j)) (zt9 _) [(1,false),(2,false),(3,false),(4,false),(6,false),(7,false),(8,false),(9,false),(0,true),(5,true),(10,true),(11,false)] (by kernel_rfl) rfl (by kernel_rfl) (by kernel_rfl) (fun _ _ _ d _ h=>by cases d<;>exact h) ?_;iterate 8 (refine Ak rfl rfl (by kernel_rfl) (fun K hK=>?_);go_big_quiet_op;refine hK _ ?_;clear hK K)
 refine Ax rfl (by kernel_rfl) (fun K hK=>?_);go_big_op;refine hK _ _ (Only.later15 ((Ac _ _).alloc l_ _)) ?_;clear hK K;refine Ax rfl (by kernel_rfl) (fun K hK=>?_);refine zbW w.heap.size _ [] rfl I.o _ s rfl y.o ?hn1 ?hb1 (fun v2 w2 a f=>hK _ _ f ?_)
 case hn1=>have:=E.small;simp;omega
 case hb1=>simp
 rw[AA]at a;obtain⟨Y,n2,rfl,_⟩:=a.tor.lit;have p:=h_ a;have e:=h_ (k.trans f);simp only[Act.put,A8,Bw,Bc];clear a f;clear hK K;refine Ax rfl (by kernel_rfl) (fun K hK=>?_);refine zbW w.heap.size _ s rfl p.o _ r rfl (J.o _ e.o) ?hn2 ?hb2 (fun v3 w3 a f=>hK _ _ f ?_)
 case hn2=>have:=E.small;omega
 case hb2=>exact e.size
 obtain⟨Z,n3,rfl,_⟩:=a.tor.lit;rw[Ae]at a ⊢;have t:=h_ a;have u:=h_ (e.trans f);simp only[Act.put,A8,Bw,Bc];clear a f;clear hK K;refine Ak rfl rfl (by kernel_rfl) (fun K hK=>?_);go_big_quiet_op;refine hK _ ?_;clear hK K;refine Bk ?_;go_wp2;go_ret;exact⟨_,rfl,t.o,u.toBelow (fun j h=>h) l_⟩
def CrM(w:World)(N g:Nat)(s r:Bs)(n:Nat)(Q:Nat->Prop)(k:Int)(j:Bs)(e:Ending)(w':World):Prop :=
 e=.returned (.int .i64 (crE r.length k j.length:Nat))/\Only (fun j=>j=g) w w' /\
  ((crE r.length k j.length≠0/\Mdk w' N g s r n Q)\/(crE r.length k j.length=0/\Mdk w' N g (s++(r.take k.toNat++j)) [] (n+1) Q))
def ztP(N g:Nat)(s r:Bs)(n:Nat)(Q:Nat->Prop)(k:Int)(jv:Value)(j:Bs)(w:World)(h:Mdk w N g s r n Q)(hQ:∀j,Q j->j<w.heap.size)(D:Rd w jv j)(hk:-9223372036854775808<=k/\k<=9223372036854775807)(hn:n<1000000) :Calls prog 43 #[.pointer (some ⟨g,0,none⟩),.int .i64 k,jv] w (CrM w N g s r n Q k j):=by
 have HM:=h_ h;have HJ:=h_ D;have aY:=h.small;have aK:=D.small;obtain⟨aj,cj,rfl,_⟩:=D.shape;have aA:=D.len;obtain⟨sv,rv,T,hs,t⟩:=h.box;have c0:w.cell? ⟨g,0,none⟩=some sv:=by rw[Ag _ _ _ _ _ _ T];rfl
 have c1:w.cell? ⟨g,1,none⟩=some rv:=by rw[Ag _ _ _ _ _ _ T];rfl
 have f1:w.frozen? ⟨g,1,none⟩=false:=At _ _ _ _ _ T;obtain⟨sa,sc,rfl,_⟩:=hs.1.shape;have aD:=t.1.len;have HB:=h_ T;have HS:=h_ hs;have HR:=h_ t;by_cases M:k<0\/((r.length:Nat):Int)<k
 .have m:crE r.length k j.length=3:=Ab M;have u:=h_ (show CrM w N g s r n Q k j (.returned (.int .i64 3)) w from⟨by rw[m];rfl,Only.refl _ _,.inl ⟨by rw[m];decide,h⟩⟩);obtain⟨ra,rc,rfl,_⟩:=t.1.shape;clear h D T hs t c0 f1 m;go_enter func43,ntmps43;by_cases ac:k<0
  .have d0:decide (k<0)=true:=Ah ac;go_wp2;go_ret;exact u.o
  have aW:(r.length:Int)<k:=by omega
  have d0:decide (k<0)=false:=Af ac;go_wp2;go_ret;exact u.o
 obtain⟨b,rfl⟩:∃b:Nat,k=(b:Int):=⟨k.toNat,by omega⟩;have aB:b<=r.length:=by omega
 by_cases x:((r.length:Nat):Int)<(b:Int)+(j.length:Int)
 .have m:crE r.length (b:Int) j.length=7:=by unfold crE;rw[Aa M,Ab x]
  have u:=h_ (show CrM w N g s r n Q b j (.returned (.int .i64 7)) w from⟨by rw[m];rfl,Only.refl _ _,.inl ⟨by rw[m];decide,h⟩⟩);obtain⟨ra,rc,rfl,_⟩:=t.1.shape;clear h D T hs t c0 f1 m M;go_enter func43,ntmps43;go_wp2;go_ret;exact u.o
 have m:crE r.length (b:Int) j.length=0:=by unfold crE;rw[Aa M,Aa x]
 obtain⟨pv,ah,ae⟩:=t.1.upto b aB;have G:=ae w t.1;obtain⟨ra,rc,rfl,_⟩:=t.1.shape;obtain⟨pa,pc,aC,_⟩:=G.shape;subst aC;have V:(r.take b).length=b:=by rw[Aq];omega
 obtain⟨tk,X⟩:=nm_ (r.take b);rw[<-X]at V G ah;have HE:=h_ m;have av:=h_ X;have H:=h_ (show Lz w (w.alloc (.cells #[] 5))from(Ac w.heap.size w).alloc l_ _);have Z:=h_ (own_empty w w.heap.size l_);have HP:=h_ (G.later H.o l_);have ab:=h.lt;have ax:∀o,(w.alloc o).cell? ⟨g,1,none⟩=some (.slice ra r.length rc):=fun o=>(((Ac w.heap.size w).alloc l_ o).cell (p:=⟨g,1,none⟩) ab).trans c1;have aX:(j.length:Int)<=(r.length:Int)-(b:Int):=by omega
 have L:=h_ V;clear h D T hs t c0 m M x ae G X V;go_enter func43,ntmps43;go_wp2_with (with_reducible refine wpl_append w.heap.size _ [] ?hs Z.o _ tk ?hx HP.o ?hn ?hbase w.heap.size w H.o l_ ?_)
 case hs=>rfl
 case hx=>rfl
 case hn=>have:=L.o;simp;omega
 case hbase=>simp
 intro v2 w2 E U _;rw[AA]at E;obtain⟨a2,n2,rfl,_⟩:=E.tor.lit;have aa:=h_ E;have I:=h_ U;have Y:=h_ (HJ.later U l_);clear E U;go_wp2_with (with_reducible refine wpl_append w.heap.size _ tk ?hs2 aa.o _ j ?hx2 Y.o ?hn2 ?hbase2 w.heap.size w I.o l_ ?_)
 case hs2=>rfl
 case hx2=>rfl
 case hn2=>have:=L.o;omega
 case hbase2=>exact I.size
 intro v3 w3 f d _;obtain⟨a3,n3,rfl,_⟩:=f.tor.lit;rw[Ae]at f;have aQ:=h_ f;have aN:=h_ d;have a:=(d.block g ab).trans HB.o;have d1:w3.cell? ⟨g,1,none⟩=some (.slice ra r.length rc):=by rw[Ag _ _ _ _ _ _ a];rfl
 have g1:w3.frozen? ⟨g,1,none⟩=false:=At _ _ _ _ _ a;have i:s.length+(tk++j).length<=100000000:=by rw[Ae];have:=L.o;omega
 have A:Only (fun j=>j=g) w3 (w3.setCell ⟨g,1,none⟩ (.slice a3 (tk.length+j.length) n3)):=(Only.refl (fun j=>j=g) _).setCell (p:=⟨g,1,none⟩) rfl _;have y:=zu2 HM.o hQ (Only.later15 d) A (block_setCell a _) ((HS.later d).only A fun j h=>.inl h) ((f.off (by rw[Ae]at i ⊢;omega) fun j M x=>by
  rcases x with x|x
  .omega
  .have:=hQ j x;omega).only A fun j h=>.inl h) i HM.few
 have SY:=h_ (zn0 N g s (tk++j) n Q _ y.1 (fun j D=>by have M:=hQ j D;have x:=y.2.size;omega));have ap:=h_ y;clear f d a A y i c1 ax aD aA f1 ah aa I Y HP H Z;go_wp2_with fail;refine SY.mono ?_;rintro e w5⟨rfl,hm,ad⟩;obtain⟨aF,aE,C,ag,af⟩:=hm.box;have e2:w5.cell? ⟨g,2,none⟩=some (.int .i64 (n:Int)):=by rw[Ag _ _ _ _ _ _ C];rfl
 have g2:w5.frozen? ⟨g,2,none⟩=false:=At _ _ _ _ _ C;have ao:=h_ C;have J:=h_ hm;have aq:=h_ ad;have au:=h_ ag;have ar:=h_ af;clear hm ad C ag af SY d1 g1;go_wp2;go_ret;have O:Only (fun j=>j=g) w5 (w5.setCell ⟨g,2,none⟩ (.int .i64 ((n:Int)+1))):=(Only.refl (fun j=>j=g) _).setCell (p:=⟨g,2,none⟩) rfl _;rw[CrM,HE.o,Aw,<-av.o];exact⟨rfl,(ap.2.trans aq.o).trans O,.inr ⟨rfl,J.from_,J.away,J.small,hn,aF,aE,block_setCell ao.o _,au.only O fun j h=>.inl h,ar.only O fun j h=>.inl h⟩⟩
end Go.Proofs.YtgboedffaangeaaGreatDoor
namespace Go.Proofs.YtgboedffaangeaaGreatDoor
open Go.RowKit
section
open _root_.Go.Proofs.Tryz Go.Shelf
variable {l:Bs} {k m:Nat} {S:Nat->Prop} {v:Value} {a b c w w':World}
def Only.fresh(h:Only S a b)(k:b.grownBy c (some m))(hm:a.heap.size<=m):Only S a c :=
 ⟨k.os.trans h.os,k.tape.trans h.tape,k.output.trans h.output,Ar h.size k.size,fun j d f=>(k.block j (AE d h.size) (fun e=>by injection e;omega)).trans (h.block j d f)⟩
def Only.far{r:Option Nat}(h:Only S a b)(k:b.grownBy c r)(hm:∀q,r=some q->a.heap.size<=q):Only S a c :=
 ⟨k.os.trans h.os,k.tape.trans h.tape,k.output.trans h.output,Ar h.size k.size,fun j d f=>(k.block j (AE d h.size) (fun e=>by have:=hm j e.symm;omega)).trans (h.block j d f)⟩
def Rdr.fresh {g:Nat}(h:Rdr w g v l k)(a:w.grownBy w' (some m))(hm:m≠g)(c:∀i,i<l.length->(adr v i).block≠m):Rdr w' g v l k :=
 h.same (a.block g h.lt (by simpa using hm.symm)) (fun i b=>a.block _ (h.rd.block b) (by simpa using c i b))
def zAT{most:Int}(b:k<=l.length)(h:(rdB l k most).2.2=0):(rdB l k most).1.length<=l.length/\(rdB l k most).2.1<=l.length/\k<=(rdB l k most).2.1:=by
 have a:=zl2 (l.drop k) most;unfold rdB at h ⊢;split at h
 .rename_i h1;exact absurd h h1
 rename_i h1;rw[Aa h1];dsimp only;refine⟨?_,?_,by omega⟩
 .have:(getB (l.drop k) most).1.length<=(l.drop k).length:=by
   unfold getB;split
   ·simp
   split
   ·simp
   split
   ·simp
   simp;omega
  simp at this;omega
 have:=a.1;simp at this;omega
def Took(w:World)(g:Nat)(v:Value)(l:Bs)(e:Ending)(w':World):Prop :=
 Only (fun j=>j=g) w w'/\∃k x,(x=0/\∃tv cs,e=.returned tv/\OwnC w' w.heap.size tv cs/\CS cs/\cs.length<=8/\rdTake l=(colsL cs,k,0)/\Rdr w' g v l k) \/
  (x≠0/\e=.panicked [{ v:=zaU g x,recovered:=false}]/\rdTake l=([],k,x)/\zj7 w' g v l k x)
def ztE(g:Nat)(v:Value)(l:Bs)(w:World)(hR:Rdr w g v l 0)(hT:Tabs w)(hg:zcN<=g) :Calls prog 212 #[.pointer (some ⟨g,0,none⟩)] w (Took w g v l):=by
 have bL:=hR.lt;have bW:=hR.rd.small;have HV:=h_ (fun i(hi:i<l.length)=>hR.rd.block hi);have HT:=h_ hT;have aO:Hid (∀u,Only (fun j=>j=g) w u->Tabs u):=h_ (fun u z=>zgS HT.o (fun j hj=>z.block j (by omega) (by omega)));go_enter func212,ntmps212;go_wp2_with fail;refine(zc8 g v l 0 w hR 8 (by omega)).mono ?_;intro e w1 z;by_cases hx:(rdU l 0 8).2.2=0
 .obtain⟨rfl,M,ak⟩:=z.ok hx;obtain⟨n,hn⟩:=nm_ ((rdU l 0 8).1);obtain⟨k1,V⟩:=nm_ ((rdU l 0 8).2.1);have bN:n<=8:=by
   obtain⟨_,h2,h3,_⟩:=zAH (Bg _) hx;rw[hn,h3];dsimp only;omega
  rw[<-hn,<-V]at z;rw[<-V]at ak;rw[<-hn];have Q:=h_ ((Only.refl (fun j=>j=g) w).grown M rfl);have ai:=h_ (show rdTake l=if n=0 then([],k1,4)else zaR l n [] k1 by
   unfold rdTake;rw[Aa (fun hh=>hh hx),<-hn,<-V])
  have ah:=h_ ak;clear z hx hn V M ak hR hT;by_cases Y:n=0
  .subst Y;have D:=h_ (show rdTake l=([],k1,4) by rw[ai.o,Ab rfl]);go_wp2_with fail;refine(zaC g v l k1 w1 ah.o 4 (by decide)).mono ?_;rintro e w2⟨rfl,aQ,t⟩;have S:=h_ (Q.grown aQ rfl);have H:=h_ t;clear aQ t;go_wp2;exact⟨rfl,S.o,k1,4,.inr ⟨by decide,rfl,D.o,H.o⟩⟩
  have ab:=h_ (show rdTake l=zaR l n [] k1 by rw[ai.o,Aa Y]);have bO:((n:Int)!=0)=true:=by rw[Ao];omega
  have bC:(n !=0)=true:=by simpa using Y
  have bu:0<n:=by omega
  clear Y ai;go_wp2_with fail;refine(zaD _ _ _).mono ?_;rintro e w2⟨rfl,rfl⟩;go_wp2_with fail;refine(ziF w1).mono ?_;rintro e w2⟨rfl,hW,hb⟩;have S:=h_ (Q.below hb l_);have aG:=h_ (ah.later hb l_);have HW:=h_ hW;obtain⟨m,hm⟩:=nm_ w1.heap.size;rw[<-hm]at hW HW;rw[<-hm];have bs:w.heap.size<=m:=by rw[hm];exact Q.size
  have bm:m+2<=w2.heap.size:=by have:=hW.lt;omega
  obtain⟨T,bp⟩:=nm_ w2.heap.size;have az:=h_ (OwnC.nil w2 T);have ac:T<=w2.heap.size:=by omega
  have bJ:m+2<=T:=by omega
  clear hb hW hm ah Q bp bm;go_wp2;go_loopw [5,16] (fun a i wr=>∃(k j:Nat)(cs:List ColB),j<=n/\i=.int .u64 j/\Hid (cs.length=j)/\Hid (CS cs)/\Hid (OwnC wr T a cs)/\Hid (Rdr wr g v l k)/\Hid (Were wr (m+1) m (names (colsL cs)))/\Hid (Only (fun j=>j=g) w wr)/\T<=wr.heap.size/\Hid (rdTake l=zaR l (n-j) (colsL cs) k)) (fun _ i _=>n-(intOf i).toNat)
  case atStart=>exact⟨k1,0,[],by omega,rfl,h_ rfl,h_ (fun c hc=>absurd hc (by simp)),az,aG,HW,S,ac,ab⟩
  clear az aG HW S ab ac;obtain⟨k,j,cs,hj,rfl,HL,aD,HC,HR,HW,HO,bK,HK⟩:=hrel;have br:=HR.le;by_cases aV:j<n
  .have d1:decide ((j:Int)<(n:Int))=true:=Ah (by omega);have d2:decide (j<n)=true:=Ah aV;go_wp2_with fail;refine(ziH g v l k wr HR.o 32 (by omega)).mono ?_;rintro e w3⟨val,z,C⟩;by_cases hx:(rdB l k 32).2.2=0
   .obtain⟨rfl,A,al⟩:=z.ok hx;obtain⟨bt,bv,_⟩:=zAT br hx;have C:=C hx;have O:=(C.rd (by omega)).str;have HX:=h_ hx;obtain⟨nm,ap⟩:=nm_ ((rdB l k 32).1);obtain⟨p,d⟩:=nm_ ((rdB l k 32).2.1);rw[<-d]at al bv;rw[<-ap]at O bt;have hS:RdS ⟨nm.toArray⟩ nm:=⟨rfl,by omega⟩;obtain⟨s,hs⟩:=nm_ (⟨nm.toArray⟩:ByteArray);rw[<-hs]at O hS;have aW:s.data.toList=nm:=(by rw[hs]);have aJ:=h_ aW;have HS:=h_ hS;have I:=h_ ap;have r:=h_ d;have J:=h_ (HO.grown A rfl);have bX:=HW.lt;have bi:=h_ (HW.kept A (by omega) (by omega));have aA:=h_ (HC.grown A (fun q Z=>by have:=(OwnC.lt HC.o Z).1;simp;omega));have bc:=h_ al;have bP:=A.size;clear z hx A al C ap d hs aW hS;go_wp2_with fail;refine(zk7 s nm (m+1) m _ w3 HS.o bi.o (by simp[names,za4,HL.o];omega)).mono ?_;rintro e w4⟨rfl,aP,N⟩;have bj:=h_ aP;have af:=h_ (J.fresh N bs);have aH:=h_ (bc.fresh N (by omega) (fun i hi=>by have:=HV.o i hi;omega));have aB:=h_ (aA.grown N (fun q Z=>by have:=(OwnC.lt aA.o Z).1;simp;omega));have bQ:=N.size;clear aP N O;by_cases U:fine nm (names (colsL cs))=true
    .rw[U];go_wp2_with fail;refine(zaD _ _ _).mono ?_;rintro e w5⟨rfl,rfl⟩;go_wp2_with fail;refine(zkK g v l p w4 aH.o).mono ?_;intro e w5 z;by_cases y:p<l.length
     .rw[Ab y,Ab y,Ab y]at z;obtain⟨rfl,b,aN⟩:=z.ok rfl;have E:=h_ (af.grown b rfl);have bk:=h_ (bj.kept b (by omega) (by omega));have a2:=h_ (aB.grown b (fun q Z=>by have:=(OwnC.lt aB.o Z).1;simp;omega));have bd:=h_ aN;have bR:=b.size;obtain⟨kd,X⟩:=nm_ (at8 l p);have ad:=zfB l p;have aT:=zdG l p;rw[<-X]at ad aT;rw[<-X];have ae:=h_ X;clear z b aN X;go_wp2_with fail;refine(zgU kd w5 (aO.o _ E.o)).mono ?_;rintro e w6⟨rfl,G⟩;have aF:=h_ (E.below G l_);have aK:=h_ (bk.later G l_);have a3:=h_ (a2.later G l_);have aI:=h_ (bd.later G l_);have bS:=G.size;clear G;by_cases aU:kd<=5
      .have bh:=h_ (show rdTake l=zaR l (n-(j+1)) (colsL (cs++[(s,kd)])) (p+1)from by
        rw[HK.o,show n-j=(n-(j+1))+1 from by omega,
         zkL (zjF HX.o (by rw[<-I.o];exact U) (by rw[<-r.o];exact y) (by rw[<-r.o,<-ae.o];omega)),<-I.o,<-r.o,<-ae.o]
        congr 1;unfold colsL;rw[AC,C7];unfold colL;rw[aJ.o])
       have a7:=h_ (show names (colsL (cs++[(s,kd)]))=names (colsL cs)++[nm]from by
        unfold colsL names colL;simp[aJ.o])
       have aE:=h_ (show CS (cs++[(s,kd)])from fun c hc=>by
        rcases AD.1 hc with hc|hc
        .exact aD.o c hc
        .rw[AH.1 hc]
         refine⟨?_,by dsimp only;omega,by dsimp only;omega⟩;have:=HS.small;have e:s.size=nm.length:=by rw[HS.eq];simp[ByteArray.size]
         dsimp only;omega)
       rw[show kindOk kd=true from Ah ⟨ad,aU⟩];clear U;go_wp2_with fail;refine(zaD _ _ _).mono ?_;rintro e w7⟨rfl,rfl⟩;obtain⟨N0,N1,N2⟩:=new1 w6 (.cells #[.string s,.int .i64 kd] 62);have ag:=h_ (aF.alloc (.cells #[.string s,.int .i64 kd] 62));have aj:=h_ (aK.alloc (.cells #[.string s,.int .i64 kd] 62));have aC:=h_ (a3.alloc (.cells #[.string s,.int .i64 kd] 62));have be:=h_ (aI.alloc (.cells #[.string s,.int .i64 kd] 62));have bU:w6.heap.size<=(w6.alloc (.cells #[.string s,.int .i64 kd] 62)).heap.size:=(by simp);have aq:=fun q Z=>OwnC.lt aC.o (k:=q) Z;clear N0 N1 N2;go_wp2_with (with_reducible refine zjS T _ ?hs aC.o ⟨w6.heap.size,0,none⟩ (s,kd) ?hx (zBF w6 (s,kd)) ?hn ?hbase T _ (Ac T _) l_ ?_)
       case hs=>rfl
       case hx=>rfl
       case hn=>rw[HL.o];omega
       case hbase=>omega
       intro v8 w8 aL L ao;have a9:=h_ (ag.far ao (fun q Z=>by have:=(aq q Z).1;omega));have bf:=h_ (be.same (L.block g (by omega)) (fun i hi=>L.block _ (by have:=HV.o i hi;omega)));have bl:=h_ (show Were w8 (m+1) m (names (colsL (cs++[(s,kd)])))from by
        have:=aK.o;rw[a7.o];exact⟨(L.block (m+1) (by omega)).trans aj.var,aj.set.kept ao (fun hh=>by have:=(aq m hh.symm).1;omega),aj.ne⟩)
       have a4:=h_ aL;have bV:=L.size;have bw:T<=w8.heap.size:=(by omega);have a6:=h_ (show(cs++[(s,kd)]).length=j+1 from by rw[Ae,HL.o];rfl);clear aL L ao aq;go_wp2;go_roundw
       case rel=>exact⟨p+1,j+1,cs++[(s,kd)],by omega,by go_num,a6,aE,a4,bf,bl,a9,bw,bh⟩
       simp[intOf];omega
      have D:=h_ (show rdTake l=([],p+1,10)from by
       rw[HK.o,show n-j=(n-(j+1))+1 from by omega,r.o];exact zbU (zhP HX.o (by rw[<-I.o];exact U) (by rw[<-r.o];exact y) (by rw[<-r.o,<-ae.o];omega)) (by decide))
      rw[show kindOk kd=false from Af (fun h=>aU h.2)];clear U;go_wp2_with fail;refine(zaC g v l (p+1) w6 aI.o 10 (by decide)).mono ?_;rintro e w7⟨rfl,aR,t⟩;have ag:=h_ (aF.grown aR rfl);have H:=h_ t;clear aR t;go_wp2;exact⟨rfl,ag.o,p+1,10,.inr ⟨by decide,rfl,D.o,H.o⟩⟩
     rw[Aa y,Aa y,Aa y]at z;obtain⟨rfl,b,t⟩:=z.no (by decide);have D:=h_ (show rdTake l=([],p,5)from by
      rw[HK.o,show n-j=(n-(j+1))+1 from by omega,r.o];exact zbU (zg6 HX.o (by rw[<-I.o];exact U) (by rw[<-r.o];exact y)) (by decide))
     have E:=h_ (af.grown b rfl);have H:=h_ t;clear z b t U;go_wp2;exact⟨rfl,E.o,p,5,.inr ⟨by decide,rfl,D.o,H.o⟩⟩
    have an:fine nm (names (colsL cs))=false:=by simpa using U
    have D:=h_ (show rdTake l=([],p,2)from by
     rw[HK.o,show n-j=(n-(j+1))+1 from by omega,r.o];exact zbU (zhO HX.o (by rw[<-I.o];exact an)) (by decide))
    rw[an];clear U an;go_wp2_with fail;refine(zaC g v l p w4 aH.o 2 (by decide)).mono ?_;rintro e w5⟨rfl,b,t⟩;have E:=h_ (af.grown b rfl);have H:=h_ t;clear b t;go_wp2;exact⟨rfl,E.o,p,2,.inr ⟨by decide,rfl,D.o,H.o⟩⟩
   obtain⟨rfl,A,t⟩:=z.no hx;obtain⟨x,f⟩:=nm_ ((rdB l k 32).2.2);obtain⟨p,d⟩:=nm_ ((rdB l k 32).2.1);have ar:x≠0:=by rw[f];exact hx
   have D:=h_ (show rdTake l=([],p,x)from by
    rw[HK.o,show n-j=(n-(j+1))+1 from by omega,d,f];exact zbU (zg7 hx) hx)
   rw[<-d,<-f]at t;have J:=h_ (HO.grown A rfl);have H:=h_ t;rw[<-f];clear z hx A t f d C;go_wp2;exact⟨rfl,J.o,p,x,.inr ⟨ar,rfl,D.o,H.o⟩⟩
  obtain rfl:j=n:=by omega
  have D:=h_ (show rdTake l=(colsL cs,k,0)from by rw[HK.o,BT];rfl);have a1:=h_ (HC.lower (b':=w.heap.size) (by omega));have a5:=h_ (show cs.length<=8 by rw[HL.o];omega);clear aV;go_wp2;go_ret;exact⟨HO.o,k,0,.inl ⟨rfl,_,cs,rfl,a1.o,aD.o,a5.o,D.o,HR.o⟩⟩
 obtain⟨rfl,M,t⟩:=z.no hx;obtain⟨x,f⟩:=nm_ ((rdU l 0 8).2.2);obtain⟨p,d⟩:=nm_ ((rdU l 0 8).2.1);have ar:x≠0:=by rw[f];exact hx
 have D:=h_ (show rdTake l=([],p,x)from by unfold rdTake;rw[Ab hx,d,f]);rw[<-d,<-f]at t;have J:=h_ ((Only.refl (fun j=>j=g) w).grown M rfl);have H:=h_ t;rw[<-f];clear z hx M t f d;go_wp2;exact⟨rfl,J.o,p,x,.inr ⟨ar,rfl,D.o,H.o⟩⟩
/- -/
def Only.trans' {T:Nat->Prop}(h:Only S a b)(k:Only T b c)(d:∀j,T j->S j):Only S a c:=h.trans (k.mono d)
def OwnC.only{base:Nat}{cs:List ColB}(h:OwnC w base v cs)(d:Only S w w')(f:∀q,base<=q->¬S q):OwnC w' base v cs:=by
 refine⟨⟨h.1.1,?_⟩,h.2⟩;rcases h.1.2 with c|⟨g,cap,b,rfl,a,e,r⟩
 .exact .inl c
 exact .inr ⟨g,cap,b,rfl,a,d.keep e (f g a),r⟩
def zJ4(wR:World)(c:Nat)(l:Bs)(g k x:Nat)(a:World):Prop :=
 Only (fun j=>j=c\/wR.heap.size<=j) wR a/\((x=0/\∃tv cs,a.heap[c]?=some (.cells #[tv] 22 (0,0))/\OwnC a (wR.heap.size+4) tv cs/\CS cs/\rdTake l=(colsL cs,k,0))\/(x≠0/\rdTake l=([],k,x)))
def zs1(args:Array Value)(u:World):(callFunc 211 args).run prog u=.ok (.enter 211 args) u:=zlG func211 (by kernel_rfl) rfl args u
def zqH(d:World)(g c:Nat)(v:Value)(l:Bs)(w:World)(U:Rdr w g v l 0)(X:w.heap[c]?=some (.cells #[.slice none 0 0] 22 (0,0)))(V:Tabs w)(Z:zcN<=g)(D:c<d.heap.size)(aa:d.heap.size<=g)(H:d.heap.size+4<=w.heap.size)(M:Lz d w)(hv:∀i,i<l.length->(adr v i).block≠c) :Calls prog 211 #[.pointer (some ⟨g,0,none⟩),.pointer (some ⟨c,0,none⟩)] w fun e m=>∃k x,Kept d.heap.size g w m/\zJ4 d c l g k x m/\Went g v l k x e m:=by
 have Y:c<w.heap.size:=by omega
 have Q:=h_ X;go_enter func211,ntmps211;go_wp2_with fail;refine(ztE g v l w U V Z).mono ?_;rintro e m⟨h,k,x,⟨rfl,tv,cs,rfl,a,E,h8,b,r⟩|⟨N,rfl,b,L⟩⟩
 .obtain⟨J,cap,z,_⟩:=RdG.shape (a.rd (by omega));obtain⟨O,y⟩:=nm_ ((cs.map colV).length);rw[<-y]at z;subst z;clear y;have A:=h.keep Q.o (by omega);have c0:=cell_of_one A;have c1:=free_of_one A;have T:=h_ A;have n:=h_ h;have I:=h_ a;have f:=h_ b;have C:=h_ r;have ac:=h.size;clear A h a b r;go_wp2;go_end0;have t:=one_setCell (u:=.slice J O cap) T.o;have G:m.grownBy (m.setCell ⟨c,0,none⟩ (.slice J O cap)) (some c):=za0 (World.grownBy.refl _ _) _;refine⟨k,0,?_,⟨?_,.inl ⟨rfl,_,cs,t,?_,E,f.o⟩⟩,.inl ⟨rfl,rfl,?_⟩⟩
  .exact(n.kept (fun j s=>.inr s)).setCell D _
  .refine(((Only.refl _ d).below M l_).trans' n.o (fun j s=>?_)).setCell (p:=⟨c,0,none⟩) (.inl rfl) _;exact .inr (by omega)
  .exact(I.grown G (fun q hq=>by have:=(OwnC.lt I.o hq).1;simp;omega)).lower H
  exact C.setVar (p:=⟨c,0,none⟩) (by dsimp only;omega) hv _
 have n:=h_ h;have S:=h_ L;have f:=h_ b;clear h L b;go_wp2;refine⟨rfl,k,x,n.kept (fun j s=>.inr s),⟨?_,.inr ⟨N,f.o⟩⟩,.inr ⟨N,rfl,S.o⟩⟩;exact((Only.refl _ d).below M l_).trans' n.o (fun j s=>.inr (by omega))
def RdO(w:World)(l:Bs)(e:Ending)(w':World):Prop :=
 Lz w w'/\∃tv cs,e=.returned (.tuple #[tv,.int .i64 ((rdTake l).2.1:Int),.int .i64 (readE l:Int)])/\OwnC w' w.heap.size tv cs/\CS cs/\cs.length<=8/\colsL cs=readC l
def zn6(l:Bs):∀(m:Nat)(a:List Col)(k:Nat),(zaR l m a k).1.length<=a.length+m
 | 0,a,k=>by rw[zaR];simp
 | m+1,a,k=>by
  rw[zaR];split
  ·simp
  .have:=zn6 l m (a++[(zc5 l (names a) k).1]) (zc5 l (names a) k).2.1
   simp at this;omega
def zAJ(l:Bs):(rdTake l).1.length<=8:=by
 unfold rdTake;split
 ·simp
 split
 ·simp
 rename_i h1 h2;have a:=zn6 l (rdU l 0 8).1 [] (rdU l 0 8).2.1;obtain⟨_,c,b,_⟩:=zAH (l:=l) (k:=0) (most:=8) (Bg _) (Av h1);have:(rdU l 0 8).1<=8:=by rw[b];dsimp only;omega
 simp at a;omega
def ztF(v:Value)(l:Bs)(w:World)(h:Rd w v l)(hT:Tabs w) :Calls prog 173 #[v] w (RdO w l):=by
 have al:∀(fn:Fn)(first cap:Array Value)(w:World),(Instr.makeFunc fn first cap).run prog w=.ok (.func fn first cap) w:=fun _ _ _ _=>rfl;obtain⟨O,Y,I⟩:=new1 w (.cells #[.slice none 0 0] 22);obtain⟨T,D⟩:=nm_ (w.alloc (.cells #[.slice none 0 0] 22));rw[<-D]at O Y I;have X:=h_ D;have af:=zoL hT;have U:=h_ I;have E:=h_ Y;have M:=h.later I l_;have C:=fun i(hi:i<l.length)=>h.block hi;have V:=h_ (hT.later I);obtain⟨J,z⟩:=nm_ w.heap.size;rw[<-z]at O E C af;have r:=h_ z;clear D Y I h hT z;have u:=zkJ 211 zs1 #[.pointer (some ⟨J,0,none⟩)] v l T M (zJ4 T J l) (fun g k x a b hp hs s=>by
  obtain⟨Z,L⟩:=hp;refine⟨Z.trans' s (fun j hj=>.inr (by omega)),?_⟩;rcases L with⟨S,tv,cs,q1,q2,q3,q4⟩|L
  .exact .inl ⟨S,tv,cs,s.keep q1 (by omega),q2.only s (fun q Q=>by omega),q3,q4⟩
  .exact .inr L) (fun g w1 Z L h3 hb hR=>by
  have:=zqH T g J v l w1 hR ((hb.block J (by omega)).trans E.o) (V.later hb) (by omega) (by omega) Z L hb (fun i hi=>by have:=C i hi;omega);exact this)
 have H:=h_ u;have ai:T.heap.size=J+1:=O;clear u M C O;go_enter func173,ntmps173;go_wp2_with fail;rw[<-X.o,<-r.o];refine H.mono ?_;rintro e w2⟨g,k,x,hk,hg,⟨s,hp⟩,A,rfl⟩;have y:=h_ (show Lz w w2 from U.trans (s.toBelow (fun j hj=>by have:=r.o;omega) (by have:=r.o;omega)));have an:=s.size;rcases hp with⟨rfl,tv,cs,Q,n,ad,d⟩|⟨S,d⟩
 .have t:=zAJ l;rw[d]at t;dsimp only at t;rw[za4]at t;by_cases N:k<l.length
  .have p:told l k 0=7:=(by unfold told;rw[Ab rfl,Ab N]);have f:=h_ (show readE l=7 by unfold readE;rw[d];exact p);have m:=h_ d;rw[p];clear s d Q n A p;go_wp2;go_ret3;refine⟨y.o,_,[],by rw[m.o,f.o];rfl,OwnC.nil _ _,fun c hc=>absurd hc (by simp),by simp,?_⟩;unfold readC;rw[f.o];rfl
  have p:told l k 0=0:=by unfold told;rw[Ab rfl,Aa N]
  have f:=h_ (show readE l=0 by unfold readE;rw[d];exact p);have m:=h_ d;have G:=h_ (n.lower (b':=w.heap.size) (by have:=r.o;omega));rw[p];have c0:=cell_of_one Q;clear s d Q n A p;go_wp2;go_ret3;refine⟨y.o,tv,cs,by rw[m.o,f.o];rfl,G.o,ad,t,?_⟩;unfold readC;rw[f.o,Ab rfl,m.o]
 have p:told l k x=x:=by unfold told;rw[Aa S]
 have f:=h_ (show readE l=x by unfold readE;rw[d];exact p);have m:=h_ d;have am:((x:Int)!=0)=true:=by rw[Ao];omega
 rw[p];clear s d A p;go_wp2;go_ret3;refine⟨y.o,_,[],by rw[m.o,f.o];rfl,OwnC.nil _ _,fun c hc=>absurd hc (by simp),by simp,?_⟩;unfold readC;rw[f.o,Aa S];rfl
end
section
open Go.Shelf
section
variable{cs:List ColB}{view a b ps:List PairB}{s k:Int}
def Fold(cs:List ColB)(view all:List PairB):Prop:=PSO all/\((all=[]/\view=[])\/(Zs cs view/\Z.AllV (Vr cs) all/\∀r,Z.sumW view r=Z.sumW all r))
def Fold.nil:Fold cs [] []:=⟨fun p hp=>absurd hp (by simp),.inl ⟨rfl,rfl⟩⟩
def Fold.set(h:Fold cs view ps)(d:errS (colsL cs)=0):Zs cs view:=by
 rcases h.2 with⟨_,rfl⟩|⟨c,_⟩
 .exact zBI d
 exact c
def Fold.sum(h:Fold cs view ps)(r:List CellB):Z.sumW view r=Z.sumW ps r:=by
 rcases h.2 with⟨rfl,rfl⟩|⟨_,_,c⟩
 .rfl
 exact c r
end
/- -/
def magicL:Bs:=[68,75,76,49]
def hdB(cols:List Col):Bs:=magicL++frB 0 (wrS cols)
def hdW(cols:List Col):Bs×Nat:=if errS cols≠0 then([],errS cols)else(hdB cols,0)
def trW(cs:List ColB):Nat->Int->List PairB->List EntB->Bs×Int×List PairB×Nat×Nat
 | i,s,v,[]=>([],s,v,i,0)
 | i,s,v,x::t=>
  if 4096<=i then([],0,[],i,13)
  else if apE cs s v x≠0 then([],0,[],i,apE cs s v x)
  else if(entW cs x).2≠0 then([],0,[],i,(entW cs x).2)
  else if(trW cs (i+1) (apN cs s v x) (apV cs s v x) t).2.2.2.2≠0 then trW cs (i+1) (apN cs s v x) (apV cs s v x) t
  else((entW cs x).1++(trW cs (i+1) (apN cs s v x) (apV cs s v x) t).1,(trW cs (i+1) (apN cs s v x) (apV cs s v x) t).2)
def trE(cs:List ColB)(es:List EntB):Bs×Int×List PairB×Nat×Nat :=
 if errS (colsL cs)≠0 then([],0,[],0,errS (colsL cs))
 else if(trW cs 0 0 [] es).2.2.2.2≠0 then trW cs 0 0 [] es
 else(hdB (colsL cs)++(trW cs 0 0 [] es).1,(trW cs 0 0 [] es).2)
def entX(cs:List ColB)(kind:Nat)(p:Bs):EntB:=((entRV cs (kind:Int) p).1,(entRV cs (kind:Int) p).2.1,psB (entRV cs (kind:Int) p).2.2)
def trR(cs:List ColB)(b:Bs):Nat->Nat->Nat->Int->List PairB->List EntB×List (Int×Nat)×Nat×Nat
 | 0,at_,_,_,_=>([],[],at_,0)
 | f+1,at_,n,s,v=>
  if b.length<=at_ then([],[],at_,0)
  else if 4096<=n then([],[],at_,13)
  else if(nxF (b.drop at_)).2.2.2≠0 then([],[],at_,(nxF (b.drop at_)).2.2.2)
  else if entRE cs ((nxF (b.drop at_)).1:Int) (nxF (b.drop at_)).2.1≠0 then([],[],at_,entRE cs ((nxF (b.drop at_)).1:Int) (nxF (b.drop at_)).2.1)
  else if apE cs s v (entX cs (nxF (b.drop at_)).1 (nxF (b.drop at_)).2.1)≠0 then([],[],at_,apE cs s v (entX cs (nxF (b.drop at_)).1 (nxF (b.drop at_)).2.1))
  else if(trR cs b f (at_+(nxF (b.drop at_)).2.2.1) (n+1) (apN cs s v (entX cs (nxF (b.drop at_)).1 (nxF (b.drop at_)).2.1)) (apV cs s v (entX cs (nxF (b.drop at_)).1 (nxF (b.drop at_)).2.1))).2.2.2≠0 then
   ([],[],(trR cs b f (at_+(nxF (b.drop at_)).2.2.1) (n+1) (apN cs s v (entX cs (nxF (b.drop at_)).1 (nxF (b.drop at_)).2.1)) (apV cs s v (entX cs (nxF (b.drop at_)).1 (nxF (b.drop at_)).2.1))).2.2)
  else(entX cs (nxF (b.drop at_)).1 (nxF (b.drop at_)).2.1::(trR cs b f (at_+(nxF (b.drop at_)).2.2.1) (n+1) (apN cs s v (entX cs (nxF (b.drop at_)).1 (nxF (b.drop at_)).2.1)) (apV cs s v (entX cs (nxF (b.drop at_)).1 (nxF (b.drop at_)).2.1))).1,
   (apN cs s v (entX cs (nxF (b.drop at_)).1 (nxF (b.drop at_)).2.1),at_+(nxF (b.drop at_)).2.2.1)::(trR cs b f (at_+(nxF (b.drop at_)).2.2.1) (n+1) (apN cs s v (entX cs (nxF (b.drop at_)).1 (nxF (b.drop at_)).2.1)) (apV cs s v (entX cs (nxF (b.drop at_)).1 (nxF (b.drop at_)).2.1))).2.1,
   (trR cs b f (at_+(nxF (b.drop at_)).2.2.1) (n+1) (apN cs s v (entX cs (nxF (b.drop at_)).1 (nxF (b.drop at_)).2.1)) (apV cs s v (entX cs (nxF (b.drop at_)).1 (nxF (b.drop at_)).2.1))).2.2)
/- -/
variable {b:Bs} {x:EntB} {s:Int} {cs:List ColB} {t:List EntB} {v:List PairB} {i:Nat}
def zd0(h:(nxF b).2.2.2=0):b.take (nxF b).2.2.1=frB (nxF b).1 (nxF b).2.1/\(nxF b).2.2.1=(frB (nxF b).1 (nxF b).2.1).length/\(nxF b).2.2.1<=b.length/\(nxF b).1<=2/\(nxF b).2.1.length<=1048576:=by
 obtain⟨i,d,f,g⟩:=zoW h
 suffices z:b.take (nxF b).2.2.1=frB (nxF b).1 (nxF b).2.1 from⟨z,by rw[<-z,Aq];omega,d,g,f⟩
 unfold nxF at h i d f g ⊢;by_cases u:b.length=0
 .rw[Ab u]at h;cases h
 rw[Aa u]at h i d f g ⊢;by_cases y:2<at8 b 0
 .rw[Ab y]at h;cases h
 rw[Aa y]at h i d f g ⊢;by_cases n:(getB (b.drop 1) 1048576).2.2≠0
 .rw[Ab n]at h;exact absurd h n
 rw[Aa n]at h i d f g ⊢;by_cases t:b.length<(getB (b.drop 1) 1048576).2.1+5
 .rw[Ab t]at h;cases h
 rw[Aa t]at h i d f g ⊢;by_cases j:Crc.good (b.take ((getB (b.drop 1) 1048576).2.1+5))
 .rw[Ab j]at i d f g ⊢;dsimp only at i d f g ⊢;have v:(getB (b.drop 1) 1048576).2.2=0:=Av n;obtain⟨p,m,l⟩:∃p m,getB (b.drop 1) 1048576=(p,m,0):=⟨_,_,by rw[<-v]⟩;rw[l]at t j d ⊢;dsimp only at t j d ⊢;obtain⟨x,G,D,H⟩:=zp6 l;rw[Ay]at D;obtain⟨c,r,rfl⟩:∃c r,b=c::r:=by
   cases b with
   | nil=>exact absurd rfl u
   | cons c r=>exact⟨c,r,rfl⟩
  have E:(at8 (c::r) 0).toNat=c.toNat:=by rw[zpN];simp
  rw[C4,Bz]at x;have C:(c::r).take (m+1)=frX c.toNat p:=by
   rw[BC,<-x];unfold frX;rw[UInt8.ofNat_toNat]
  obtain⟨_,A⟩:=j;have w:((c::r).take (m+5)).length=m+5:=by rw[Aq];omega
  rw[w,show m+5-4=m+1 from by omega,Cf,show min (m+1) (m+5)=m+1 from by omega,C]at A;rw[E];unfold frB;rw[A,<-C];have e:=A0 (m+1) ((c::r).take (m+5));rw[Cf,show min (m+1) (m+5)=m+1 from by omega]at e;exact e.symm
 rw[Aa j]at h;cases h
def zE8{a:List Bp}(h:BtOk (ltE cs) (kindsL cs) a):PSO (psB a)/\psL (psB a)=a:=by
 constructor
 ·intro p hp;unfold psB at hp;obtain⟨q,g,rfl⟩:=Au.1 hp;refine⟨fun c f=>?_,?_⟩
  .dsimp only at f;unfold cesB at f;obtain⟨z,u,rfl⟩:=Au.1 f;obtain⟨i,t,rfl⟩:=List.getElem_of_mem u;have x:=h.wide q g;obtain⟨w,m⟩:=h.fit i ((kindsL cs)[i]'(by omega)) (AJ (by omega));have hm:q.1.getD i (0,[])∈btCol (0+i) (a.map fun p=>p.1):=by
    unfold btCol;rw[A5];exact Au.2 ⟨q.1,Au.2 ⟨q,g,rfl⟩,rfl⟩
   have d:=m _ hm;have e:q.1.getD i (0,[])=q.1[i]:=(by simp[List.getD,t]);rw[e]at d;refine⟨d.lt,?_⟩;have v:q.1[i].2.length<=256:=by
    by_cases j:(kindsL cs)[i]'(by omega)=3\/(kindsL cs)[i]'(by omega)=4
    .exact(d.text j).2.1
    rw[(d.num j).1];simp
   show(ceB q.1[i]).2.size<=_;unfold ceB;simp[ByteArray.size];omega
  have:=h.wts q g;exact⟨this.2.1,this.2.2⟩
 unfold psL psB;rw[A6];have:((fun p:PairB=>(cesL p.1,p.2))∘fun p:Bp=>(cesB p.1,p.2))=id:=funext fun p=>by
  obtain⟨r,y⟩:=p;simp only[Function.comp,id];congr 1;unfold cesL cesB;rw[A6];have e:(ceL∘ceB)=id:=funext fun c=>by obtain⟨n,l⟩:=c;simp[ceL,ceB]
  rw[e,CG]
 rw[this,CG]
def zh6{k:Nat}{p:Bs}(C:p.length<=1048576)(h:entRE cs (k:Int) p=0) :EnO (entX cs k p)/\entW cs (entX cs k p)=(frB k p,0)/\(entX cs k p).1=2-(k:Int)/\(k=1\/k=2)/\psL (entX cs k p).2.2=(entRV cs (k:Int) p).2.2:=by
 have d:errS (colsL cs)=0:=by
  apply Av;intro c;unfold entRE at h;rw[Ab c]at h;exact c h
 have A:(k:Int)=1\/(k:Int)=2:=by
  apply Av;intro c;unfold entRE at h;rw[Aa (fun h=>h d),Ab (by omega)]at h;cases h
 have i:(entRV cs (k:Int) p).2.2=(entT cs p).1.2:=by unfold entRV;rw[Ab h]
 have e:(entT cs p).2.2=0:=by
  unfold entRE at h;rw[Aa (fun h=>h d),Aa (by omega)]at h;unfold told at h;apply Av;intro c;rw[Aa c]at h;exact c h
 have m:(rdU p 0 281474976710656).2.2=0:=by
  apply Av;intro c;have:=(zpE (cs:=cs) c).2;rw[e]at this;exact c this.symm
 obtain⟨D,n,w⟩:=zpD (cs:=cs) m;rw[w,zi2 d]at e;obtain⟨_,u2,_⟩:=zcE (l:=p) (k:=0) (Bg _) m;obtain⟨_,_,r⟩:=zwE u2 e;obtain⟨u,v⟩:=zE8 r;have j:PSO (psB (entRV cs (k:Int) p).2.2):=by rw[i,n,zi2 d];exact u
 have hp:psL (psB (entRV cs (k:Int) p).2.2)=(entRV cs (k:Int) p).2.2:=by rw[i,n,zi2 d];exact v
 obtain⟨z,f,g,t⟩:=zHM j h hp;obtain⟨_,x,y,_⟩:=zb8.1 g;dsimp only at x y;refine⟨⟨by unfold inW entX;dsimp only;omega,by unfold inW entX;dsimp only;omega,j⟩,?_,f,by omega,hp⟩;unfold entX entW;rw[Aa (fun h=>h g),t,f,show 2-(2-(k:Int))=k by omega];unfold wrF;rw[Aa (by omega),Aa (by omega),Aw]
def zf4(j:EnO x)(h:(entW cs x).2=0) :∃k p,(entW cs x).1=frB k p/\k<=2/\p.length<=1048576/\entRE cs (k:Int) p=0/\entX cs k p=x:=by
 obtain⟨c,g,i⟩:=zCE h;obtain⟨d,f⟩:=zEY j.2.2 c;have l:=(zb8.1 c).2.1;have e:(((2-x.1).toNat:Nat):Int)=2-x.1:=by omega
 refine⟨(2-x.1).toNat,entP cs x,by rw[i],by omega,g,by rw[e];exact d,?_⟩;unfold entX;rw[e,f];dsimp only;rw[zAX]
def zeW(h:(trW cs i s v (x::t)).2.2.2.2=0) :i<4096/\apE cs s v x=0/\(entW cs x).2=0/\(trW cs (i+1) (apN cs s v x) (apV cs s v x) t).2.2.2.2=0 /\trW cs i s v (x::t)=((entW cs x).1++(trW cs (i+1) (apN cs s v x) (apV cs s v x) t).1,(trW cs (i+1) (apN cs s v x) (apV cs s v x) t).2):=by
 have e:trW cs i s v (x::t)=if 4096<=i then([],0,[],i,13)
  else if apE cs s v x≠0 then([],0,[],i,apE cs s v x)
  else if(entW cs x).2≠0 then([],0,[],i,(entW cs x).2)
  else if(trW cs (i+1) (apN cs s v x) (apV cs s v x) t).2.2.2.2≠0 then trW cs (i+1) (apN cs s v x) (apV cs s v x) t
  else((entW cs x).1++(trW cs (i+1) (apN cs s v x) (apV cs s v x) t).1,(trW cs (i+1) (apN cs s v x) (apV cs s v x) t).2):=by rw[trW]
 rw[e]at h ⊢;by_cases g:4096<=i
 .rw[Ab g]at h;cases h
 rw[Aa g]at h ⊢;by_cases c:apE cs s v x=0
 .rw[Aa (fun h=>h c)]at h ⊢;by_cases d:(entW cs x).2=0
  .rw[Aa (fun h=>h d)]at h ⊢;by_cases f:(trW cs (i+1) (apN cs s v x) (apV cs s v x) t).2.2.2.2=0
   .rw[Aa (fun h=>h f)];exact⟨by omega,c,d,f,rfl⟩
   rw[Ab f]at h;exact absurd h f
  rw[Ab d]at h;exact absurd h d
 rw[Ab c]at h;exact absurd h c
def zjZ(f:i<4096)(c:apE cs s v x=0)(d:(entW cs x).2=0)(e:(trW cs (i+1) (apN cs s v x) (apV cs s v x) t).2.2.2.2=0) :trW cs i s v (x::t)=((entW cs x).1++(trW cs (i+1) (apN cs s v x) (apV cs s v x) t).1,(trW cs (i+1) (apN cs s v x) (apV cs s v x) t).2):=by
 rw[trW,Aa (by omega),Aa (fun h=>h c),Aa (fun h=>h d),Aa (fun h=>h e)]
def trM(cs:List ColB):Nat->Int->List PairB->List EntB->List (Int×Nat)
 | _,_,_,[]=>[]
 | at_,s,v,x::t=>(apN cs s v x,at_+(entW cs x).1.length)::trM cs (at_+(entW cs x).1.length) (apN cs s v x) (apV cs s v x) t
def zhI{at_ n:Nat}(f:Nat)(h:b.length<=at_):trR cs b f at_ n s v=([],[],at_,0):=by
 cases f with
 | zero=>rw[trR]
 | succ f=>rw[trR,Ab h]
def zvC{cs:List ColB}{b:Bs}:∀(es:List EntB)(f at_ n:Nat)(s:Int)(v:List PairB),(∀x∈es,EnO x)->(trW cs n s v es).2.2.2.2=0->at_<=b.length->b.drop at_=(trW cs n s v es).1->b.length<=at_+f ->trR cs b f at_ n s v=(es,trM cs at_ s v es,b.length,0)
 | [],f,at_,n,s,v,_,_,ha,hd,_=>by
  rw[trW]at hd;dsimp only at hd;have C:b.length<=at_:=by have:=congrArg List.length hd;rw[Ay]at this;simp at this;omega
  rw[zhI f C,trM,show at_=b.length by omega]
 | x::t,f,at_,n,s,v,hO,h,ha,hd,hf=>by
  obtain⟨E,u,w,z,A⟩:=zeW h;obtain⟨k,p,g,j,l,m,r⟩:=zf4 (hO x (by simp)) w;rw[A]at hd;dsimp only at hd;have i:=zhQ k j p (trW cs (n+1) (apN cs s v x) (apV cs s v x) t).1 l;rw[<-g,<-hd]at i;have d:=zb5 k p;rw[<-g]at d;have c:=congrArg List.length hd;rw[Ay,Ae]at c;have e:b.drop (at_+(entW cs x).1.length)=(trW cs (n+1) (apN cs s v x) (apV cs s v x) t).1:=by
   rw[<-B0,hd,B9]
  match f,hf with
  | 0,hf=>omega
  | f+1,hf=>
   have ih:=zvC t f (at_+(entW cs x).1.length) (n+1) (apN cs s v x) (apV cs s v x) (fun y D=>hO y (by simp[D])) z (by omega) e (by omega);rw[trR,Aa (by omega),Aa (by omega),i];dsimp only;rw[Aa (by simp),Aa (fun h=>h m),r,Aa (fun h=>h u),ih];dsimp only;rw[Aa (by simp),trM]
def zzC{cs:List ColB}{b:Bs}:∀(f at_ n:Nat)(s:Int)(v:List PairB),at_<=b.length->b.length<=at_+f->(trR cs b f at_ n s v).2.2.2=0 ->(trW cs n s v (trR cs b f at_ n s v).1).2.2.2.2=0/\b.drop at_=(trW cs n s v (trR cs b f at_ n s v).1).1/\(trW cs n s v (trR cs b f at_ n s v).1).2.2.2.1=n+(trR cs b f at_ n s v).1.length/\(trR cs b f at_ n s v).2.2.1=b.length/\∀x∈(trR cs b f at_ n s v).1,EnO x
 | 0,at_,n,s,v,ha,hf,h=>by
  rw[trR];dsimp only;rw[trW];exact⟨rfl,Ch (by omega),rfl,by omega,fun x c=>absurd c (by simp)⟩
 | f+1,at_,n,s,v,ha,hf,h=>by
  by_cases t:b.length<=at_
  .rw[zhI _ t]
   dsimp only;rw[trW];exact⟨rfl,Ch (by omega),rfl,by omega,fun x c=>absurd c (by simp)⟩
  .rw[trR,Aa t]at h ⊢
   by_cases u:4096<=n
   .rw[Ab u]at h;cases h
   .rw[Aa u]at h ⊢
    by_cases d:(nxF (b.drop at_)).2.2.2=0
    .rw[Aa (fun h=>h d)]at h ⊢
     obtain⟨l,C,D,M,E⟩:=zd0 d;obtain⟨k,w⟩:=nm_ ((nxF (b.drop at_)).1);obtain⟨p,hp⟩:=nm_ ((nxF (b.drop at_)).2.1);obtain⟨m,hm⟩:=nm_ ((nxF (b.drop at_)).2.2.1);rw[<-w,<-hp]at l C h ⊢;rw[<-hm]at l C D h ⊢;rw[<-w]at M;rw[<-hp]at E;rw[Ay]at D;have y:=zb5 k p;by_cases e:entRE cs (k:Int) p=0
     .rw[Aa (fun h=>h e)]at h ⊢
      obtain⟨G,r,N,O,Q⟩:=zh6 E e;obtain⟨x,c⟩:=nm_ (entX cs k p);rw[<-c]at h G r ⊢;by_cases g:apE cs s v x=0
      .rw[Aa (fun h=>h g)]at h ⊢
       by_cases i:(trR cs b f (at_+m) (n+1) (apN cs s v x) (apV cs s v x)).2.2.2=0
       .rw[Aa (fun h=>h i)]
        obtain⟨A,H,I,J,L⟩:=zzC f (at_+m) (n+1) (apN cs s v x) (apV cs s v x) (by omega) (by omega) i;dsimp only;rw[zjZ (by omega) g (by rw[r]) A];refine⟨A,?_,by dsimp only;rw[I,Ap];omega,J,fun z j=>?_⟩
        .dsimp only
         rw[r,<-H,<-B0];dsimp only;rw[<-l,A0]
        .rcases Ba.1 j with rfl|j
         .exact G
         .exact L z j
       .rw[Ab i]at h;exact absurd h i
      .rw[Ab g]at h;exact absurd h g
     .rw[Ab e]at h;exact absurd h e
    .rw[Ab d]at h;exact absurd h d
/- -/
def trR_cut{cs:List ColB}{b:Bs}{i:Nat}(T:i<=b.length):∀(es:List EntB)(f at_ n:Nat)(s:Int)(v:List PairB),(∀x∈es,EnO x)->(trW cs n s v es).2.2.2.2=0->at_<=i->b.drop at_=(trW cs n s v es).1->i<=at_+f ->((trR cs (b.take i) f at_ n s v).2.2.2≠0/\i≠at_/\∀m∈trM cs at_ s v es,m.2≠i) \/ (∃k,k<=es.length/\trR cs (b.take i) f at_ n s v=(es.take k,(trM cs at_ s v es).take k,i,0)/\((k=0/\i=at_)\/(0<k/\at_<i/\((trM cs at_ s v es).getD (k-1) (0,0)).2=i)))
 | [],f,at_,n,s,v,_,_,ha,hd,hf=>by
  have hl:b.length<=at_:=by
   rw[trW]at hd;have:=congrArg List.length hd;rw[Ay]at this;simp at this;omega
  have c:i=at_:=by omega
  refine .inr ⟨0,by simp,?_,.inl ⟨rfl,c⟩⟩;rw[zhI f (by rw[Aq];omega),c]
  rfl
 | x::t,f,at_,n,s,v,hO,h,ha,hd,hf=>by
  have U:(b.take i).length=i:=by rw[Aq];omega
  by_cases c:i=at_
  .refine .inr ⟨0,by simp,?_,.inl ⟨rfl,c⟩⟩
   rw[zhI f (by omega),c]
   rfl
  .obtain⟨Z,N,O,Q,S⟩:=zeW h
   obtain⟨k,p,d,G,H,L,M⟩:=zf4 (hO x (by simp)) O;rw[S]at hd;dsimp only at hd;have j:=zb5 k p;rw[<-d]at j;have g:=congrArg List.length hd;rw[Ay,Ae]at g;have A:b.drop (at_+(entW cs x).1.length)=(trW cs (n+1) (apN cs s v x) (apV cs s v x) t).1:=by
    rw[<-B0,hd,B9]
   have e:(b.take i).drop at_=((entW cs x).1++(trW cs (n+1) (apN cs s v x) (apV cs s v x) t).1).take (i-at_):=by
    rw[List.drop_take,hd]
   match f,hf with
   | 0,hf=>omega
   | f+1,hf=>
    by_cases hs:i<at_+(entW cs x).1.length
    .have D:nxF ((b.take i).drop at_)=(0,[],0,5):=by
      rw[e,BH (by omega),d];exact zBG k G p H (i-at_) (by rw[<-d];omega)
     refine .inl ⟨?_,c,fun m hm=>?_⟩
     .rw[trR,Aa (by omega),Aa (by omega),D]
      dsimp only;rw[Ab (by simp)];simp
     .have C:∀(es:List EntB)(a:Nat)(s:Int)(v:List PairB),∀m∈trM cs a s v es,a<=m.2:=by
       intro es
       induction es with
       | nil=>intro a s v m hm;rw[trM]at hm;exact absurd hm (by simp)
       | cons y r ih=>
        intro a s v m hm;rw[trM]at hm;rcases Ba.1 hm with rfl|hm
        .dsimp only;omega
        .have:=ih _ _ _ m hm;omega
      rw[trM]at hm;rcases Ba.1 hm with rfl|hm
      .dsimp only;omega
      .have:=C _ _ _ _ m hm;omega
    .have D:nxF ((b.take i).drop at_)=(k,p,(entW cs x).1.length,0):=by
      rw[e,Cd,d,Am (by rw[<-d];omega)];exact zhQ k G p _ H
     have u:∀r,trR cs (b.take i) f (at_+(entW cs x).1.length) (n+1) (apN cs s v x) (apV cs s v x)=r ->
       trR cs (b.take i) (f+1) at_ n s v=if r.2.2.2≠0 then([],[],r.2.2)else(x::r.1,(apN cs s v x,at_+(entW cs x).1.length)::r.2.1,r.2.2):=by
      intro r u;rw[trR,Aa (by omega),Aa (by omega),D];dsimp only;rw[Aa (by simp),Aa (fun h=>h L),M,Aa (fun h=>h N),u]
     have z:trM cs at_ s v (x::t)=(apN cs s v x,at_+(entW cs x).1.length)::trM cs (at_+(entW cs x).1.length) (apN cs s v x) (apV cs s v x) t:=by rw[trM]
     rcases trR_cut T t f (at_+(entW cs x).1.length) (n+1) (apN cs s v x) (apV cs s v x) (fun y V=>hO y (by simp[V])) Q (by omega) A (by omega)with⟨w,E,l⟩|⟨q,w,E,l⟩
     .refine .inl ⟨?_,c,fun m hm=>?_⟩
      .rw[u _ rfl,Ab w]
       exact w
      .rw[z]at hm
       rcases Ba.1 hm with rfl|hm
       .dsimp only;omega
       .exact l m hm
     .refine .inr ⟨q+1,by simp;omega,?_,.inr ⟨by omega,by omega,?_⟩⟩
      .rw[u _ E,Aa (by simp),z]
       rfl
      .rw[z,Bv]
       rcases l with⟨rfl,l⟩|⟨X,Y,J⟩
       .simp;omega
       .obtain⟨I,rfl⟩:∃I,q=I+1:=⟨q-1,by omega⟩
        rw[BK];exact J
def zoD{cs:List ColB}:∀(es:List EntB)(j n:Nat)(s:Int)(v:List PairB),(trW cs n s v es).2.2.2.2=0->j<=es.length ->(trW cs n s v (es.take j)).2.2.2.2=0/\(trW cs n s v (es.take j)).2.2.2.1=n+j/\(trW cs n s v (es.take j)).1=(trW cs n s v es).1.take (trW cs n s v (es.take j)).1.length
 | es,0,n,s,v,h,hj=>by rw[AU,trW];simp
 | [],j+1,n,s,v,h,hj=>by simp at hj
 | x::t,j+1,n,s,v,h,hj=>by
  obtain⟨f,g,i,l,m⟩:=zeW h;obtain⟨d,p,r⟩:=zoD t j (n+1) (apN cs s v x) (apV cs s v x) l (by simpa using hj);rw[BC,zjZ f g i d,m];refine⟨d,by dsimp only;rw[p];omega,?_⟩;dsimp only;have e:∀(a b c:Bs),(a++b).take (a++c).length=a++b.take c.length:=fun a b c=>by
   rw[Ae,Cd,Nat.add_sub_cancel_left,Am (by omega)]
  rw[e,<-r]
def znO(es:List EntB):List PairB:=(es.filter fun x=>x.1==0).flatMap fun x=>x.2.2
def ziP(es:List EntB):Nat:=(es.filter fun x=>x.1==0).length
def zGF(h:apE cs s v x=0) :chkZ cs v=0/\(0<=s/\s<=281474976710656)/\entE cs x=0 /\((x.1=0/\x.2.1=s+1/\sumE cs v x.2.2=0/\apN cs s v x=s+1/\apV cs s v x=sumO cs v x.2.2)\/(x.1=1/\x.2.1=s/\x.2.2=v/\apN cs s v x=s/\apV cs s v x=v)):=by
 have l:apN cs s v x=x.2.1:=by unfold apN;rw[Ab h]
 have e:apV cs s v x=if x.1=1 then v else sumO cs v x.2.2:=by unfold apV;rw[Ab h]
 unfold apE at h;by_cases d:chkZ cs v=0
 .rw[Aa (fun h=>h d)]at h;by_cases g:s<0\/281474976710656<s
  .rw[Ab g]at h;cases h
  rw[Aa g]at h;by_cases c:entE cs x=0
  .rw[Aa (fun h=>h c)]at h;have m:=(zb8.1 c).2.1;by_cases i:(x.1=0/\x.2.1≠s+1)\/(x.1=1/\x.2.1≠s)
   .rw[Ab i]at h;cases h
   rw[Aa i]at h;refine⟨d,by omega,c,?_⟩;by_cases f:x.1=1
   .rw[Ab f]at h e;by_cases j:x.2.2=v
    .exact .inr ⟨f,by omega,j,by rw[l];omega,e⟩
    rw[Aa j]at h;cases h
   rw[Aa f]at h e;exact .inl ⟨by omega,by omega,h,by rw[l];omega,e⟩
  rw[Ab c]at h;exact absurd h c
 rw[Ab d]at h;exact absurd h d
def Fold.add{view ps p:List PairB}(h:Fold cs view ps)(d:Zs cs p)(e:sumE cs view p=0):Fold cs (sumO cs view p) (ps++p):=by
 have g:=h.set d.schema;obtain⟨i,j⟩:=zFS g d e;refine⟨fun q c=>?_,.inr ⟨i,?_,fun r=>?_⟩⟩
 .rcases AD.1 c with c|c
  .exact h.1 q c
  exact d.1 q c
 .refine zwH ?_ d.all;rcases h.2 with⟨rfl,_⟩|⟨_,f,_⟩
  .intro q c;exact absurd c (by simp)
  exact f
 rw[j,Z.sumW_append,h.sum]
def zuG(x:EntB)(t:List EntB):znO (x::t)=(if x.1=0 then x.2.2 else[])++znO t:=by
 unfold znO;rw[List.filter_cons];by_cases h:x.1=0
 .rw[Ab (by simpa using h),Ab h,Db]
 rw[Aa (by simpa using h),Aa h,AA]
def zuH(x:EntB)(t:List EntB):ziP (x::t)=(if x.1=0 then 1 else 0)+ziP t:=by
 unfold ziP;rw[List.filter_cons];by_cases h:x.1=0
 .rw[Ab (by simpa using h),Ab h,Ap];omega
 rw[Aa (by simpa using h),Aa h];omega
def zgP{cs:List ColB}:∀(es:List EntB)(n:Nat)(s:Int)(v all:List PairB),(∀x∈es,EnO x)->(trW cs n s v es).2.2.2.2=0->Fold cs v all ->Fold cs (trW cs n s v es).2.2.1 (all++znO es)/\(trW cs n s v es).2.1=s+(ziP es:Int)/\(trW cs n s v es).2.2.2.1=n+es.length
 | [],n,s,v,all,hO,h,hF=>by
  rw[trW];exact⟨by simpa[znO]using hF,by simp[ziP],by simp⟩
 | x::t,n,s,v,all,hO,h,hF=>by
  obtain⟨G,w,H,m,z⟩:=zeW h;obtain⟨D,E,r,u⟩:=zGF w;have A:Zs cs x.2.2:=⟨(hO x (by simp)).2.2,(zb8.1 r).2.2.2⟩;rw[z,zuG,zuH];dsimp only;rcases u with⟨i,C,p,j,l⟩|⟨i,C,p,j,l⟩
  .rw[Ab i,Ab i]
   have c:=hF.add A p;rw[<-l]at c;obtain⟨e,f,g⟩:=zgP t (n+1) (apN cs s v x) (apV cs s v x) (all++x.2.2) (fun y d=>hO y (by simp[d])) m c;refine⟨by rw[<-An];exact e,?_,by rw[g,Ap];omega⟩;rw[f,j];push_cast;omega
  .rw[Aa (by omega),Aa (by omega),AA]
   obtain⟨e,f,g⟩:=zgP t (n+1) (apN cs s v x) (apV cs s v x) all (fun y d=>hO y (by simp[d])) m (by rw[l];exact hF);refine⟨e,?_,by rw[g,Ap];omega⟩;rw[f,j];push_cast;omega
def zoE{cs:List ColB}:∀(a r:List EntB)(n:Nat)(s:Int)(v:List PairB),(trW cs n s v a).2.2.2.2=0 ->trW cs n s v (a++r)=if(trW cs (n+a.length) (trW cs n s v a).2.1 (trW cs n s v a).2.2.1 r).2.2.2.2≠0 then trW cs (n+a.length) (trW cs n s v a).2.1 (trW cs n s v a).2.2.1 r else((trW cs n s v a).1++(trW cs (n+a.length) (trW cs n s v a).2.1 (trW cs n s v a).2.2.1 r).1,(trW cs (n+a.length) (trW cs n s v a).2.1 (trW cs n s v a).2.2.1 r).2)
 | [],r,n,s,v,h=>by
  rw[AA,show trW cs n s v []=([],s,v,n,0)from by rw[trW]];dsimp only;rw[Bh,CJ,AA];split<;>rfl
 | x::t,r,n,s,v,h=>by
  obtain⟨j,d,f,g,i⟩:=zeW h;have ih:=zoE t r (n+1) (apN cs s v x) (apV cs s v x) g;rw[i,AQ];dsimp only;rw[show n+(x::t).length=n+1+t.length from by rw[Ap];omega];generalize hT:trW cs (n+1) (apN cs s v x) (apV cs s v x) t=T at *;generalize hR:trW cs (n+1+t.length) T.2.1 T.2.2.1 r=R at *;rw[trW,Aa (by omega),Aa (fun h=>h d),Aa (fun h=>h f),ih];by_cases c:R.2.2.2.2=0
  .have e:(if R.2.2.2.2≠0 then R else(T.1++R.1,R.2))=(T.1++R.1,R.2):=Aa (fun h=>h c)
   rw[e];dsimp only;rw[Aa (fun h=>h c),Aa (fun h=>h c),An]
  .have e:(if R.2.2.2.2≠0 then R else(T.1++R.1,R.2))=R:=Ab c
   rw[e,Ab c,Ab c]
/- -/
def znP(c:Col):ColB:=(⟨c.1.toArray⟩,c.2)
def zuN(c:ColB):znP (colL c)=c:=by
 obtain⟨⟨a⟩,k⟩:=c;simp[znP,colL]
def colsB(cols:List Col):List ColB:=cols.map znP
def zd3(cs:List ColB):colsB (colsL cs)=cs:=by
 unfold colsB colsL;rw[A6];have:(znP∘colL)=id:=funext fun c=>zuN c;rw[this,CG]
def zcC(d:List Col):colsL (colsB d)=d:=by
 unfold colsB colsL;rw[A6];have:(colL∘znP)=id:=funext fun c=>by obtain⟨l,k⟩:=c;simp[znP,colL]
 rw[this,CG]
def trD(b:Bs):List ColB×List EntB×List (Int×Nat)×Nat×Nat :=
 if b.length<4\/b.take 4≠magicL then([],[],[],0,6)
 else if(nxF (b.drop 4)).2.2.2≠0 then([],[],[],4,(nxF (b.drop 4)).2.2.2)
 else if(nxF (b.drop 4)).1≠0 then([],[],[],4,10)
 else if readE (nxF (b.drop 4)).2.1≠0 then([],[],[],4,readE (nxF (b.drop 4)).2.1)
 else if(trR (colsB (readC (nxF (b.drop 4)).2.1)) b b.length (4+(nxF (b.drop 4)).2.2.1) 0 0 []).2.2.2≠0 then
  ([],[],[],(trR (colsB (readC (nxF (b.drop 4)).2.1)) b b.length (4+(nxF (b.drop 4)).2.2.1) 0 0 []).2.2)
 else(colsB (readC (nxF (b.drop 4)).2.1),(trR (colsB (readC (nxF (b.drop 4)).2.1)) b b.length (4+(nxF (b.drop 4)).2.2.1) 0 0 []).1,
  (0,4+(nxF (b.drop 4)).2.2.1)::(trR (colsB (readC (nxF (b.drop 4)).2.1)) b b.length (4+(nxF (b.drop 4)).2.2.1) 0 0 []).2.1,(trR (colsB (readC (nxF (b.drop 4)).2.1)) b b.length (4+(nxF (b.drop 4)).2.2.1) 0 0 []).2.2)
def zpU:∀(d:List Col),(∀c∈d,c.1.length<=32)->(zaK d).length<=43*d.length
 | [],_=>by simp[zaK]
 | c::r,h=>by
  have ih:=zpU r (fun x f=>h x (by simp[f]));have g:=h c (by simp);have i:=zaA c.1.length (by omega);have e:zaK (c::r)=zgL c++zaK r:=by unfold zaK;rw[Db]
  rw[e,Ae,Ap];unfold zgL encB;rw[Ae,Ae,AN];omega
def zbO{d:List Col}(h:errS d=0):(wrS d).length<=1048576:=by
 obtain⟨j,l,_,f⟩:=zaO h;have g:=zpU d (fun c e=>(f c e).1);have i:=zaA d.length (by omega);unfold wrS;rw[Ae];omega
def zbJ(c:List Col):(hdB c).length=4+(frB 0 (wrS c)).length:=by
 unfold hdB magicL;rw[Ae];rfl
def ze6{es:List EntB}(g:errS (colsL cs)=0)(l:∀x∈es,EnO x)(h:(trW cs 0 0 [] es).2.2.2.2=0) :trD (hdB (colsL cs)++(trW cs 0 0 [] es).1)=(cs,es,(0,(hdB (colsL cs)).length)::trM cs (hdB (colsL cs)).length 0 [] es,(hdB (colsL cs)++(trW cs 0 0 [] es).1).length,0):=by
 have f:=zbO g;have n:=zbJ (colsL cs);have hp:=zb5 0 (wrS (colsL cs));obtain⟨r,t,_⟩:=zoR g;obtain⟨b,c⟩:=nm_ (hdB (colsL cs)++(trW cs 0 0 [] es).1);rw[<-c];have e:=congrArg List.length c;rw[Ae]at e;have j:b.take 4=magicL:=by rw[c];unfold hdB;rw[An];exact BR rfl
 have d:b.drop 4=frB 0 (wrS (colsL cs))++(trW cs 0 0 [] es).1:=by rw[c];unfold hdB;rw[An];exact B4 rfl
 have i:=zhQ 0 (by omega) (wrS (colsL cs)) (trW cs 0 0 [] es).1 f;rw[<-d]at i;have m:b.drop (hdB (colsL cs)).length=(trW cs 0 0 [] es).1:=by rw[c,B9]
 have p:=zvC es b.length (hdB (colsL cs)).length 0 0 [] l h (by omega) m (by omega);unfold trD;rw[Aa (by rw[j];simp;omega),i];dsimp only;rw[Aa (by simp),Aa (by simp),Aa (fun h=>h r),t,zd3,<-n,p];dsimp only;rw[Aa (by simp)]
def zoH(h:(trD b).2.2.2.2=0) :errS (colsL (trD b).1)=0/\(∀x∈(trD b).2.1,EnO x)/\(trW (trD b).1 0 0 [] (trD b).2.1).2.2.2.2=0/\b=hdB (colsL (trD b).1)++(trW (trD b).1 0 0 [] (trD b).2.1).1/\(trD b).2.2.2.1=b.length/\(trW (trD b).1 0 0 [] (trD b).2.1).2.2.2.1=(trD b).2.1.length:=by
 unfold trD at h ⊢;by_cases j:b.length<4\/b.take 4≠magicL
 .rw[Ab j]at h;cases h
 rw[Aa j]at h ⊢;by_cases d:(nxF (b.drop 4)).2.2.2=0
 .rw[Aa (fun h=>h d)]at h ⊢;by_cases l:(nxF (b.drop 4)).1=0
  .rw[Aa (fun h=>h l)]at h ⊢;by_cases f:readE (nxF (b.drop 4)).2.1=0
   .rw[Aa (fun h=>h f)]at h ⊢;obtain⟨i,n,p,D,E⟩:=zd0 d;obtain⟨r,t,_⟩:=zjE f;rw[l]at i n;rw[Ay]at p;obtain⟨c,v⟩:=nm_ (readC (nxF (b.drop 4)).2.1);rw[<-v]at h r t ⊢;rw[<-t]at i n;obtain⟨m,hm⟩:=nm_ ((nxF (b.drop 4)).2.2.1);rw[<-hm]at h i n p ⊢;by_cases g:(trR (colsB c) b b.length (4+m) 0 0 []).2.2.2=0
    .rw[Aa (fun h=>h g)];dsimp only;obtain⟨w,y,z,A,C⟩:=zzC (cs:=colsB c) b.length (4+m) 0 0 [] (by omega) (by omega) g;refine⟨by rw[zcC];exact r,C,w,?_,A,by rw[z];omega⟩;rw[<-y,zcC];unfold hdB;rw[<-i,An,<-B0,A0];have:magicL=b.take 4:=by
      apply Av;intro u;exact j (.inr (fun e=>u e.symm))
     rw[this,A0]
    rw[Ab g]at h;exact absurd h g
   rw[Ab f]at h;exact absurd h f
  rw[Ab l]at h;cases h
 rw[Ab d]at h;exact absurd h d
end
section
open _root_.Go.Proofs.Tryz Go.Shelf
abbrev EntV:=Value×EntB
def enV(t:EntV):List Value:=[.int .i64 t.2.1,.int .i64 t.2.2.1,t.1]
def zaV:Elt:=⟨53,123,3,40,.agg #[.int .i64 0,.int .i64 0,.slice none 0 0]⟩
def zbP:zaV.Ok:=⟨underlying53,by kernel_rfl,by kernel_rfl,rfl,by decide⟩
abbrev CurB:=Int×Int×Int
def cuV(t:CurB):List Value:=[.int .i64 t.1,.int .i64 t.2.1,.int .u32 t.2.2]
def zbQ:Elt:=⟨99,104,3,24,.agg #[.int .i64 0,.int .i64 0,.int .u32 0]⟩
def zeJ:zbQ.Ok:=⟨underlying99,by kernel_rfl,by kernel_rfl,rfl,by decide⟩
def RdZ(w:World)(v:Value)(es:List EntB):Prop:=∃ts:List EntV,es=ts.map (·.2)/\RdG zaV w v (ts.map enV)/\∀t∈ts,RdP w t.1 t.2.2.2
def zi4(w:World)(v:Value)(cs:List ColB)(es:List EntB):Prop:=∃sv ev,v=.agg #[sv,ev]/\RdC w sv cs/\RdZ w ev es
section
variable{w w':World}{v:Value}{es:List EntB}{cs:List ColB}{base:Nat}{ps:List PairB}
def RdZ.small(h:RdZ w v es):es.length<=140737488351232:=by
 obtain⟨ts,rfl,h,_⟩:=h;have:=h.small;simpa using this
def RdZ.later(h:RdZ w v es){B:Nat}(d:Below B w w')(c:w.heap.size<=B):RdZ w' v es:=by
 obtain⟨ts,e,h,g⟩:=h;exact⟨ts,e,h.later zbP d c,fun t i=>(g t i).later d c⟩
def RdZ.nil(w:World):RdZ w (.slice none 0 0) []:=⟨[],rfl,RdG.nil zaV w,by simp⟩
def RdZ.lit(h:RdZ w v es):∃c n cap,v=.slice c n cap:=by
 obtain⟨ts,e,h,_⟩:=h;obtain⟨c,cap,e,_⟩:=RdG.shape h;exact⟨_,_,_,e⟩
def RdZ.len(h:RdZ w v es):∀u,(Builtin.len_ #[53] 3 #[v]).run prog u=.ok (.int .i64 (es.length:Int)) u:=by
 obtain⟨ts,rfl,h,_⟩:=h;have:=RdG.len h zbP;rw[Ad]at this ⊢;exact this
def RdZ.get(h:RdZ w v es){i:Nat}(e:i<es.length):∃b o j,(∀u,(Instr.indexAt 53 v (.int .i64 (i:Int))).run prog u=.ok (.pointer (some ⟨b,o,none⟩)) u) /\w.cell? ⟨b,o,none⟩=some (.int .i64 (es.getD i default).1)/\w.cell? ⟨b,o+1,none⟩=some (.int .i64 (es.getD i default).2.1)/\w.cell? ⟨b,o+2,none⟩=some j/\RdP w j (es.getD i default).2.2/\b<w.heap.size:=by
 obtain⟨ts,rfl,h,t⟩:=h;rw[Ad]at e;have d:i<(ts.map enV).length:=by simpa using e
 have g:=RdG.idx h zbP i d;obtain⟨b,o,r,c⟩:=RdG.at h d;rw[r]at g;have l:(ts.map enV).getD i []=enV ts[i]:=by simp[List.getD,e]
 have n:(ts.map (·.2)).getD i default=ts[i].2:=by simp[List.getD,e]
 rw[l]at c;rw[n];exact⟨b,o,ts[i].1,g,c 0 _ rfl,c 1 _ rfl,c 2 _ rfl,t _ (AM _),AI w _ (c 0 _ rfl)⟩
def zB1{w:World}{c:Value}{ps:List PairB}(h:RdP w c ps):c.oneCell'=true:=by
 obtain⟨d,n,cap,rfl⟩:=h.lit12;rfl
def zCG{t:EntV}(h:RdP w t.1 t.2.2.2):∀z∈enV t,z.oneCell'=true:=by
 intro z c;simp[enV]at c;rcases c with rfl|rfl|rfl
 .rfl
 .rfl
 exact zB1 h
end
def Tbox(w:World)(b:Nat)(sv ev:Value):Prop:=w.heap[b]?=some (.cells #[sv,ev] 55 (0,0))
def Tbox.cells{w:World}{b:Nat}{d c:Value}(h:Tbox w b d c):w.cell? ⟨b,0,none⟩=some d/\w.cell? ⟨b,1,none⟩=some c :=
 ⟨Ag _ _ 0 _ _ _ h,Ag _ _ 1 _ _ _ h⟩
variable {cs:List ColB} {es:List EntB} {b:Nat} {d:Value} {w w':World}
def Tbox.later {c:Value}(h:Tbox w b d c)(e:Lz w w'):Tbox w' b d c :=
 (e.block b (Aj.1 h).1).trans h
def Tbox.grown{E:Elt} {base:Nat} {j i:Value}{vs:List (List Value)}(h:Tbox w b j i)(u:OwnG E w base d vs)(n:E.T≠55)(t:w.grownBy w' d.ownBlock):Tbox w' b j i:=by
 unfold Tbox at h ⊢;rw[t.block b (Aj.1 h).1 (fun e=>?_)]
 .exact h
 rcases u.1.2 with⟨rfl,z⟩|⟨g,cap,l,rfl,r,c,_⟩
 .cases e
 cases e;rw[h]at c;injection c with c
 injection c with _ h3 _
 exact n h3.symm
/- -/
def znH{α:Type}{l:List α}{k:Nat}(h:k<l.length)(d:α):l.getD k d∈l:=by simp[List.getD,h]
def zq5{cs:List ColB}{M:Nat}(c:∀x,(entW cs x).1.length<=M):∀(es:List EntB)(n:Nat)(s:Int)(v:List PairB),(trW cs n s v es).1.length<=es.length*M
 | [],n,s,v=>by rw[trW];simp
 | x::t,n,s,v=>by
  have ih:=zq5 c t (n+1) (apN cs s v x) (apV cs s v x);have d:=c x;generalize hT:trW cs (n+1) (apN cs s v x) (apV cs s v x) t=T at ih;rw[trW,hT,Ap,De,Nat.one_mul];generalize t.length*M=q at *;split
  ·simp
  .split
   ·simp
   .split
    ·simp
    .split
     ·omega
     .dsimp only;rw[Ae];omega
def ziC(es:List EntB)(n:Nat)(s:Int)(v:List PairB):(trW cs n s v es).1.length<=es.length*1048591:=zq5 (entW_small cs) es n s v
def zcJ{c:List Col}(h:errS c=0):(hdB c).length<=1048600:=by
 have d:=zbO h;have e:=zh1 0 d;rw[zbJ];omega
section
variable{cs:List ColB}{es:List EntB}{k:Nat}
def zz9(c:k<es.length)(h:(trW cs 0 0 [] (es.take k)).2.2.2.2=0){T:Bs×Int×List PairB×Nat×Nat}(d:trW cs k (trW cs 0 0 [] (es.take k)).2.1 (trW cs 0 0 [] (es.take k)).2.2.1 (es.getD k default::es.drop (k+1))=T) :trW cs 0 0 [] es=if T.2.2.2.2≠0 then T else((trW cs 0 0 [] (es.take k)).1++T.1,T.2):=by
 have e:=zoE (es.take k) (es.drop k) 0 0 [] h;have i:(es.take k).length=k:=by rw[Aq];omega
 have g:es.drop k=es.getD k default::es.drop (k+1):=by
  rw[Bf c];simp[List.getD,c]
 rw[A0,i,A5,g,d]at e;exact e
def zz6(e:k<es.length)(h:(trW cs 0 0 [] (es.take k)).2.2.2.2=0)(c:4096<=k):trW cs 0 0 [] es=([],0,[],k,13):=by
 have d:trW cs k (trW cs 0 0 [] (es.take k)).2.1 (trW cs 0 0 [] (es.take k)).2.2.1 (es.getD k default::es.drop (k+1))=([],0,[],k,13):=by rw[trW,Ab c]
 rw[zz9 e h d,Ab (by simp)]
def zzA(g:k<es.length)(h:(trW cs 0 0 [] (es.take k)).2.2.2.2=0)(i:k<4096){E:Nat}(d:apE cs (trW cs 0 0 [] (es.take k)).2.1 (trW cs 0 0 [] (es.take k)).2.2.1 (es.getD k default)=E)(c:E≠0):trW cs 0 0 [] es=([],0,[],k,E):=by
 have e:trW cs k (trW cs 0 0 [] (es.take k)).2.1 (trW cs 0 0 [] (es.take k)).2.2.1 (es.getD k default::es.drop (k+1))=([],0,[],k,E):=by
  rw[trW,Aa (by omega),Ab (by rw[d];exact c),d]
 rw[zz9 g h e,Ab c]
def zz5(i:k<es.length)(h:(trW cs 0 0 [] (es.take k)).2.2.2.2=0)(j:k<4096)(e:apE cs (trW cs 0 0 [] (es.take k)).2.1 (trW cs 0 0 [] (es.take k)).2.2.1 (es.getD k default)=0){E:Nat}(d:(entW cs (es.getD k default)).2=E)(c:E≠0) :trW cs 0 0 [] es=([],0,[],k,E):=by
 have g:trW cs k (trW cs 0 0 [] (es.take k)).2.1 (trW cs 0 0 [] (es.take k)).2.2.1 (es.getD k default::es.drop (k+1))=([],0,[],k,E):=by
  rw[trW,Aa (by omega),Aa (fun h=>h e),Ab (by rw[d];exact c),d]
 rw[zz9 i h g,Ab c]
def zIB(r:k<es.length)(h:(trW cs 0 0 [] (es.take k)).2.2.2.2=0)(g:k<4096)(j:apE cs (trW cs 0 0 [] (es.take k)).2.1 (trW cs 0 0 [] (es.take k)).2.2.1 (es.getD k default)=0)(l:(entW cs (es.getD k default)).2=0) :(trW cs 0 0 [] (es.take (k+1))).2.2.2.2=0/\(trW cs 0 0 [] (es.take (k+1))).1=(trW cs 0 0 [] (es.take k)).1++(entW cs (es.getD k default)).1 /\(trW cs 0 0 [] (es.take (k+1))).2.1=apN cs (trW cs 0 0 [] (es.take k)).2.1 (trW cs 0 0 [] (es.take k)).2.2.1 (es.getD k default) /\(trW cs 0 0 [] (es.take (k+1))).2.2.1=apV cs (trW cs 0 0 [] (es.take k)).2.1 (trW cs 0 0 [] (es.take k)).2.2.1 (es.getD k default):=by
 have e:=zoE (es.take k) [es.getD k default] 0 0 [] h;have u:(es.take k).length=k:=by rw[Aq];omega
 have c:∀n s v,trW cs n s v []=([],s,v,n,0):=fun n s v=>by rw[trW]
 have d:=zjZ (cs:=cs) (i:=k) (s:=(trW cs 0 0 [] (es.take k)).2.1) (v:=(trW cs 0 0 [] (es.take k)).2.2.1) (x:=es.getD k default) (t:=[]) g j l (by rw[c]);rw[c]at d;rw[<-zaH r default,u,A5,d,Aa (by simp)]at e;rw[e];refine⟨rfl,?_,rfl,rfl⟩;dsimp only;rw[AV]
def zq4(i:∀x∈es,EnO x)(t:k<=es.length)(h:(trW cs 0 0 [] (es.take k)).2.2.2.2=0)(j:k<=140737488351232):PSO (trW cs 0 0 [] (es.take k)).2.2.1/\inW (trW cs 0 0 [] (es.take k)).2.1/\(trW cs 0 0 [] (es.take k)).2.2.2.1=k:=by
 have l:(es.take k).length=k:=by rw[Aq];omega
 obtain⟨c,r,d⟩:=zgP (es.take k) 0 0 [] [] (fun x n=>i x (A9 n)) h Fold.nil;refine⟨?_,?_,by rw[d,l];omega⟩
 .rcases c.2 with⟨_,e⟩|⟨g,_⟩
  .rw[e];exact fun p hp=>absurd hp (by simp)
  exact g.1
 have:ziP (es.take k)<=(es.take k).length:=Ca _ _;unfold inW;omega
end
section
variable{cs:List ColB}{es:List EntB}{k:Nat}{A:Bs}{s:Int}{v:List PairB}{x:EntB}
def zv8(d:trW cs 0 0 [] (es.take k)=(A,s,v,k,0))(e:k<es.length)(c:4096<=k):trW cs 0 0 [] es=([],0,[],k,13):=zz6 e (by rw[d]) c
def zvA(c:trW cs 0 0 [] (es.take k)=(A,s,v,k,0))(g:k<es.length)(d:k<4096)(h:x=es.getD k default)(e:apE cs s v x≠0):trW cs 0 0 [] es=([],0,[],k,apE cs s v x):=by
 subst h;exact zzA g (by rw[c]) d (by rw[c]) e
def zv7(c:trW cs 0 0 [] (es.take k)=(A,s,v,k,0))(h:k<es.length)(d:k<4096)(i:x=es.getD k default)(e:apE cs s v x=0)(g:(entW cs x).2≠0):trW cs 0 0 [] es=([],0,[],k,(entW cs x).2):=by
 subst i;exact zz5 h (by rw[c]) d (by rw[c];exact e) rfl g
def ztD(z:∀x∈es,EnO x)(l:trW cs 0 0 [] (es.take k)=(A,s,v,k,0))(C:k<es.length)(r:k<4096)(D:x=es.getD k default)(t:apE cs s v x=0)(u:(entW cs x).2=0) :trW cs 0 0 [] (es.take (k+1))=(A++(entW cs x).1,apN cs s v x,apV cs s v x,k+1,0):=by
 subst D;obtain⟨g,h,i,j⟩:=zIB C (by rw[l]) r (by rw[l];exact t) u;have n:=(zq4 z (k:=k+1) (by omega) g (by omega)).2.2;rw[l]at h i j;generalize trW cs 0 0 [] (es.take (k+1))=T at *;obtain⟨a,b,c,d,e⟩:=T;dsimp only at g h i j n;rw[g,h,i,j,n]
def zv9(i:∀x∈es,EnO x)(e:trW cs 0 0 [] (es.take k)=(A,s,v,k,0))(g:k<=es.length)(d:k<=140737488351232):PSO v/\inW s/\A.length<=k*1048591:=by
 have h:=zq4 (cs:=cs) i g (by rw[e]) d;have c:=ziC (cs:=cs) (es.take k) 0 0 [];rw[e]at h c;rw[Aq,A7 g]at c;exact⟨h.1,h.2.1,c⟩
end
/- -/
def zz8{cs:List ColB}:∀(es:List EntB)(n:Nat)(s:Int)(v:List PairB),(trW cs n s v es).2.2.2.2≠0->(trW cs n s v es).1=[]/\n<=(trW cs n s v es).2.2.2.1/\(trW cs n s v es).2.2.2.1<=n+es.length/\(trW cs n s v es).2.1=0/\(trW cs n s v es).2.2.1=[]
 | [],n,s,v,h=>by rw[trW]at h;exact absurd rfl h
 | x::t,n,s,v,h=>by
  have ih:=zz8 (cs:=cs) t (n+1) (apN cs s v x) (apV cs s v x);generalize hT:trW cs (n+1) (apN cs s v x) (apV cs s v x) t=T at ih;rw[trW,hT]at h ⊢;rw[Ap];split
  ·exact⟨rfl,l_,by dsimp only;omega,rfl,rfl⟩
  .split
   ·exact⟨rfl,l_,by dsimp only;omega,rfl,rfl⟩
   .split
    ·exact⟨rfl,l_,by dsimp only;omega,rfl,rfl⟩
    .split
     ·rename_i h9
      obtain⟨a,b,c,d⟩:=ih h9;exact⟨a,by omega,by omega,d⟩
     .rename_i g1 g2 g3 h9
      rw[Aa g1,Aa g2,Aa g3,Aa h9]at h;exact absurd h h9
def zGL(h:(trE cs es).2.2.2.2≠0):(trE cs es).1=[]/\(trE cs es).2.2.2.1<=es.length/\(trE cs es).2.1=0/\(trE cs es).2.2.1=[]:=by
 unfold trE at h ⊢;by_cases g:errS (colsL cs)=0
 .rw[Aa (fun h=>h g)]at h ⊢;by_cases e:(trW cs 0 0 [] es).2.2.2.2=0
  .rw[Aa (fun h=>h e)]at h;exact absurd e h
  rw[Ab e];obtain⟨a,b,c,d⟩:=zz8 es 0 0 [] e;exact⟨a,by omega,d⟩
 rw[Ab g];exact⟨rfl,Bg _,rfl,rfl⟩
def zqA(h:(trE cs es).2.2.2.2=0):errS (colsL cs)=0/\(trW cs 0 0 [] es).2.2.2.2=0/\trE cs es=(hdB (colsL cs)++(trW cs 0 0 [] es).1,(trW cs 0 0 [] es).2):=by
 unfold trE at h ⊢;by_cases c:errS (colsL cs)=0
 .rw[Aa (fun h=>h c)]at h ⊢;by_cases d:(trW cs 0 0 [] es).2.2.2.2=0
  .rw[Aa (fun h=>h d)];exact⟨c,d,rfl⟩
  rw[Ab d]at h;exact absurd h d
 rw[Ab c]at h;exact absurd h c
def zzG(c:errS (colsL cs)=0)(d:(trW cs 0 0 [] es).2.2.2.2=0):trE cs es=(hdB (colsL cs)++(trW cs 0 0 [] es).1,(trW cs 0 0 [] es).2):=by
 unfold trE;rw[Aa (fun h=>h c),Aa (fun h=>h d)]
def zDN(d:∀x∈es,EnO x)(h:(trE cs es).2.2.2.2=0) :(trE cs es).2.2.2.1=es.length/\(trD (trE cs es).1).1=cs/\(trD (trE cs es).1).2.1=es/\(trD (trE cs es).1).2.2.2.1=(trE cs es).1.length/\(trD (trE cs es).1).2.2.2.2=0:=by
 obtain⟨g,c,e⟩:=zqA h;have i:=(zgP es 0 0 [] [] d c Fold.nil).2.2;rw[e];rw[ze6 g d c];exact⟨by dsimp only;rw[i];omega,rfl,rfl,rfl,rfl⟩
def zk0{cs:List ColB}{b:Bs}:∀(f at_ n:Nat)(s:Int)(v:List PairB),at_<=b.length->(trR cs b f at_ n s v).2.2.1<=b.length
 | 0,at_,n,s,v,h=>by rw[trR];exact h
 | f+1,at_,n,s,v,h=>by
  rw[trR];split
  ·exact h
  .split
   ·exact h
   .split
    ·exact h
    .rename_i h9
     have c:=(zoW (b:=b.drop at_) (Av h9)).2.1;rw[Ay]at c;split
     ·exact h
     .split
      ·exact h
      .split
       ·exact zk0 f _ _ _ _ (by omega)
       .exact zk0 f _ _ _ _ (by omega)
def zFQ{b:Bs}(h:(trD b).2.2.2.2≠0):(trD b).1=[]/\(trD b).2.1=[]/\(trD b).2.2.2.1<=b.length:=by
 unfold trD at h ⊢;by_cases e:b.length<4\/b.take 4≠magicL
 .rw[Ab e];exact⟨rfl,rfl,Bg _⟩
 rw[Aa e]at h ⊢;have d:4<=b.length:=by omega
 by_cases c:(nxF (b.drop 4)).2.2.2=0
 .rw[Aa (fun h=>h c)]at h ⊢;have j:=(zoW (b:=b.drop 4) c).2.1;rw[Ay]at j;by_cases g:(nxF (b.drop 4)).1=0
  .rw[Aa (fun h=>h g)]at h ⊢;by_cases i:readE (nxF (b.drop 4)).2.1=0
   .rw[Aa (fun h=>h i)]at h ⊢;split
    ·exact⟨rfl,rfl,zk0 _ _ _ _ _ (by omega)⟩
    rename_i h9;rw[Aa h9]at h;exact absurd h h9
   rw[Ab i];exact⟨rfl,rfl,d⟩
  rw[Ab g];exact⟨rfl,rfl,d⟩
 rw[Ab c];exact⟨rfl,rfl,d⟩
def zzI{b:Bs}(h:(trD b).2.2.2.2=0):(∀x∈(trD b).2.1,EnO x)/\(trE (trD b).1 (trD b).2.1).1=b/\(trE (trD b).1 (trD b).2.1).2.2.2.1=(trD b).2.1.length/\(trE (trD b).1 (trD b).2.1).2.2.2.2=0/\(trD b).2.2.2.1=b.length:=by
 obtain⟨d,e,c,g,i,j⟩:=zoH h;rw[zzG d c];exact⟨e,g.symm,j,c,i⟩
/- -/
def zFI{s:Int}{v:List PairB}{x:EntB}(h:apE cs s v x=0)(i:PSO v)(g:EnO x):PSO (apV cs s v x)/\inW (apN cs s v x)/\apN cs s v x=x.2.1:=by
 have e:apN cs s v x=x.2.1:=by unfold apN;rw[Ab h]
 obtain⟨l,t,n,r⟩:=zGF h;obtain⟨_,_,_,d⟩:=zb8.1 n;refine⟨?_,by rw[e];exact g.2.1,e⟩;rcases r with⟨_,_,j,_,c⟩|⟨_,_,_,_,c⟩
 .rw[c];exact(zFS ⟨i,l⟩ ⟨g.2.2,d⟩ j).1.1
 rw[c];exact i
def trJ(es:List EntB)(ms:List (Int×Nat))(T:List EntB×List (Int×Nat)×Nat×Nat):List EntB×List (Int×Nat)×Nat×Nat :=
 if T.2.2.2≠0 then([],[],T.2.2)else(es++T.1,ms++T.2.1,T.2.2)
def trT(cs:List ColB)(a0:Nat)(J:List EntB×List (Int×Nat)×Nat×Nat):List ColB×List EntB×List (Int×Nat)×Nat×Nat :=
 if J.2.2.2≠0 then([],[],[],J.2.2)else(cs,J.1,(0,a0)::J.2.1,J.2.2)
section
variable{cs:List ColB}{b p:Bs}{es:List EntB}{ms:List (Int×Nat)}{f a k K m y:Nat}{s:Int}{v:List PairB}
def zzF(h:b.length<=a):trJ es ms (trR cs b f a k s v)=(es,ms,a,0):=by
 rw[zhI f h];unfold trJ;rw[Aa (by simp)];simp
def zq6(e:a<b.length)(c:b.length<=a+f)(d:4096<=k):trJ es ms (trR cs b f a k s v)=([],[],a,13):=by
 match f,c with
 | 0,c=>omega
 | f+1,c=>rw[trR,Aa (by omega),Ab d];rfl
def zq7(g:a<b.length)(c:b.length<=a+f)(h:k<4096)(e:nxF (b.drop a)=(K,p,m,y))(d:y≠0):trJ es ms (trR cs b f a k s v)=([],[],a,y):=by
 match f,c with
 | 0,c=>omega
 | f+1,c=>
  rw[trR,Aa (by omega),Aa (by omega),e];dsimp only;rw[Ab d];unfold trJ;exact Ab d
def zq8(h:a<b.length)(c:b.length<=a+f)(i:k<4096)(g:nxF (b.drop a)=(K,p,m,0)){E:Nat}(e:E=entRE cs (K:Int) p)(d:E≠0):trJ es ms (trR cs b f a k s v)=([],[],a,E):=by
 match f,c with
 | 0,c=>omega
 | f+1,c=>
  rw[trR,Aa (by omega),Aa (by omega),g];dsimp only;rw[Aa (by simp),<-e,Ab d];unfold trJ;exact Ab d
def zq9(j:a<b.length)(c:b.length<=a+f)(l:k<4096)(i:nxF (b.drop a)=(K,p,m,0))(g:entRE cs (K:Int) p=0){E:Nat}(e:E=apE cs s v (entX cs K p))(d:E≠0):trJ es ms (trR cs b f a k s v)=([],[],a,E):=by
 match f,c with
 | 0,c=>omega
 | f+1,c=>
  rw[trR,Aa (by omega),Aa (by omega),i];dsimp only;rw[Aa (by simp),Aa (fun h=>h g),<-e,Ab d];unfold trJ;exact Ab d
def zDM(u:a<b.length)(d:b.length<=a+f)(z:k<4096)(e:nxF (b.drop a)=(K,p,m,0))(l:entRE cs (K:Int) p=0)(j:apE cs s v (entX cs K p)=0) :∃g,b.length<=a+m+g/\trJ es ms (trR cs b f a k s v)=trJ (es++[entX cs K p]) (ms++[(apN cs s v (entX cs K p),a+m)]) (trR cs b g (a+m) (k+1) (apN cs s v (entX cs K p)) (apV cs s v (entX cs K p))):=by
 have i:=zd0 (b:=b.drop a) (by rw[e]);rw[e]at i;obtain⟨_,r,t,_,_⟩:=i;dsimp only at r t;have hp:=zb5 K p
 match f,d with
 | 0,d=>omega
 | f+1,d=>
  refine⟨f,by omega,?_⟩;rw[trR,Aa (by omega),Aa (by omega),e];dsimp only;rw[Aa (by simp),Aa (fun h=>h l),Aa (fun h=>h j)];obtain⟨T,n⟩:=nm_ (trR cs b f (a+m) (k+1) (apN cs s v (entX cs K p)) (apV cs s v (entX cs K p)));rw[<-n];by_cases c:T.2.2.2=0
  .rw[Aa (fun h=>h c)];unfold trJ;dsimp only;rw[Aa (fun h=>h c),Aa (fun h=>h c)];simp
  rw[Ab c];unfold trJ;dsimp only;rw[Ab c,Ab c]
def zgQ(d:nxF (b.drop a)=(K,p,m,0))(j:a<b.length):a+m<=b.length/\1<=m/\K<=2/\p.length<=1048576:=by
 have c:=zd0 (b:=b.drop a) (by rw[d]);rw[d]at c;obtain⟨_,i,e,g,h⟩:=c;dsimp only at i e g h;have hp:=zb5 K p;rw[Ay]at e;exact⟨by omega,by omega,g,h⟩
def zoJ(h:b.length<4\/b.take 4≠magicL):trD b=([],[],[],0,6):=by unfold trD;rw[Ab h]
def zqB(h:¬(b.length<4\/b.take 4≠magicL))(c:nxF (b.drop 4)=(K,p,m,y))(d:y≠0):trD b=([],[],[],4,y):=by
 unfold trD;rw[Aa h,c];dsimp only;rw[Ab d]
def zvF(h:¬(b.length<4\/b.take 4≠magicL))(c:nxF (b.drop 4)=(K,p,m,0))(hK:K≠0):trD b=([],[],[],4,10):=by
 unfold trD;rw[Aa h,c];dsimp only;rw[Aa (by simp),Ab hK]
def zmR(h:¬(b.length<4\/b.take 4≠magicL))(c:nxF (b.drop 4)=(0,p,m,0))(hp:readE p≠0):trD b=([],[],[],4,readE p):=by
 unfold trD;rw[Aa h,c];dsimp only;rw[Aa (by simp),Aa (by simp),Ab hp]
def zvE(h:¬(b.length<4\/b.take 4≠magicL))(e:nxF (b.drop 4)=(0,p,m,0))(hp:readE p=0) :trD b=trT (colsB (readC p)) (4+m) (trJ [] [] (trR (colsB (readC p)) b b.length (4+m) 0 0 [])):=by
 unfold trD;rw[Aa h,e];dsimp only;rw[Aa (by simp),Aa (by simp),Aa (fun h=>h hp)];obtain⟨T,d⟩:=nm_ (trR (colsB (readC p)) b b.length (4+m) 0 0 []);rw[<-d];unfold trT trJ;by_cases c:T.2.2.2=0
 .simp[c]
 simp[c]
end
def zCD{K:Nat}{p:Bs}{ps:List PairB}(c:PSO ps)(h:psL ps=(entRV cs (K:Int) p).2.2):entX cs K p=((entRV cs (K:Int) p).1,(entRV cs (K:Int) p).2.1,ps):=by
 unfold entX;rw[<-h,zAX ps]
end
section
open _root_.Go.Proofs.Tryz
variable {d:Array Oper} {E F:Elt} {Q:Exit->Act->World->Prop} {ms:List (Int×Nat)} {us vs:List (List Value)} {cs:List ColB} {es:List EntB} {J:List EntB×List (Int×Nat)×Nat×Nat} {ts:List EntV} {rest:List Oper} {a b base q:Nat} {s x:Operand} {c:Option Tmp} {pos:String} {ev sv u v:Value} {w w':World}
def OwnG.own_type(h:OwnG E w base v vs)(c:v.ownBlock=some q):∃a,w.heap[q]?=some (.cells a E.T (0,0)):=by
 rcases h.1.2 with⟨rfl,e⟩|⟨g,cap,a,rfl,d,b,_⟩
 .cases c
 cases c;exact⟨_,b⟩
/- -/
def natE:Elt:=⟨161,3,1,8,.int .i64 0⟩
def zIR:natE.Ok:=⟨underlying161,by kernel_rfl,by kernel_rfl,rfl,by decide⟩
def natV(x:Nat):List Value:=[.int .i64 (x:Int)]
def OwnN(w:World)(base:Nat)(v:Value)(l:List Nat):Prop:=OwnG natE w base v (l.map natV)
section
variable{w w':World}{v:Value}{l:List Nat}{base:Nat}
end
/- -/
open Go.Shelf
def OffS(w:World)(v:Value)(ps:List PairB)(Q:Nat->Prop):Prop :=
 ∃ts:List TriB,ps=ts.map (·.2)/\RdG pairE w v (ts.map triV)/\(∀t∈ts,RdE w t.1 t.2.1)/\(∀i,i<ts.length->¬Q (adr v (i*2)).block)/\∀t∈ts,∀i,i<t.2.1.length->¬Q (adr t.1 (i*2)).block
section
variable{w w':World}{v:Value}{ps:List PairB}{Q Q':Nat->Prop}
def OffS.rd(h:OffS w v ps Q):RdP w v ps:=by
 obtain⟨ts,e,a,b,_⟩:=h;exact⟨ts,e,a,b⟩
def OffS.keep(h:OffS w v ps Q)(m:∀j,j<w.heap.size->¬Q j->w'.heap[j]?=w.heap[j]?):OffS w' v ps Q:=by
 obtain⟨ts,e,d,f,g,k⟩:=h;refine⟨ts,e,RdG.same d fun i b=>?_,fun t c=>RdG.same (f t c) fun i b=>?_,g,k⟩
 .have a:i<ts.length:=by simpa using b
  exact m _ (RdG.block d zaX b) (g i a)
 have a:i<t.2.1.length:=by simpa using b
 exact m _ (RdG.block (f t c) zd5 b) (k t c i a)
def OffS.more(h:OffS w v ps Q)(d:∀j,j<w.heap.size->¬Q j->¬Q' j):OffS w v ps Q':=by
 obtain⟨ts,e,b,c,g,k⟩:=h;refine⟨ts,e,b,c,fun i a=>d _ (RdG.block b zaX (i:=i) (by simpa using a)) (g i a),fun t f i a=>d _ (RdG.block (c t f) zd5 (i:=i) (by simpa using a)) (k t f i a)⟩
def NewP.offS{base:Nat}(h:NewP w base v ps)(d:∀j,base<=j->¬Q j):OffS w v ps Q:=by
 obtain⟨ts,e,f,g,c⟩:=h;exact⟨ts,e,f,fun t b=>(c t b).1,fun i a=>d _ (g i a),fun t b i a=>d _ ((c t b).2 i a)⟩
def OffS.later(h:OffS w v ps Q)(a:Lz w w'):OffS w' v ps Q:=h.keep fun j b _=>a.block j b
def OffS.nil(w:World)(Q:Nat->Prop):OffS w (.slice none 0 0) [] Q:=⟨[],rfl,RdG.nil pairE w,by simp,by simp,by simp⟩
end
def OwnG.lit13(h:OwnG E w base v vs):∃a n cap,v=.slice a n cap:=by
 rcases h.1.2 with⟨rfl,_⟩|⟨g,cap,b,rfl,_⟩
 .exact⟨_,_,_,rfl⟩
 exact⟨_,_,_,rfl⟩
def OwnG.stay{S:Nat->Prop}(h:OwnG E w base v vs)(d:Only S w w')(f:∀q,v.ownBlock=some q->¬S q):OwnG E w' base v vs:=by
 refine⟨⟨h.1.1,?_⟩,h.2⟩;rcases h.1.2 with c|⟨g,cap,a,rfl,b,e,r⟩
 .exact .inl c
 exact .inr ⟨g,cap,a,rfl,b,d.keep e (f g rfl),r⟩
def OwnG.notOf{a:Array Value}{T:TypeId}{f:Nat×Nat}(h:OwnG E w base v vs)(g:w.heap[q]?=some (.cells a T f))(d:E.T≠T):v.ownBlock≠some q:=fun e=>by
 obtain⟨c,b⟩:=h.own_type e;rw[g]at b;injection b with b;injection b with _ h3 _;exact d h3.symm
def OwnG.apart(h:OwnG E w a v vs)(k:OwnG F w b u us)(d:E.T≠F.T)(g:v.ownBlock=some q):u.ownBlock≠some q:=fun e=>by
 obtain⟨c,f⟩:=h.own_type g;exact k.notOf f (fun e=>d e.symm) e
def zi5(N:Nat)(ev xv:Value)(q:Nat):Prop:=q<N\/ev.ownBlock=some q\/xv.ownBlock=some q
def Held(w:World)(vv:Value)(view:List PairB)(ts:List EntV)(Q:Nat->Prop):Prop:=OffS w vv view Q/\∀t∈ts,OffS w t.1 t.2.2.2 Q
section
variable{w w':World}{vv ev xv:Value}{view:List PairB}{ts:List EntV}{Q Q':Nat->Prop}{N:Nat}
def Held.keep(h:Held w vv view ts Q)(a:∀j,j<w.heap.size->¬Q j->w'.heap[j]?=w.heap[j]?):Held w' vv view ts Q:=⟨h.1.keep a,fun t b=>(h.2 t b).keep a⟩
def Held.more(h:Held w vv view ts Q)(a:∀j,j<w.heap.size->¬Q j->¬Q' j):Held w vv view ts Q':=⟨h.1.more a,fun t b=>(h.2 t b).more a⟩
def Held.later(h:Held w vv view ts Q)(a:Lz w w'):Held w' vv view ts Q:=h.keep fun j b _=>a.block j b
def Held.only{S:Nat->Prop}(h:Held w vv view ts Q)(a:Only S w w')(b:∀j,S j->Q j):Held w' vv view ts Q:=h.keep fun j c d=>a.block j c fun e=>d (b j e)
def Held.growE{b:Value}(h:Held w vv view ts (zi5 N ev xv))(g:w.grownBy w' ev.ownBlock)(hp:Place w ev b):Held w' vv view ts (zi5 N b xv):=by
 have f:Held w vv view ts (fun q=>zi5 N ev xv q\/b.ownBlock=some q):=h.more fun j d c a=>by
  rcases a with a|a
  .exact c a
  rcases hp with e|hp
  .rw[e]at a;exact c (.inr (.inl a))
  have:=hp j a;omega
 refine(f.keep (w':=w') fun j d c=>g.block j d fun e=>c (.inl (.inr (.inl e.symm)))).more fun j d c a=>c ?_;rcases a with a|a|a
 .exact .inl (.inl a)
 .exact .inr a
 exact .inl (.inr (.inr a))
def Held.growX{b:Value}(h:Held w vv view ts (zi5 N ev xv))(g:w.grownBy w' xv.ownBlock)(hp:Place w xv b):Held w' vv view ts (zi5 N ev b):=by
 have f:Held w vv view ts (fun q=>zi5 N ev xv q\/b.ownBlock=some q):=h.more fun j d c a=>by
  rcases a with a|a
  .exact c a
  rcases hp with e|hp
  .rw[e]at a;exact c (.inr (.inr a))
  have:=hp j a;omega
 refine(f.keep (w':=w') fun j d c=>g.block j d fun e=>c (.inl (.inr (.inr e.symm)))).more fun j d c a=>c ?_;rcases a with a|a|a
 .exact .inl (.inl a)
 .exact .inl (.inr (.inl a))
 exact .inr a
def NewP.heldQ{v:Value}{ps:List PairB}{base:Nat}(h:NewP w' base v ps)(d:N<=base)(b:∀q,ev.ownBlock=some q->q<base)(c:∀q,xv.ownBlock=some q->q<base):OffS w' v ps (zi5 N ev xv) :=
 h.offS fun j e a=>by
  rcases a with a|a|a
  .omega
  .have:=b j a;omega
  .have:=c j a;omega
end
def Held.entries {vv:Value}{view:List PairB}{Q:Nat->Prop}(h:Held w vv view ts Q)(a:OwnG zaV w base ev (ts.map enV))(b:ts.length<=140737488351232):RdZ w ev (ts.map (·.2)) :=
 ⟨ts,rfl,a.rd (by simpa using b),fun t c=>(h.2 t c).rd⟩
def zi8{a:Act}{M:TypeId}{k:Array Edge}(base:Nat)(sv:Value)(I:a.eval s=sv)(G:OwnG zaV w base sv (ts.map enV))(g:Nat)(i:Value)(y:EntB)(J:a.eval x=.slice (some ⟨g,0,none⟩) 1 1)(C:w.heap[g]?=some (.cells #[.int .i64 y.1,.int .i64 y.2.1,i] 123 (0,0)))(H:RdP w i y.2.2)(E:(ts.length+1)*40<=140737488355328)(b:base<=w.heap.size)(B:Nat)(n:World)(A:Below B n w)(m:B<=base)(h:∀f w',OwnG zaV w' base f ((ts++[(i,y)]).map enV)->Below B n w'->w.grownBy w' sv.ownBlock->Place w sv f->wpList prog d Q rest (a.put c f) w') :wpList prog d Q (⟨c,.call ⟨.builtin .append,#[s,x],#[53,53]⟩,M,pos,k,none⟩::rest) a w:=by
 refine zbH zbP base sv I G _ J (zg5 zbP (enV (i,y)) rfl ⟨g,0,none⟩ ⟨g,0,rfl⟩ fun j z D=>?_) ?_ (by simp;exact E) (by simp;omega) b B n A m (fun f w' p r t u=>h f w' (by rw[AC];exact p) r t u)
 .have e:Addr.add ⟨g,0,none⟩ j=⟨g,j,none⟩:=by simp only[Addr.add];split<;>simp_all
  rw[e,Ag _ _ _ _ _ _ C];simpa[enV]using D
 intro z L;rw[AH.1 L];exact zCG H
def zo9{l:List Nat}{a:Act}{L:TypeId}{i:Array Edge}(base:Nat)(sv:Value)(H:a.eval s=sv)(G:OwnN w base sv l)(g:Nat)(n:Nat)(I:a.eval x=.slice (some ⟨g,0,none⟩) 1 1)(D:w.heap[g]?=some (.cells #[.int .i64 (n:Int)] 3 (0,0)))(M:l.length<=1000000000)(b:base<=w.heap.size)(B:Nat)(p:World)(C:Below B p w)(k:B<=base)(h:∀f w',OwnN w' base f (l++[n])->Below B p w'->w.grownBy w' sv.ownBlock->Place w sv f->wpList prog d Q rest (a.put c f) w') :wpList prog d Q (⟨c,.call ⟨.builtin .append,#[s,x],#[161,161]⟩,L,pos,i,none⟩::rest) a w:=by
 refine zbH zIR base sv H G _ I (zg5 zIR (natV n) rfl ⟨g,0,none⟩ ⟨g,0,rfl⟩ fun j z E=>?_) ?_ (by simp[natE];omega) (by simp;omega) b B p C k (fun f w' r t y A=>h f w' (by unfold OwnN;rw[AC];exact r) t y A)
 .have e:Addr.add ⟨g,0,none⟩ j=⟨g,j,none⟩:=by simp only[Addr.add];split<;>simp_all
  rw[e,Ag _ _ _ _ _ _ D];simpa[natV]using E
 intro z J u m;rw[AH.1 J]at m;simp[natV]at m;subst m;rfl
def zG7{a:List CurB}(h:RdG zbQ w v (a.map cuV)){i:Nat}(e:i<a.length):∃b o,(∀u,(Instr.indexAt 99 v (.int .i64 (i:Int))).run prog u=.ok (.pointer (some ⟨b,o,none⟩)) u) /\w.cell? ⟨b,o,none⟩=some (.int .i64 (a.getD i default).1)/\w.cell? ⟨b,o+1,none⟩=some (.int .i64 (a.getD i default).2.1)/\w.cell? ⟨b,o+2,none⟩=some (.int .u32 (a.getD i default).2.2):=by
 have c:i<(a.map cuV).length:=by simpa using e
 have f:=RdG.idx h zeJ i c;obtain⟨b,o,j,d⟩:=RdG.at h c;rw[j]at f;have g:(a.map cuV).getD i []=cuV (a.getD i default):=by simp[List.getD,e]
 rw[g]at d;exact⟨b,o,f,d 0 _ rfl,d 1 _ rfl,d 2 _ rfl⟩
def zHP{a:List CurB}(h:RdG zbQ w v (a.map cuV)):∀u,(Builtin.len_ #[99] 3 #[v]).run prog u=.ok (.int .i64 (a.length:Int)) u:=by
 have:=RdG.len h zeJ;rw[Ad]at this;exact this
/- -/
def ziD {x y:Nat}(h:J=([],[],x,y))(b:y≠0):trT cs a J=([],[],[],x,y):=by
 subst h;unfold trT;exact Ab b
def zzB(h:J=(es,ms,a,0)):trT cs b J=(cs,es,(0,b)::ms,a,0):=by
 subst h;unfold trT;exact Aa (by simp)
def Tbox.set(h:Tbox w b sv ev)(u:Value):Tbox (w.setCell ⟨b,1,none⟩ u) b sv u:=by
 have:=block_setCell (k:=1) h u;unfold Tbox;simpa using this
def Tbox.both(h:Tbox w b sv ev)(u1 u2:Value):Tbox ((w.setCell ⟨b,0,none⟩ u1).setCell ⟨b,1,none⟩ u2) b u1 u2:=by
 have:=block_setCell (k:=1) (block_setCell (k:=0) h u1) u2;unfold Tbox;simpa using this
def Tbox.free(h:Tbox w b sv ev)(i:Nat):w.frozen? ⟨b,i,none⟩=false:=At _ _ _ _ _ h
def Tbox.lt(h:Tbox w b sv ev):b<w.heap.size:=(Aj.1 h).1
def OwnG.beside(h:OwnG E w a v vs)(k:OwnG F w b u us)(c:E.T≠F.T)(d:w.grownBy w' u.ownBlock):OwnG E w' a v vs :=
 h.grown d fun q f e=>h.apart k c f e.symm
structure Loop13(b:Bs)(cs:List ColB)(a0:Nat)(T0:List EntB×List (Int×Nat)×Nat×Nat)(es:List EntB)(ms:List (Int×Nat))(f a k:Nat)(s:Int)(v:List PairB):Prop where
 run:trJ [] [] T0=trJ es ms (trR cs b f a k s v)
 fuel:b.length<=a+f
 len:es.length=k
 marks:ms.map (·.1)=es.map (fun x=>x.2.1)
 pso:PSO v
 inw:inW s
 most:k<=4096
def Loop13.next{b p:Bs}{e:Nat}{d:List EntB×List (Int×Nat)×Nat×Nat} {f k K m:Nat}{s:Int}{v:List PairB}(h:Loop13 b cs e d es ms f a k s v)(j:a<b.length)(A:k<4096)(n:nxF (b.drop a)=(K,p,m,0))(i:entRE cs (K:Int) p=0)(g:apE cs s v (entX cs K p)=0) :∃c,Loop13 b cs e d (es++[entX cs K p]) (ms++[(apN cs s v (entX cs K p),a+m)]) c (a+m) (k+1) (apN cs s v (entX cs K p)) (apV cs s v (entX cs K p)):=by
 obtain⟨c,r,t⟩:=zDM (es:=es) (ms:=ms) j h.fuel A n i g;have z:=(zh6 (zgQ n j).2.2.2 i).1;obtain⟨u,x,y⟩:=zFI g h.pso z;exact⟨c,h.run.trans t,r,by rw[Ae,h.len];rfl,by rw[AC,AC,h.marks];simp[y],u,x,by omega⟩
structure Vars13(F:Elt)(W w:World)(N rb tb:Nat)(sv et ev xv vv:Value)(xs:List (List Value))(v:List PairB)(ts:List EntV):Prop where
 rb:Tbox w rb (.slice none 0 0) (.slice none 0 0)
 tb:Tbox w tb sv et
 ownE:OwnG zaV w W.heap.size ev (ts.map enV)
 ownX:OwnG F w W.heap.size xv xs
 held:Held w vv v ts (zi5 N ev xv)
 top:N<=w.heap.size
 below:Lz W w
def zuY(F:Elt)(w:World)(j:Nat):Prop:=∃a T f,w.heap[j]?=some (.cells a T f)/\zaV.T≠T/\F.T≠T
section
variable{F:Elt}{W w w':World}{N rb tb:Nat}{sv et ev xv vv:Value}{xs:List (List Value)}{v:List PairB}{ts:List EntV}
def Vars13.later(h:Vars13 F W w N rb tb sv et ev xv vv xs v ts)(a:Lz w w'):Vars13 F W w' N rb tb sv et ev xv vv xs v ts :=
 ⟨h.rb.later a,h.tb.later a,h.ownE.later a l_,h.ownX.later a l_,h.held.later a,Ar h.top a.size,h.below.trans (a.mono h.below.size)⟩
def Vars13.lts(h:Vars13 F W w N rb tb sv et ev xv vv xs v ts):(∀q,ev.ownBlock=some q->q<w.heap.size)/\∀q,xv.ownBlock=some q->q<w.heap.size :=
 ⟨fun q a=>(World.ownsRow.lt h.ownE.1 q a).2,fun q a=>(World.ownsRow.lt h.ownX.1 q a).2⟩
def Vars13.seen{b:Value}{a:List PairB}(h:Vars13 F W w N rb tb sv et ev xv vv xs v ts)(c:OffS w b a (zi5 N ev xv)):Vars13 F W w N rb tb sv et ev xv b xs a ts :=
 ⟨h.rb,h.tb,h.ownE,h.ownX,⟨c,h.held.2⟩,h.top,h.below⟩
def Vars13.only{S:Nat->Prop}(h:Vars13 F W w N rb tb sv et ev xv vv xs v ts)(b:Only S w w')(c:∀j,S j->j<N/\zuY F w j) :OwnG zaV w' W.heap.size ev (ts.map enV)/\OwnG F w' W.heap.size xv xs/\Held w' vv v ts (zi5 N ev xv)/\N<=w'.heap.size :=
 ⟨h.ownE.stay b (fun q d e=>by obtain⟨_,a,T,f,g,i,_⟩:=c q e;exact h.ownE.notOf g i d),h.ownX.stay b (fun q d e=>by obtain⟨_,a,T,f,g,_,k⟩:=c q e;exact h.ownX.notOf g k d),
  h.held.only b (fun j e=>.inl (c j e).1),Ar h.top b.size⟩
def Vars13.turned{S:Nat->Prop}(h:Vars13 F W w N rb tb sv et ev xv vv xs v ts)(a:Only S w w')(b:∀j,S j->j<N/\zuY F w j)(d:¬S rb)(e:¬S tb)(c:∀j,S j->W.heap.size<=j):Vars13 F W w' N rb tb sv et ev xv vv xs v ts:=by
 obtain⟨f,g,i,k⟩:=h.only a b;exact⟨a.keep h.rb d,a.keep h.tb e,f,g,i,k,h.below.trans (a.toBelow c h.below.size)⟩
def Vars13.pushE{a e:Value}{y:EntB}(h:Vars13 F W w N rb tb sv et ev xv vv xs v ts)(j:F.T≠zaV.T)(c:OffS w e y.2.2 (zi5 N ev xv))(f:OwnG zaV w' W.heap.size a ((ts++[(e,y)]).map enV))(g:Lz W w')(b:w.grownBy w' ev.ownBlock)(i:Place w ev a) :Vars13 F W w' N rb tb sv et a xv vv xs v (ts++[(e,y)]) :=
 ⟨h.rb.grown h.ownE (by decide) b,h.tb.grown h.ownE (by decide) b,f,h.ownX.beside h.ownE j b,
  Held.growE ⟨h.held.1,fun t d=>by
   rcases AD.1 d with d|d
   .exact h.held.2 t d
   .rw[AH.1 d];exact c⟩ b i,Ar h.top b.size,g⟩
def Vars13.pushX{a:Value}{c:List (List Value)}(h:Vars13 F W w N rb tb sv et ev xv vv xs v ts)(j:F.T≠zaV.T)(d:F.T≠55)(f:OwnG F w' W.heap.size a c)(g:Lz W w')(b:w.grownBy w' xv.ownBlock)(i:Place w xv a) :Vars13 F W w' N rb tb sv et ev a vv c v ts :=
 ⟨h.rb.grown h.ownX d b,h.tb.grown h.ownX d b,h.ownE.beside h.ownX (fun e=>j e.symm) b,f,Held.growX h.held b i,Ar h.top b.size,g⟩
def zmT{b:Nat}{u1 u2:Value}(h:Tbox w b u1 u2)(a:F.T≠55):zuY F w b:=⟨_,_,_,h,by decide,a⟩
def Vars13.store(h:Vars13 F W w N rb tb sv et ev xv vv xs v ts)(b:F.T≠55)(c:tb<N)(m:W.heap.size<=tb)(d:rb≠tb)(u:Value) :Vars13 F W (w.setCell ⟨tb,1,none⟩ u) N rb tb sv u ev xv vv xs v ts:=by
 have a:Only (fun j=>j=tb) w (w.setCell ⟨tb,1,none⟩ u):=(Only.refl (fun j=>j=tb) _).setCell (p:=⟨tb,1,none⟩) rfl _;obtain⟨f,g,i,k⟩:=h.only a (fun j e=>by subst e;exact⟨c,zmT h.tb b⟩);exact⟨a.keep h.rb d,h.tb.set u,f,g,i,k,h.below.trans (a.toBelow (fun j e=>by omega) h.below.size)⟩
def Vars13.answer(h:Vars13 F W w N rb tb sv et ev xv vv xs v ts)(a:F.T≠55)(b:rb<N)(u1 u2:Value) :OwnG zaV ((w.setCell ⟨rb,0,none⟩ u1).setCell ⟨rb,1,none⟩ u2) W.heap.size ev (ts.map enV)/\OwnG F ((w.setCell ⟨rb,0,none⟩ u1).setCell ⟨rb,1,none⟩ u2) W.heap.size xv xs /\Held ((w.setCell ⟨rb,0,none⟩ u1).setCell ⟨rb,1,none⟩ u2) vv v ts (zi5 N ev xv)/\Tbox ((w.setCell ⟨rb,0,none⟩ u1).setCell ⟨rb,1,none⟩ u2) rb u1 u2:=by
 have c:Only (fun j=>j=rb) w ((w.setCell ⟨rb,0,none⟩ u1).setCell ⟨rb,1,none⟩ u2):=((Only.refl (fun j=>j=rb) _).setCell (p:=⟨rb,0,none⟩) rfl _).setCell (p:=⟨rb,1,none⟩) rfl _;obtain⟨d,f,g,i⟩:=h.only c (fun j e=>by subst e;exact⟨b,zmT h.rb a⟩);exact⟨d,f,g,h.rb.both u1 u2⟩
end
end
