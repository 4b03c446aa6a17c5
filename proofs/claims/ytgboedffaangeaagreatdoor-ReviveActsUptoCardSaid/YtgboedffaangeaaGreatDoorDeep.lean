/- -/
import Derived.Test.YtgboedffaangeaaGreatDoorVBaseA
import Derived.Deep.Slices
import Derived.Deep.QuietTactic
import Derived.Lib.ConvBytes
import Derived.WalkSmall
import Derived.Lib.AppendZeros
import Derived.Laws.Externs
import Derived.Laws.BitsAllLaws
import Derived.IntWalk
import Derived.StillTailTactics
set_option linter.all false
set_option maxRecDepth 1000000
set_option maxHeartbeats 4000000
namespace Go.Proofs.YtgboedffaangeaaGreatDoor
open _root_.Go.Proofs.Tryz Go.RowKit
section
open Go.ChangeShapes Go.WideShapes Go.ChangeAt Go.Deep
section
variable{H:Type}{enc:TypeId×Value->H}{W:World}
def zGX{j:Nat}{v:Value}{d:DataW H}{ps:List MemPlace}(w:DataW.trod enc prog W 0 (fun _=>true) true j 34 [v]=some (d,ps))(A:∀n∈d.weights prog 34,n<=reachBytes):∃l,Rd W v l:=by
 rcases open_ints underlying34 underlying5 cells_u8 w with⟨f,_⟩|⟨x,l,c,g,f,_,E,hm,r,u,a,p⟩
 .simp at f;subst f;exact⟨[],Rd.nil W⟩
 simp at f;subst f;simp only[Prod.mk.injEq]at u;obtain⟨rfl,_⟩:=u;simp only[if_true]at r;have t:=A _ (by rw[DataW.weights];simp only[underlying34];exact Cz ..);rw[zFA]at t;simp only[lits,Ad,Aq,Ay,reachBytes]at t;have m:∀n∈g,0<=n/\n<=255:=fun n z=>zJ1 (p n z);refine⟨(g.take l).map fun n=>UInt8.ofNat n.toNat,⟨some x,c,?_,?_,(by intro h;cases h),?_⟩,?_,?_⟩
 .simp;omega
 .simp;omega
 .intro hp;simp at hp;have k:=a 0 (by omega);obtain⟨b,o,D⟩:=x;cases D with
  | none=>exact⟨b,o,rfl⟩
  | some s=>
   exfalso;simp only[Addr.add,if_true,World.cell?]at k;split at k<;>simp at k
 .intro i y;simp at y;have k:=a i (by omega);have e:at8 ((g.take l).map fun n=>UInt8.ofNat n.toNat) i=g.getD i 0:=by
   have C:=m (g[i]'(by omega)) (AM _);rw[ziY (by simp;omega)];simp[List.getD,show i<g.length by omega];omega
  rw[e];exact k
 simp;omega
end
end
section
abbrev CellB:=Nat×ByteArray
def cellVs(c:CellB):List Value:=[.int .u64 (c.1:Int),.string c.2]
def zeR:Elt:=⟨67,65,2,24,.agg #[.int .u64 0,.string ⟨#[]⟩]⟩
def zd5:zeR.Ok:=⟨underlying67,by kernel_rfl,by kernel_rfl,rfl,by decide⟩
def ceS(c:CellB):Prop:=c.1<18446744073709551616/\c.2.size<=140737488351232
def CES(cs:List CellB):Prop:=∀c∈cs,ceS c
def CES.get{cs:List CellB}(h:CES cs){k:Nat}(a:k<cs.length):ceS (cs.getD k default):=by
 have e:cs.getD k default=cs[k]:=by simp[List.getD,a]
 rw[e];exact h _ (AM _)
def CES.rdS{c:CellB}(h:ceS c):RdS c.2 c.2.data.toList:=zdA h.2
def RdE(w:World)(v:Value)(cs:List CellB):Prop:=RdG zeR w v (cs.map cellVs)
def OwnE(w:World)(base:Nat)(v:Value)(cs:List CellB):Prop:=OwnG zeR w base v (cs.map cellVs)
section
variable{w w':World}{v:Value}{cs:List CellB}{base:Nat}
def RdE.small(h:RdE w v cs):cs.length<=140737488351232:=by have:=RdG.small h;simpa using this
def RdE.later(h:RdE w v cs){B:Nat}(b:Below B w w')(a:w.heap.size<=B):RdE w' v cs:=RdG.later h zd5 b a
def RdE.drew(h:RdE w v cs):RdE w.drew v cs:=RdG.drew h
def RdE.nil(w:World):RdE w (.slice none 0 0) []:=RdG.nil zeR w
def OwnE.rd(h:OwnE w base v cs)(a:cs.length<=140737488351232):RdE w v cs:=OwnG.rd h (by simpa using a)
def OwnE.later{B:Nat}(h:OwnE w base v cs)(b:Below B w w')(a:w.heap.size<=B):OwnE w' base v cs:=OwnG.later h b a
def OwnE.lower{b':Nat}(h:OwnE w base v cs)(a:b'<=base):OwnE w b' v cs:=OwnG.base h a
def OwnE.grown(h:OwnE w base v cs){r:Option Nat}(b:w.grownBy w' r)(a:∀k,v.ownBlock=some k->some k≠r):OwnE w' base v cs:=OwnG.grown h b a
def OwnE.alloc(h:OwnE w base v cs)(o:Obj):OwnE (w.alloc o) base v cs:=OwnG.alloc h o
def OwnE.drew(h:OwnE w base v cs):OwnE w.drew base v cs:=OwnG.drew h
def OwnE.nil(w:World)(base:Nat):OwnE w base (.slice none 0 0) []:=OwnG.nil zeR w base
def OwnE.lt(h:OwnE w base v cs){k:Nat}(a:v.ownBlock=some k):base<=k/\k<w.heap.size:=OwnG.lt h a
def RdE.len(h:RdE w v cs):∀u,(Builtin.len_ #[67] 3 #[v]).run prog u=.ok (.int .i64 (cs.length:Int)) u:=by
 have:=RdG.len h zd5;rw[Ad]at this;exact this
def RdE.get(h:RdE w v cs){i:Nat}(e:i<cs.length):∃b o,(∀u,(Instr.indexAt 67 v (.int .i64 (i:Int))).run prog u=.ok (.pointer (some ⟨b,o,none⟩)) u) /\(∀w',RdE w' v cs->w'.cell? ⟨b,o,none⟩=some (.int .u64 ((cs.getD i default).1:Int))/\w'.cell? ⟨b,o+1,none⟩=some (.string (cs.getD i default).2))/\b<w.heap.size:=by
 have c:i<(cs.map cellVs).length:=by simpa using e
 have j:=RdG.idx h zd5 i c;obtain⟨b,o,f,g⟩:=RdG.at h c;rw[f]at j;refine⟨b,o,j,fun w' k=>?_,?_⟩
 .obtain⟨b',l,d,a⟩:=RdG.at k c;rw[f]at d;cases d;rw[getD_map cellVs cs i e default]at a;exact⟨a 0 _ rfl,a 1 _ rfl⟩
 rw[getD_map cellVs cs i e default]at g;exact AI w _ (g 0 _ rfl)
def zc7{e:Array Oper}{Q:Exit->Act->World->Prop}{rest:List Oper}{a:Act}{d:Option Tmp}{I:TypeId}{pos:String}{k:Array Edge}{s x:Operand}(base:Nat)(f:Value)(G:a.eval s=f)(D:OwnE w base f cs)(i:Addr)(c:CellB)(H:a.eval x=.slice (some i) 1 1)(A:∀j z,(cellVs c)[j]?=some z->w.cell? (i.add j)=some z)(C:(cs.length+1)*24<=140737488355328)(b:base<=w.heap.size)(B:Nat)(m:World)(y:Below B m w)(l:B<=base)(h:∀g w',OwnE w' base g (cs++[c])->Below B m w'->w.grownBy w' f.ownBlock->wpList prog e Q rest (a.put d g) w') :wpList prog e Q (⟨d,.call ⟨.builtin .append,#[s,x],#[67,67]⟩,I,pos,k,none⟩::rest) a w :=
 zjR (E:=zeR) (vs:=cs.map cellVs) zd5 base f G D i (cellVs c) H rfl (by intro z n;simp[cellVs]at n;rcases n with rfl|rfl<;>rfl) A (by rw[Ad];exact C) (by rw[Ad];omega) b B m y l
  (fun g w' p t u=>h g w' (by unfold OwnE;rw[AC];exact p) t u)
def zcI(w:World)(c:CellB):∀j z,(cellVs c)[j]?=some z->(w.alloc (.cells #[.int .u64 (c.1:Int),.string c.2] 65)).cell? (Addr.add ⟨w.heap.size,0,none⟩ j)=some z:=by
 intro j z a;have e:Addr.add ⟨w.heap.size,0,none⟩ j=⟨w.heap.size,j,none⟩:=by simp[Addr.add];omega
 rw[e,Ag _ _ _ _ _ _ (AB w _),Ck];exact a
end
/- -/
abbrev ColB:=ByteArray×Int
def colV(c:ColB):List Value:=[.string c.1,.int .i64 c.2]
def colE:Elt:=⟨22,62,2,24,.agg #[.string ⟨#[]⟩,.int .i64 0]⟩
def zbK:colE.Ok:=⟨underlying22,by kernel_rfl,by kernel_rfl,rfl,by decide⟩
def CS(cs:List ColB):Prop:=∀c∈cs,c.1.size<=140737488351232/\-9223372036854775808<=c.2/\c.2<=9223372036854775807
def RdC(w:World)(v:Value)(cs:List ColB):Prop:=RdG colE w v (cs.map colV)
def OwnC(w:World)(base:Nat)(v:Value)(cs:List ColB):Prop:=OwnG colE w base v (cs.map colV)
section
variable{w w':World}{v:Value}{cs:List ColB}{ss:List ByteArray}{base:Nat}
def RdC.small(h:RdC w v cs):cs.length<=140737488351232:=by have:=RdG.small h;simpa using this
def RdC.later(h:RdC w v cs){B:Nat}(b:Below B w w')(a:w.heap.size<=B):RdC w' v cs:=RdG.later h zbK b a
def RdC.nil(w:World):RdC w (.slice none 0 0) []:=RdG.nil colE w
def OwnC.rd(h:OwnC w base v cs)(a:cs.length<=140737488351232):RdC w v cs:=OwnG.rd h (by simpa using a)
def OwnC.later{B:Nat}(h:OwnC w base v cs)(b:Below B w w')(a:w.heap.size<=B):OwnC w' base v cs:=OwnG.later h b a
def OwnC.lower{b':Nat}(h:OwnC w base v cs)(a:b'<=base):OwnC w b' v cs:=OwnG.base h a
def OwnC.grown(h:OwnC w base v cs){r:Option Nat}(b:w.grownBy w' r)(a:∀k,v.ownBlock=some k->some k≠r):OwnC w' base v cs:=OwnG.grown h b a
def OwnC.alloc(h:OwnC w base v cs)(o:Obj):OwnC (w.alloc o) base v cs:=OwnG.alloc h o
def OwnC.nil(w:World)(base:Nat):OwnC w base (.slice none 0 0) []:=OwnG.nil colE w base
def OwnC.lt(h:OwnC w base v cs){k:Nat}(a:v.ownBlock=some k):base<=k/\k<w.heap.size:=OwnG.lt h a
def RdC.len(h:RdC w v cs):∀u,(Builtin.len_ #[22] 3 #[v]).run prog u=.ok (.int .i64 (cs.length:Int)) u:=by
 have:=RdG.len h zbK;rw[Ad]at this;exact this
def RdC.get(h:RdC w v cs){i:Nat}(e:i<cs.length):∃b o,(∀u,(Instr.indexAt 22 v (.int .i64 (i:Int))).run prog u=.ok (.pointer (some ⟨b,o,none⟩)) u) /\(∀w',RdC w' v cs->w'.cell? ⟨b,o,none⟩=some (.string (cs.getD i default).1)/\w'.cell? ⟨b,o+1,none⟩=some (.int .i64 (cs.getD i default).2))/\b<w.heap.size:=by
 have c:i<(cs.map colV).length:=by simpa using e
 have j:=RdG.idx h zbK i c;obtain⟨b,o,f,g⟩:=RdG.at h c;rw[f]at j;refine⟨b,o,j,fun w' k=>?_,?_⟩
 .obtain⟨b',l,d,a⟩:=RdG.at k c;rw[f]at d;cases d;rw[getD_map colV cs i e default]at a;exact⟨a 0 _ rfl,a 1 _ rfl⟩
 rw[getD_map colV cs i e default]at g;exact AI w _ (g 0 _ rfl)
def zjS{e:Array Oper}{Q:Exit->Act->World->Prop}{rest:List Oper}{a:Act}{d:Option Tmp}{I:TypeId}{pos:String}{k:Array Edge}{s x:Operand}(base:Nat)(f:Value)(G:a.eval s=f)(D:OwnC w base f cs)(i:Addr)(c:ColB)(H:a.eval x=.slice (some i) 1 1)(A:∀j z,(colV c)[j]?=some z->w.cell? (i.add j)=some z)(C:(cs.length+1)*24<=140737488355328)(b:base<=w.heap.size)(B:Nat)(m:World)(y:Below B m w)(l:B<=base)(h:∀g w',OwnC w' base g (cs++[c])->Below B m w'->w.grownBy w' f.ownBlock->wpList prog e Q rest (a.put d g) w') :wpList prog e Q (⟨d,.call ⟨.builtin .append,#[s,x],#[22,22]⟩,I,pos,k,none⟩::rest) a w :=
 zjR (E:=colE) (vs:=cs.map colV) zbK base f G D i (colV c) H rfl (by intro z n;simp[colV]at n;rcases n with rfl|rfl<;>rfl) A (by rw[Ad];exact C) (by rw[Ad];omega) b B m y l
  (fun g w' p t u=>h g w' (by unfold OwnC;rw[AC];exact p) t u)
def zBF(w:World)(c:ColB):∀j z,(colV c)[j]?=some z->(w.alloc (.cells #[.string c.1,.int .i64 c.2] 62)).cell? (Addr.add ⟨w.heap.size,0,none⟩ j)=some z:=by
 intro j z a;have e:Addr.add ⟨w.heap.size,0,none⟩ j=⟨w.heap.size,j,none⟩:=by simp[Addr.add];omega
 rw[e,Ag _ _ _ _ _ _ (AB w _),Ck];exact a
end
/- -/
/- -/
def zh2{n:Nat}(b:0<n):∀(vs:List (List Value)),(∀x∈vs,x.length=n)->∀j u,vs.flatten[j]?=some u->j/n<vs.length/\(vs.getD (j/n) [])[j%n]?=some u
 | [],_,j,u,h=>by simp at h
 | x::r,hw,j,u,h=>by
  have g:=hw x (by simp);rw[Bt]at h;by_cases a:j<n
  .rw[Cs (by omega)]at h
   rw[Nat.div_eq_of_lt a,BA a];exact⟨by simp,h⟩
  .rw[Cl (by omega),g]at h
   obtain⟨k,f⟩:=zh2 b r (fun y i=>hw y (by simp[i])) (j-n) u h;have e:j=(j-n)+n:=by omega
   have c:j/n=(j-n)/n+1:=by conv=>lhs;rw[e,Nat.add_div_right _ b]
   have d:j%n=(j-n)%n:=by conv=>lhs;rw[e,Nat.add_mod_right]
   rw[c,d];exact⟨by simp;omega,by simpa using f⟩
def zbN{n:Nat}:∀(vs:List (List Value)),(∀x∈vs,x.length=n)->vs.flatten.length=vs.length*n
 | [],_=>by simp
 | x::r,hw=>by
  rw[Bt,Ae,hw x (by simp),zbN r (fun y a=>hw y (by simp[a])),Ap,De];omega
section
variable{E:Elt}{w w':World}{v:Value}{cs ds:List (List Value)}{base:Nat}
variable {a:Act} {K:Act->World->Prop} {e:Array Oper} {Q:Exit->Act->World->Prop} {rest:List Oper} {s x:Operand} {pos:String}
def zcD(i:E.Ok){z:Array Oper}{p:Option Tmp}{ty:TypeId}{D:Array Edge}(base:Nat)(m:Value)(Y:a.eval s=m)(l:OwnG E w base m cs)(xv:Value)(Z:a.eval x=xv)(I:RdG E w xv ds)(f:∀x∈ds,∀u∈x,u.oneCell'=true)(hn:(cs.length+ds.length)*E.bytes<=140737488355328)(aj:cs.length+ds.length<=140737488355328)(g:base<=w.heap.size)(B:Nat)(w0:World)(U:Below B w0 w)(H:B<=base)(h:∀C w',OwnG E w' base C (cs++ds)->Below B w0 w'->w.grownBy w' m.ownBlock->wpList prog z Q rest (a.put p C) w') :wpList prog z Q (⟨p,.call ⟨.builtin .append,#[s,x],#[E.S,E.S]⟩,ty,pos,D,none⟩::rest) a w:=by
 obtain⟨i0,X,L,M,N⟩:=info_parts i.info;obtain⟨ao,cap,J,V,t,hp⟩:=RdG.shape I;cases ao with
 | none=>
  obtain rfl:cap=0:=t rfl;obtain rfl:ds=[]:=AR (by omega);refine wpList_append_own_none rfl s x E.S rfl base E.T i0 E.n i.hS X m cs.length cs.flatten Y l.1 (by rw[Z,J];rfl) ?_;exact h m w (by simpa using l) U (World.grownBy.refl _ _)
 | some ad=>
  have d:=I.wid;refine wpList_append_own w rfl s x E.S rfl base E.T i0 E.zero E.n E.bytes i.hS X L M N i.hz i.hn m cs.length cs.flatten Y l.1 ad ds.length cap ds.flatten (by rw[Z,J]) (zbN ds d) ?_ ?_ (by unfold maxLen;omega) hn g ?_
  .intro j u hj;obtain⟨O,A⟩:=zh2 i.hn ds d j u hj;obtain⟨b,o,e⟩:=hp (Nat.lt_of_le_of_lt (Bg _) O);injection e with e
   subst e;have:=RdG.cells I (j/E.n) O (j%E.n) u A;rw[J,zaF]at this;have e:o+(j/E.n*E.n+j%E.n)=o+j:=by
    have:=Nat.div_add_mod j E.n;rw[BS]at this;omega
   rw[e]at this;have e2:Addr.add ⟨b,o,none⟩ j=⟨b,o+j,none⟩:=(by simp only[Addr.add];split<;>simp_all);rw[e2];exact this
  .intro u hu;obtain⟨y,c,hz⟩:=Cg.1 hu;exact f y c u hz
  intro C w' G A _;refine h C w' ⟨?_,?_,?_⟩ (U.grown A (by omega) fun k hk=>?_) A
  .rw[Ae,Cw];exact G
  .intro y c;rcases AD.1 c with c|c
   .exact l.2.1 y c
   exact d y c
  .intro y c;rcases AD.1 c with c|c
   .exact l.2.2 y c
   exact f y c
  exact Ar H (World.ownsRow.lt l.1 k hk).1
def Place(w:World)(v v':Value):Prop:=v'.ownBlock=v.ownBlock\/∀g,v'.ownBlock=some g->w.heap.size<=g
def ziZ(s:E.Ok){base:Nat}{I:Value}(X:OwnG E w base I cs){p:Addr}{m c:Nat}{news:List Value}(t:news.length=m*E.n)(b:∀j u,news[j]?=some u->w.cell? (p.add j)=some u)(M:∀u∈news,u.oneCell'=true)(Q:(cs.length+m)*E.bytes<=140737488355328)(U:cs.length+m<=140737488355328){z:TypeId}{J:Value}{w':World}(k:(Builtin.append_ #[E.S,E.S] z #[I,.slice (some p) m c]).run prog w=.ok J w'):Place w I J:=by
 obtain⟨C,A,y,h,H⟩:=info_parts s.info;have i:(cs.length+m)*C.bytes<=140737488355328:=by rw[H];exact Q
 have d:=X.1;rcases d.2 with⟨rfl,L⟩|⟨g,cap,D,rfl,_,O,V,N,G,_⟩
 .refine .inr fun g a=>?_;by_cases hm:m=0
  .subst hm;have x:news=[]:=AR (by simpa using t);subst x;have e:(Builtin.append_ #[E.S,E.S] z #[.slice none 0 0,.slice (some p) 0 c]).run prog w=.ok (.slice none 0 0) w:=by
    simp[Builtin.append_,run_underlying s.hS,sizeOf,typeInfo,A,Builtin.lenOf,Builtin.firstCells,loadCells,loadCellsFrom]
   rw[e]at k;injection k with e1 e2
   subst e1;cases a
  rw[L,A5]at i;have e:=run_append_nil (P:=prog) w E.S z E.T C E.zero s.hS A y p m c news (by rw[h];exact t) b (by omega) (by omega) (by omega);rw[e]at k;injection k with e1 e2
  subst e1;injection a with a
  exact CM a
 by_cases f:cs.length+m<=cap
 .have e:=run_append_room (P:=prog) w E.S z E.T C s.hS A g cs.length cap D O p m c news (by rw[h];exact t) b M f (by rw[t,G,h,<-De];exact Cb _ f);rw[e]at k;injection k with e1 e2
  subst e1;exact .inl rfl
 refine .inr fun Y a=>?_;have l:∀j u,cs.flatten[j]?=some u->w.cell? ((⟨g,0,none⟩:Addr).add j)=some u:=World.ownsRow.cells (g:=g) d rfl;have e:=run_append_grow (P:=prog) w E.S z E.T C E.zero s.hS A y ⟨g,0,none⟩ cs.length cap cs.flatten (by rw[h];exact d.1) l p m c news (by rw[h];exact t) b (by omega) (by omega) (growslice_fits (by omega) i);rw[e]at k;injection k with e1 e2
 subst e1;injection a with a
 exact CM a
def ze4(l:E.Ok){A:Option Tmp}{Y:TypeId}{H:Array Edge}{gu:Option (Nat×Bool)}(base:Nat)(z:Value)(hs:a.eval s=z)(p:OwnG E w base z cs)(xv:Value)(hx:a.eval x=xv)(N:RdG E w xv ds)(i:∀x∈ds,∀u∈x,u.oneCell'=true)(hn:(cs.length+ds.length)*E.bytes<=140737488355328)(L:cs.length+ds.length<=140737488355328)(m:base<=w.heap.size)(B:Nat)(w0:World)(hb:Below B w0 w)(J:B<=base)(h:∀G w',OwnG E w' base G (cs++ds)->Below B w0 w'->w.grownBy w' z.ownBlock->Place w z G->K (a.put A G) w') :Oper.wp prog ⟨A,.call ⟨.builtin .append,#[s,x],#[E.S,E.S]⟩,Y,pos,H,gu⟩ a w K Q:=by
 obtain⟨i0,hi,U,V,X⟩:=info_parts l.info;obtain⟨ao,cap,O,ac,D,hp⟩:=RdG.shape N;cases ao with
 | none=>
  obtain rfl:cap=0:=D rfl;obtain rfl:ds=[]:=AR (by omega);have t:a.eval x=.slice none 0 0:=by rw[hx,O];rfl
  have c:=run_append_owned_none (P:=prog) (w:=w) base E.S Y E.T i0 E.n l.hS hi z cs.length cs.flatten p.1;unfold Oper.wp execOp;simp only[resolve,invoke,builtin,Sem.run_bind,Sem.run_pure,Result.andThen_ok,List.map_toArray,AT,List.map_nil,hs,t,c];exact h z w (by simpa using p) hb (World.grownBy.refl _ _) (.inl rfl)
 | some ad=>
  have d:=N.wid;have g:∀j u,ds.flatten[j]?=some u->w.cell? (ad.add j)=some u:=by
   intro j u hj;obtain⟨Z,I⟩:=zh2 l.hn ds d j u hj;obtain⟨b,o,e⟩:=hp (Nat.lt_of_le_of_lt (Bg _) Z);injection e with e
   subst e;have:=RdG.cells N (j/E.n) Z (j%E.n) u I;rw[O,zaF]at this;have e:o+(j/E.n*E.n+j%E.n)=o+j:=by
    have:=Nat.div_add_mod j E.n;rw[BS]at this;omega
   rw[e]at this;have e2:Addr.add ⟨b,o,none⟩ j=⟨b,o+j,none⟩:=(by simp only[Addr.add];split<;>simp_all);rw[e2];exact this
  have C:∀u∈ds.flatten,u.oneCell'=true:=by
   intro u hu;obtain⟨y,f,hz⟩:=Cg.1 hu;exact i y f u hz
  obtain⟨G,w',c,I,h3,_⟩:=run_append_own (P:=prog) w base E.S Y E.T i0 E.zero E.n E.bytes l.hS hi U V X l.hz l.hn z cs.length cs.flatten p.1 ad ds.length cap ds.flatten (zbN ds d) g C (by unfold maxLen;omega) hn m;have M:=ziZ l p (zbN ds d) g C hn L c;have t:a.eval x=.slice (some ad) ds.length cap:=by rw[hx,O]
  unfold Oper.wp execOp;simp only[resolve,invoke,builtin,Sem.run_bind,Sem.run_pure,Result.andThen_ok,List.map_toArray,AT,List.map_nil,hs,t,c];refine h G w' ⟨?_,?_,?_⟩ (hb.grown h3 (by omega) fun k hk=>?_) h3 M
  .rw[Ae,Cw];exact I
  .intro y f;rcases AD.1 f with f|f
   .exact p.2.1 y f
   exact d y f
  .intro y f;rcases AD.1 f with f|f
   .exact p.2.2 y f
   exact i y f
  exact Ar J (World.ownsRow.lt p.1 k hk).1
def zbH(z:E.Ok){c:Option Tmp}{J:TypeId}{i:Array Edge}(base:Nat)(f:Value)(H:a.eval s=f)(D:OwnG E w base f cs)(m:Value)(I:a.eval x=m)(G:RdG E w m ds)(d:∀x∈ds,∀u∈x,u.oneCell'=true)(C:(cs.length+ds.length)*E.bytes<=140737488355328)(k:cs.length+ds.length<=140737488355328)(b:base<=w.heap.size)(B:Nat)(l:World)(A:Below B l w)(j:B<=base)(h:∀g w',OwnG E w' base g (cs++ds)->Below B l w'->w.grownBy w' f.ownBlock->Place w f g->wpList prog e Q rest (a.put c g) w') :wpList prog e Q (⟨c,.call ⟨.builtin .append,#[s,x],#[E.S,E.S]⟩,J,pos,i,none⟩::rest) a w :=
 wpList_plain rfl fun K hK=>ze4 z base f H D m I G d C k b B l A j fun g w' n p t y=>hK _ _ (h g w' n p t y)
def zg5(l:E.Ok)(u:List Value)(g:u.length=E.n)(a:Addr)(c:∃b o,a=⟨b,o,none⟩)(d:∀j z,u[j]?=some z->w.cell? (a.add j)=some z):RdG E w (.slice (some a) 1 1) [u]:=by
 obtain⟨b,o,rfl⟩:=c;refine⟨⟨_,_,rfl,by simp,(by intro h;cases h),fun _=>⟨b,o,rfl⟩⟩,fun i f j z k=>?_,by simpa using g,by simp⟩;obtain rfl:i=0:=by simpa using f
 rw[zaF];have:=d j z (by simpa using k);have e:Addr.add ⟨b,o,none⟩ j=⟨b,o+j,none⟩:=by simp only[Addr.add];split<;>simp_all
 rw[e]at this;rw[Nat.zero_mul,A5];exact this
def zdR(E:Elt)(w:World)(base:Nat)(a:base<=w.heap.size):OwnG E (w.alloc (.cells #[] E.T)) base (.slice (some ⟨w.heap.size,0,none⟩) 0 0) [] :=
 ⟨World.ownsRow_made w #[] 0 a (Bg _) (by simp),by simp,by simp⟩
def zdS(E:Elt)(w:World)(base:Nat)(c:base<=w.heap.size)(vs:List (List Value))(a:∀x∈vs,x.length=E.n)(b:∀x∈vs,∀u∈x,u.oneCell'=true)(d:vs.length<=140737488351232) :OwnG E (w.alloc (.cells vs.flatten.toArray E.T)) base (.slice (some ⟨w.heap.size,0,none⟩) vs.length vs.length) vs:=by
 refine⟨⟨zbN vs a,.inr ⟨w.heap.size,vs.length,vs.flatten.toArray,rfl,c,AB _ _,l_,by unfold maxLen;omega,?_,?_⟩⟩,a,b⟩
 .show vs.flatten.toArray.size=vs.length*E.n;rw[Br];exact zbN vs a
 show vs.flatten.toArray.toList.take (vs.length*E.n)=vs.flatten;rw[<-zbN vs a,List.toList_toArray,Bo]
def zt6(f:E.Ok){e:Option Tmp}{O:TypeId}{p:Array Edge}{V:Option (Nat×Bool)}(base:Nat)(i:Value)(u:List Value)(m:Addr)(hs:a.eval s=i)(g:OwnG E w base i cs)(hx:a.eval x=.slice (some m) 1 1)(G:u.length=E.n)(t:∀z∈u,z.oneCell'=true)(M:∀j z,u[j]?=some z->w.cell? (m.add j)=some z)(N:(cs.length+1)*E.bytes<=140737488355328)(C:cs.length+1<=140737488355328)(d:base<=w.heap.size)(B:Nat)(U:World)(Y:Below B U w)(A:B<=base)(h:∀l w',OwnG E w' base l (cs++[u])->Below B U w'->w.grownBy w' i.ownBlock->Place w i l->K (a.put e l) w') :Oper.wp prog ⟨e,.call ⟨.builtin .append,#[s,x],#[E.S,E.S]⟩,O,pos,p,V⟩ a w K Q:=by
 obtain⟨i0,Z,H,I,J⟩:=info_parts f.info;obtain⟨l,w',c,X,L,_⟩:=run_append_own (P:=prog) w base E.S O E.T i0 E.zero E.n E.bytes f.hS Z H I J f.hz f.hn i cs.length cs.flatten g.1 m 1 1 u (by rw[G];omega) M t (by unfold maxLen;omega) N d;have D:=ziZ f g (by rw[G];omega) M t N C c;unfold Oper.wp execOp;simp only[resolve,invoke,builtin,Sem.run_bind,Sem.run_pure,Result.andThen_ok,List.map_toArray,AT,List.map_nil,hs,hx,c];refine h l w' ⟨?_,?_,?_⟩ (Y.grown L (by omega) fun k hk=>Ar A (World.ownsRow.lt g.1 k hk).1) L D
 .rw[Ae,Cw,List.flatten_singleton];exact X
 .intro y b;rcases AD.1 b with b|b
  .exact g.2.1 y b
  rw[AH.1 b];exact G
 intro y b;rcases AD.1 b with b|b
 .exact g.2.2 y b
 rw[AH.1 b];exact t
def zqD(A:E.Ok){F:Prop}{b:Option Tmp}{m:TypeId}{c:Array Edge}{i:Option (Nat×Bool)}(base:Nat)(f:Value)(u:List Value)(g:Addr)(L:Region.wanted ⟨b,.call ⟨.builtin .append,#[s,x],#[E.S,E.S]⟩,m,pos,c,i⟩ (yielded e a.tmps)=true)(I:a.eval s=f)(H:OwnG E w base f cs)(M:a.eval x=.slice (some g) 1 1)(J:u.length=E.n)(y:∀z∈u,z.oneCell'=true)(D:∀j z,u[j]?=some z->w.cell? (g.add j)=some z)(G:(cs.length+1)*E.bytes<=140737488355328)(l:cs.length+1<=140737488355328)(d:base<=w.heap.size)(B:Nat)(t:World)(C:Below B t w)(k:B<=base)(h:∀p w',OwnG E w' base p (cs++[u])->Below B t w'->w.grownBy w' f.ownBlock->Place w f p->K (a.put b p) w') :if Region.wanted ⟨b,.call ⟨.builtin .append,#[s,x],#[E.S,E.S]⟩,m,pos,c,i⟩ (yielded e a.tmps)=true then Oper.wp prog ⟨b,.call ⟨.builtin .append,#[s,x],#[E.S,E.S]⟩,m,pos,c,i⟩ a w K Q else F:=by
 rw[Ab L];exact zt6 A base f u g I H M J y D G l d B t C k h
def zl8{n:Nat}:∀(vs:List (List Value)),(∀x∈vs,x.length=n)->∀k j u,k<vs.length->j<n->vs.flatten.set (k*n+j) u=(vs.set k ((vs.getD k []).set j u)).flatten
 | [],_,k,j,u,hk,_=>absurd hk (by simp)
 | x::r,hw,0,j,u,_,hj=>by
  have a:=hw x (by simp);rw[Nat.zero_mul,A5,Bt,List.set_append_left _ _ (by omega)];simp
 | x::r,hw,k+1,j,u,hk,hj=>by
  have a:=hw x (by simp);have ih:=zl8 r (fun y b=>hw y (by simp[b])) k j u (by simpa using hk) hj;rw[Bt,List.set_append_right _ _ (by rw[a,De];omega),a,show(k+1)*n+j-n=k*n+j from by rw[De];omega,ih];simp
def OwnG.spot(O:E.Ok)(h:OwnG E w base v cs)(hp:0<cs.length)(Q:cs.length<=140737488351232):∃g cap,v=.slice (some ⟨g,0,none⟩) cs.length cap/\base<=g /\(∀k,k<cs.length->∀u,(Instr.indexAt E.S v (.int .i64 (k:Int))).run prog u=.ok (.pointer (some ⟨g,k*E.n,none⟩)) u) /\∀w' vs,vs.length=cs.length->OwnG E w' base v vs->∀k,k<cs.length->(vs.getD k []).length=E.n/\∀j,j<E.n->w'.cell? ⟨g,k*E.n+j,none⟩=(vs.getD k [])[j]?/\w'.frozen? ⟨g,k*E.n+j,none⟩=false /\∀u:Value,u.oneCell'=true->OwnG E (w'.setCell ⟨g,k*E.n+j,none⟩ u) base v (vs.set k ((vs.getD k []).set j u)):=by
 obtain⟨g,cap,i,f⟩:∃g cap,v=.slice (some ⟨g,0,none⟩) cs.length cap/\base<=g:=by
  rcases h.1.2 with⟨_,A⟩|⟨g,cap,m,i,f,_⟩
  .omega
  exact⟨g,cap,i,f⟩
 have C:=OwnG.rd h Q;refine⟨g,cap,i,f,fun k J u=>?_,fun w' vs X L k J=>?_⟩
 .have:=RdG.idx C O k J u;rw[i,zaF,A5]at this;rw[i];exact this
 have d:=OwnG.rd L (by omega);have b:(vs.getD k []).length=E.n:=d.get (by omega);obtain⟨⟨M,N⟩,a,c⟩:=L;rcases N with⟨_,A⟩|⟨V,D,m,s,p,H,A,hm,x,T⟩
 .omega
 have e:=i.symm.trans s;simp only[Value.slice.injEq,Option.some.injEq,Addr.mk.injEq]at e;obtain⟨⟨rfl,_⟩,_,rfl⟩:=e;refine⟨b,fun j I=>⟨?_,At _ _ _ _ _ H,fun u U=>⟨⟨?_,.inr ⟨g,cap,m.setIfInBounds (k*E.n+j) u,by rw[Be];exact s,p,block_setCell H _,by rw[Be];exact A,hm,by simpa using x,?_⟩⟩,?_,?_⟩⟩⟩
 .have G:=d.cells k (by omega) j ((vs.getD k [])[j]'(by omega)) (AJ _);rw[i,zaF,A5]at G;rw[G,AJ (by omega)]
 .rw[<-zl8 vs a k j u (by omega) I,Be,Be];exact M
 .rw[<-zl8 vs a k j u (by omega) I,Be,CZ,List.take_set,T]
 .intro y l;rcases Bu l with l|rfl
  .exact a y l
  rw[Be];exact b
 intro y l z t;rcases Bu l with l|rfl
 .exact c y l z t
 rcases Bu t with t|rfl
 .exact c _ (by
   have:vs.getD k []=vs[k]'(by omega):=by simp[List.getD,show k<vs.length by omega]
   rw[this];exact AM _) z t
 exact U
end
/- -/
section
variable{E:Elt}{w:World}{v:Value}{vs:List (List Value)}
def RdG.cut(t:E.Ok)(h:RdG E w v vs)(a e:Nat)(T:a<=e)(U:e<=vs.length) :∃J,(∀u,(Instr.slice E.S v (some (.int .i64 (a:Int))) (some (.int .i64 (e:Int))) none).run prog u=.ok J u)/\∀w',RdG E w' v vs->RdG E w' J ((vs.take e).drop a):=by
 obtain⟨⟨f,cap,rfl,G,m,d⟩,H,p,O⟩:=h;refine⟨.slice (if cap=a then f else f.map (·.add (a*E.n))) (e-a) (cap-a),fun u=>?_,fun w' M=>?_⟩
 .rw[run_slice_lh (P:=prog) u E.S f vs.length cap (by rw[t.hel];exact t.hS) .i64 .i64 a e (by omega) (by omega) (by omega)];obtain⟨s,A,C⟩:=Option.map_eq_some_iff.1 t.info;have D:s.size=E.n:=by
   have:=congrArg (fun x=>x.2.1) C;exact this
  have l:prog.info? (prog.elem E.S)=some s:=by rw[t.hel];exact A
  simp[sizeOf,typeInfo,l,D,Result.andThen,sliced]
 have c:((vs.take e).drop a).length=e-a:=by simp;omega
 have g:∀b o,0<e-a->f=some ⟨b,o,none⟩->(if cap=a then f else f.map (·.add (a*E.n)))=some ⟨b,o+a*E.n,none⟩:=by
  intro b o hp k;subst k;rw[Aa (by omega)];simp[Addr.add]
 refine⟨⟨_,_,by rw[c],by rw[c];omega,?_,?_⟩,?_,?_,by rw[c];omega⟩
 .intro N;by_cases y:cap=a
  .omega
  rw[Aa y]at N;have:f=none:=by cases f<;>simp_all
  have:=m this;omega
 .intro hp;rw[c]at hp;obtain⟨b,o,k⟩:=d (by omega);exact⟨b,o+a*E.n,g b o hp k⟩
 .intro i z j u I;rw[c]at z;obtain⟨b,o,k⟩:=d (by omega);have L:((vs.take e).drop a).getD i []=vs.getD (a+i) []:=by
   simp[List.getD];rw[Cv (by omega)]
  rw[L]at I;have y:=M.cells (a+i) (by omega) j u I;rw[g b o (by omega) k];subst k;rw[zaF]at y ⊢;rw[<-y];congr 2;rw[De];omega
 intro x Q;exact p x (A9 (BZ Q))
def RdG.from(b:E.Ok)(h:RdG E w v vs)(a:Nat)(l:a<=vs.length) :∃c,(∀u,(Instr.slice E.S v (some (.int .i64 (a:Int))) none none).run prog u=.ok c u)/\∀w',RdG E w' v vs->RdG E w' c (vs.drop a):=by
 obtain⟨c,n,m⟩:=h.cut b a vs.length l l_;refine⟨c,fun u=>?_,fun w' k=>by have:=m w' k;rwa[Bo]at this⟩;obtain⟨⟨e,cap,rfl,f,i,d⟩,g,j,p⟩:=h;rw[<-n u,run_slice_lh (P:=prog) u E.S e vs.length cap (by rw[b.hel];exact b.hS) .i64 .i64 a vs.length (by omega) (by omega) (by omega),
  run_slice_l (P:=prog) u E.S e vs.length cap (by rw[b.hel];exact b.hS) .i64 a (by omega) (by omega)]
 simp
def RdG.upto(b:E.Ok)(h:RdG E w v vs)(a:Nat)(l:a<=vs.length) :∃c,(∀u,(Instr.slice E.S v none (some (.int .i64 (a:Int))) none).run prog u=.ok c u)/\∀w',RdG E w' v vs->RdG E w' c (vs.take a):=by
 obtain⟨c,n,m⟩:=h.cut b 0 a (Bg _) l;refine⟨c,fun u=>?_,fun w' k=>by have:=m w' k;rwa[Bz]at this⟩;obtain⟨⟨e,cap,rfl,f,i,d⟩,g,j,p⟩:=h;rw[<-n u,run_slice_lh (P:=prog) u E.S e vs.length cap (by rw[b.hel];exact b.hS) .i64 .i64 ((0:Nat):Int) a (by omega) (by omega) (by omega),
  run_slice_h (P:=prog) u E.S e vs.length cap (by rw[b.hel];exact b.hS) .i64 a (by omega) (by omega)]
 simp
end
/- -/
abbrev PairB:=List CellB×Int
abbrev TriB:=Value×PairB
def triV(t:TriB):List Value:=[t.1,.int .i64 t.2.2]
def pairE:Elt:=⟨33,69,2,32,.agg #[.slice none 0 0,.int .i64 0]⟩
def zaX:pairE.Ok:=⟨underlying33,by kernel_rfl,by kernel_rfl,rfl,by decide⟩
def inW(x:Int):Prop:=-9223372036854775808<=x/\x<=9223372036854775807
def PSO(ps:List PairB):Prop:=∀p∈ps,CES p.1/\inW p.2
def PSO.get{ps:List PairB}(h:PSO ps){k:Nat}(a:k<ps.length):CES (ps.getD k default).1/\inW (ps.getD k default).2:=by
 have e:ps.getD k default=ps[k]:=by simp[List.getD,a]
 rw[e];exact h _ (AM _)
def PSO.append{ps qs:List PairB}(h:PSO ps)(a:PSO qs):PSO (ps++qs):=fun p hp=>by
 rcases AD.1 hp with hp|hp
 .exact h p hp
 .exact a p hp
def PSO.sub{ps qs:List PairB}(h:PSO ps)(a:∀p∈qs,p∈ps):PSO qs:=fun p hp=>h p (a p hp)
def RdP(w:World)(v:Value)(ps:List PairB):Prop:=∃ts:List TriB,ps=ts.map (·.2)/\RdG pairE w v (ts.map triV)/\∀t∈ts,RdE w t.1 t.2.1
section
variable{w w':World}{v:Value}{ps qs:List PairB}{base:Nat}
def RdP.small(h:RdP w v ps):ps.length<=140737488351232:=by
 obtain⟨ts,rfl,h,_⟩:=h;have:=h.small;simpa using this
def RdP.later(h:RdP w v ps){B:Nat}(b:Below B w w')(a:w.heap.size<=B):RdP w' v ps:=by
 obtain⟨ts,e,h,c⟩:=h;exact⟨ts,e,h.later zaX b a,fun t d=>(c t d).later b a⟩
def RdP.drew(h:RdP w v ps):RdP w.drew v ps:=h.later ((Ac w.heap.size w).drew) l_
def RdP.nil(w:World):RdP w (.slice none 0 0) []:=⟨[],rfl,RdG.nil pairE w,by simp⟩
def RdP.len(h:RdP w v ps):∀u,(Builtin.len_ #[33] 3 #[v]).run prog u=.ok (.int .i64 (ps.length:Int)) u:=by
 obtain⟨ts,rfl,h,_⟩:=h;have:=RdG.len h zaX;rw[Ad]at this ⊢;exact this
def RdP.get(h:RdP w v ps){i:Nat}(d:i<ps.length):∃b o rv,(∀u,(Instr.indexAt 33 v (.int .i64 (i:Int))).run prog u=.ok (.pointer (some ⟨b,o,none⟩)) u) /\w.cell? ⟨b,o,none⟩=some rv/\w.cell? ⟨b,o+1,none⟩=some (.int .i64 (ps.getD i default).2)/\RdE w rv (ps.getD i default).1/\b<w.heap.size:=by
 obtain⟨ts,rfl,h,k⟩:=h;rw[Ad]at d;have a:i<(ts.map triV).length:=by simpa using d
 have e:=RdG.idx h zaX i a;obtain⟨b,o,j,c⟩:=RdG.at h a;rw[j]at e;have f:(ts.map triV).getD i []=triV ts[i]:=by simp[List.getD,d]
 have g:(ts.map (·.2)).getD i default=ts[i].2:=by simp[List.getD,d]
 rw[f]at c;rw[g];exact⟨b,o,ts[i].1,e,c 0 _ rfl,c 1 _ rfl,k _ (AM _),AI w _ (c 0 _ rfl)⟩
def offB(rv:Value)(n g:Nat):Prop:=∀i,i<n->(adr rv (i*2)).block≠g
def OwnP(w:World)(base:Nat)(v:Value)(ps:List PairB):Prop:=∃ts:List TriB,ps=ts.map (·.2)/\OwnG pairE w base v (ts.map triV)/\∀t∈ts,RdE w t.1 t.2.1/\∀g,v.ownBlock=some g->offB t.1 t.2.1.length g
def OwnP.rd(h:OwnP w base v ps)(b:ps.length<=140737488351232):RdP w v ps:=by
 obtain⟨ts,rfl,h,a⟩:=h;exact⟨ts,rfl,h.rd (by simpa using b),fun t c=>(a t c).1⟩
def OwnP.later{B:Nat}(h:OwnP w base v ps)(b:Below B w w')(a:w.heap.size<=B):OwnP w' base v ps:=by
 obtain⟨ts,e,h,c⟩:=h;exact⟨ts,e,h.later b a,fun t d=>⟨(c t d).1.later b a,(c t d).2⟩⟩
def OwnP.alloc(h:OwnP w base v ps)(o:Obj):OwnP (w.alloc o) base v ps:=h.later ((Ac w.heap.size w).alloc l_ o) l_
def OwnP.nil(w:World)(base:Nat):OwnP w base (.slice none 0 0) []:=⟨[],rfl,OwnG.nil pairE w base,by simp⟩
def OwnP.lt(h:OwnP w base v ps){k:Nat}(a:v.ownBlock=some k):base<=k/\k<w.heap.size:=by
 obtain⟨ts,e,h,b⟩:=h;exact h.lt a
def zxQ(w:World)(base:Nat)(a:base<=w.heap.size):OwnP (w.alloc (.cells #[] 69)) base (.slice (some ⟨w.heap.size,0,none⟩) 0 0) []:=⟨[],rfl,zdR pairE w base a,by simp⟩
def RdE.aside{rv:Value}{r:List CellB}(h:RdE w rv r){g:Option Nat}(d:w.grownBy w' g)(b:∀k,g=some k->offB rv r.length k):RdE w' rv r:=by
 refine RdG.same h fun i c=>?_;have a:i<r.length:=by simpa using c
 refine d.block _ (RdG.block h zd5 c) fun e=>?_;have:=b _ e.symm i a;exact this rfl
def RdE.offNew{rv:Value}{r:List CellB}(h:RdE w rv r){g:Nat}(b:w.heap.size<=g):offB rv r.length g:=fun i a=>by
 have:=RdG.block h zd5 (i:=i) (by simpa using a);have e:(adr rv (i*zeR.n)).block=(adr rv (i*2)).block:=rfl;omega
def RdE.lit{rv:Value}{r:List CellB}(h:RdE w rv r):∃a n cap,rv=.slice a n cap:=by
 obtain⟨a,cap,e,_⟩:=RdG.shape h;exact⟨_,_,_,e⟩
def zjB{rv:Value}{r:List CellB}(h:RdE w rv r):rv.oneCell'=true:=by
 obtain⟨a,cap,e,_⟩:=RdG.shape h;rw[e];rfl
def zcP{t:TriB}(h:RdE w t.1 t.2.1):∀z∈triV t,z.oneCell'=true:=by
 intro z a;simp[triV]at a;rcases a with rfl|rfl
 .exact zjB h
 rfl
def zwZ{c:Value}{ts:List TriB}(i:∀t∈ts,RdE w t.1 t.2.1/\∀g,v.ownBlock=some g->offB t.1 t.2.1.length g)(h:w.grownBy w' v.ownBlock)(b:c.ownBlock=v.ownBlock\/∀g,c.ownBlock=some g->w.heap.size<=g):∀t∈ts,RdE w' t.1 t.2.1/\∀g,c.ownBlock=some g->offB t.1 t.2.1.length g:=fun t j=>by
 obtain⟨d,f⟩:=i t j;refine⟨d.aside h f,fun g a=>?_⟩;rcases b with e|b
 .exact f g (by rw[<-e];exact a)
 .exact d.offNew (b g a)
def zhL{a:Value}{ts:List TriB}(c:∀t∈ts,RdE w t.1 t.2.1/\∀g,v.ownBlock=some g->offB t.1 t.2.1.length g)(b:w.grownBy w' v.ownBlock)(hp:Place w v a) :∀t∈ts,RdE w' t.1 t.2.1/\∀g,a.ownBlock=some g->offB t.1 t.2.1.length g:=zwZ c b hp
def zDI{a:Act}{K:Act->World->Prop}{Q:Exit->Act->World->Prop}{f:Option Tmp}{S:TypeId}{pos:String}{k:Array Edge}{s x:Operand}{C:Option (Nat×Bool)}(base:Nat)(e:Value)(M:a.eval s=e)(J:OwnP w base e ps)(p:Value)(N:a.eval x=p)(us:List TriB)(L:RdG pairE w p (us.map triV))(c:∀t∈us,RdE w t.1 t.2.1/\∀g,e.ownBlock=some g->offB t.1 t.2.1.length g)(A:(ps.length+us.length)*32<=140737488355328)(d:base<=w.heap.size)(B:Nat)(n:World)(H:Below B n w)(l:B<=base)(h:∀j w',OwnP w' base j (ps++us.map (·.2))->Below B n w'->w.grownBy w' e.ownBlock->Place w e j->K (a.put f j) w') :Oper.wp prog ⟨f,.call ⟨.builtin .append,#[s,x],#[33,33]⟩,S,pos,k,C⟩ a w K Q:=by
 obtain⟨ts,rfl,I,m⟩:=J;rw[Ad]at A;refine ze4 zaX base e M I p N L ?_ (by rw[Ad,Ad];exact A) (by rw[Ad,Ad];omega) d B n H l (fun j w' D G u z=>h j w' ⟨ts++us,by rw[AC],by rw[AC];exact D,?_⟩ G u z)
 .intro y O;obtain⟨t,b,rfl⟩:=Au.1 O;exact zcP (c t b).1
 intro t b;have i:∀t∈ts++us,RdE w t.1 t.2.1/\∀g,e.ownBlock=some g->offB t.1 t.2.1.length g:=fun t b=>by
  rcases AD.1 b with b|b
  .exact m t b
  exact c t b
 exact zhL i u z t b
def zdH{j:Array Oper}{Q:Exit->Act->World->Prop}{rest:List Oper}{a:Act}{f:Option Tmp}{S:TypeId}{pos:String}{l:Array Edge}{s x:Operand}(base:Nat)(e:Value)(M:a.eval s=e)(J:OwnP w base e ps)(u:Value)(N:a.eval x=u)(us:List TriB)(L:RdG pairE w u (us.map triV))(c:∀t∈us,RdE w t.1 t.2.1/\∀g,e.ownBlock=some g->offB t.1 t.2.1.length g)(C:(ps.length+us.length)*32<=140737488355328)(d:base<=w.heap.size)(B:Nat)(p:World)(H:Below B p w)(m:B<=base)(h:∀k w',OwnP w' base k (ps++us.map (·.2))->Below B p w'->w.grownBy w' e.ownBlock->Place w e k->wpList prog j Q rest (a.put f k) w') :wpList prog j Q (⟨f,.call ⟨.builtin .append,#[s,x],#[33,33]⟩,S,pos,l,none⟩::rest) a w:=by
 obtain⟨ts,rfl,I,n⟩:=J;rw[Ad]at C;refine zbH zaX base e M I u N L ?_ (by rw[Ad,Ad];exact C) (by rw[Ad,Ad];omega) d B p H m (fun k w' D G z A=>h k w' ⟨ts++us,by rw[AC],by rw[AC];exact D,?_⟩ G z A)
 .intro y O;obtain⟨t,b,rfl⟩:=Au.1 O;exact zcP (c t b).1
 intro t b;have i:∀t∈ts++us,RdE w t.1 t.2.1/\∀g,e.ownBlock=some g->offB t.1 t.2.1.length g:=fun t b=>by
  rcases AD.1 b with b|b
  .exact n t b
  exact c t b
 exact zhL i z A t b
def RdP.parts(h:RdP w v ps):∃us:List TriB,ps=us.map (·.2)/\RdG pairE w v (us.map triV)/\(∀t∈us,RdE w t.1 t.2.1)/\∀(a:World)(B:Nat),Lz w a->∀d:Value,(∀g,d.ownBlock=some g->w.heap.size<=g) ->RdG pairE a v (us.map triV)/\∀t∈us,RdE a t.1 t.2.1/\∀g,d.ownBlock=some g->offB t.1 t.2.1.length g:=by
 obtain⟨ts,e,f,b⟩:=h;refine⟨ts,e,f,b,fun a B i d c=>⟨f.later zaX i l_,fun t j=>⟨(b t j).later i l_,fun g k=>(b t j).offNew (c g k)⟩⟩⟩
def zuQ(cs:List CellB):∀x∈cs.map cellVs,∀u∈x,u.oneCell'=true:=by
 intro x b u a;obtain⟨c,_,rfl⟩:=Au.1 b;simp[cellVs]at a;rcases a with rfl|rfl<;>rfl
def zfP{cs ds:List CellB}{d:Array Oper}{Q:Exit->Act->World->Prop}{rest:List Oper}{a:Act}{c:Option Tmp}{C:TypeId}{pos:String}{g:Array Edge}{s x:Operand}(base:Nat)(e:Value)(z:a.eval s=e)(u:OwnE w base e cs)(k:Value)(A:a.eval x=k)(y:RdE w k ds)(t:(cs.length+ds.length)*24<=140737488355328)(b:base<=w.heap.size)(B:Nat)(j:World)(p:Below B j w)(i:B<=base)(h:∀f w',OwnE w' base f (cs++ds)->Below B j w'->w.grownBy w' e.ownBlock->wpList prog d Q rest (a.put c f) w') :wpList prog d Q (⟨c,.call ⟨.builtin .append,#[s,x],#[67,67]⟩,C,pos,g,none⟩::rest) a w :=
 zcD (E:=zeR) zd5 base e z u k A y (zuQ ds) (by rw[Ad,Ad];exact t) (by rw[Ad,Ad];omega) b B j p i
  (fun f w' l m n=>h f w' (by unfold OwnE;rw[AC];exact l) m n)
def znB(w:World)(base:Nat)(a:base<=w.heap.size):OwnE (w.alloc (.cells #[] 65)) base (.slice (some ⟨w.heap.size,0,none⟩) 0 0) []:=zdR zeR w base a
def OwnE.offB{cs:List CellB}(h:OwnE w base v cs){g:Nat}(e:g<base):offB v cs.length g:=fun i f=>by
 obtain⟨⟨_,b⟩,_⟩:=h;rw[Ad]at b;rcases b with⟨rfl,j⟩|⟨a,cap,c,rfl,d,_⟩
 .omega
 .have:(adr (.slice (some ⟨a,0,none⟩) cs.length cap) (i*2)).block=a:=by rw[zaF]
  omega
def RdP.app(h:RdP w v ps):∃us:List TriB,us.map (·.2)=ps/\us.length=ps.length/\∀(a:World),Lz w a->RdG pairE a v (us.map triV)/\∀b:Value,(∀g,b.ownBlock=some g->w.heap.size<=g)->∀t∈us,RdE a t.1 t.2.1/\∀g,b.ownBlock=some g->offB t.1 t.2.1.length g:=by
 obtain⟨us,e,_,_,d⟩:=h.parts;refine⟨us,e.symm,by rw[e,Ad],fun a f=>⟨(d a 0 f (.slice none 0 0) (fun g i=>by cases i)).1,fun b c=>(d a 0 f b c).2⟩⟩
end
/- -/
def zEX{cs ds:List CellB}{k:Nat}(a:k<cs.length)(b:k<ds.length)(h:cs.take k=ds.take k)(c:cs.getD k default=ds.getD k default):cs.take (k+1)=ds.take (k+1):=by
 rw[zaH a default,zaH b default,h,c]
def zn3(Z v2:Value)(cs ds:List CellB)(w:World)(G:RdE w Z cs)(H:RdE w v2 ds) :Calls prog 47 #[Z,v2] w fun e w'=>e=.returned (.bool (decide (cs=ds)))/\Lz w w':=by
 have Q:=G.len;have S:=H.len;have T:=G.small;have U:=H.small;by_cases N:cs.length=ds.length
 .obtain⟨n,j⟩:=nm_ cs.length;have l:n=ds.length:=by omega
  rw[<-j]at Q T;rw[<-l]at S;have x:=h_ j;have y:=h_ l;have H1:=h_ G;have H2:=h_ H;have I:=h_ (Ac w.heap.size w);clear N j l G H U;go_enter func47,ntmps47;go_wp2;go_loopw [5] (fun i wr=>∃k:Nat,k<=n/\i=.int .i64 k/\Hid (cs.take k=ds.take k)/\Hid (Lz w wr)) (fun i _=>n-(intOf i).toNat)
  case atStart=>exact⟨0,by omega,rfl,h_ rfl,I⟩
  obtain⟨k,hk,rfl,Y,u⟩:=hrel;clear I;by_cases g:k<n
  .have m:=H1.later u.o l_;have p:=H2.later u.o l_;have V:k<cs.length:=(by rw[<-x.o];exact g);have X:k<ds.length:=(by rw[<-y.o];exact g);obtain⟨b1,o1,ah,J,ad⟩:=m.get V;obtain⟨b2,o2,ai,L,ae⟩:=p.get X;obtain⟨z,A⟩:=J _ m;obtain⟨C,D⟩:=L _ p;have b:=h_ (fun he=>zEX V X Y.o he);have a:=h_ (show cs.getD k default≠ds.getD k default->cs≠ds from fun h hh=>h (by rw[hh]));clear m p J L V X;rcases hcg:cs.getD k default with⟨kd,s⟩
   rcases hdg:ds.getD k default with⟨M,t⟩;rw[hcg]at z A;rw[hdg]at C D;rw[hcg,hdg]at b a;dsimp only at z A C D;clear hcg hdg;by_cases c:kd=M
   .subst c;by_cases d:s=t
    .subst d;have O:=h_ (b.o rfl);clear b a;go_wp2;go_quiet (fail);go_wp2;go_roundw
     case rel=>exact⟨k+1,by omega,by go_num,O,h_ (Go.below_drewN u.o _)⟩
     simp[intOf];omega
    have f:=h_ (show decide (cs=ds)=false from Af (a.o (fun h=>d (by injection h))));obtain⟨q1,q2⟩:=zFT d;clear d;clear b a;go_wp2;go_quiet (fail);go_wp2;go_ret;exact⟨by rw[f.o];rfl,Go.below_drewN u.o _⟩
   have f:=h_ (show decide (cs=ds)=false from Af (a.o (fun h=>c (by injection h))));have q1:((kd:Int)==(M:Int))=false:=(by rw[As];omega);have q2:((kd:Int)!=(M:Int))=true:=(by rw[Ao];omega);have q3:(kd==M)=false:=(by simpa using c);have q4:(kd !=M)=true:=(by simpa using c);clear c;clear b a;go_wp2;go_quiet (fail);go_wp2;go_ret;exact⟨by rw[f.o];rfl,Go.below_drewN u.o _⟩
  obtain rfl:k=n:=by omega
  have f:=h_ (show decide (cs=ds)=true from Ah (by
   have:=Y.o;rwa[Am (by rw[<-x.o];exact l_),Am (by rw[<-y.o];exact l_)]at this))
  clear g;go_wp2;go_ret;exact⟨by rw[f.o];rfl,u.o⟩
 have q:((cs.length:Int)!=(ds.length:Int))=true:=by rw[Ao];omega
 have q':(cs.length !=ds.length)=true:=by simpa using N
 have f:=h_ (show decide (cs=ds)=false from Af (fun h=>N (by rw[h])));clear N G H;go_enter func47,ntmps47;go_wp2;go_ret;exact⟨by rw[f.o];rfl,Ac _ _⟩
/- -/
def NewE(w:World)(base:Nat)(rv:Value)(r:List CellB):Prop:=RdE w rv r/\∀i,i<r.length->base<=(adr rv (i*2)).block
def NewP(w:World)(base:Nat)(v:Value)(ps:List PairB):Prop :=
 ∃ts:List TriB,ps=ts.map (·.2)/\RdG pairE w v (ts.map triV)/\(∀i,i<ts.length->base<=(adr v (i*2)).block)/\∀t∈ts,NewE w base t.1 t.2.1
section
variable{w w':World}{v rv:Value}{ps:List PairB}{r:List CellB}{base:Nat}
def NewP.rd(h:NewP w base v ps):RdP w v ps:=by
 obtain⟨ts,e,a,_,b⟩:=h;exact⟨ts,e,a,fun t c=>(b t c).1⟩
def NewP.lower{b':Nat}(h:NewP w base v ps)(c:b'<=base):NewP w b' v ps:=by
 obtain⟨ts,e,f,g,b⟩:=h;exact⟨ts,e,f,fun i a=>Ar c (g i a),fun t d=>⟨(b t d).1,fun i a=>Ar c ((b t d).2 i a)⟩⟩
def NewP.later{B:Nat}(h:NewP w base v ps)(c:Below B w w')(b:w.heap.size<=B):NewP w' base v ps:=by
 obtain⟨ts,e,f,g,a⟩:=h;exact⟨ts,e,f.later zaX c b,g,fun t d=>⟨(a t d).1.later c b,(a t d).2⟩⟩
def NewE.only{S:Nat->Prop}(h:NewE w base rv r)(c:Only S w w')(d:∀q,base<=q->¬S q):NewE w' base rv r:=by
 refine⟨RdG.same h.1 fun i b=>?_,h.2⟩;have a:i<r.length:=by simpa using b
 exact c.block _ (RdG.block h.1 zd5 b) (d _ (h.2 i a))
def NewP.only{S:Nat->Prop}(h:NewP w base v ps)(d:Only S w w')(g:∀q,base<=q->¬S q):NewP w' base v ps:=by
 obtain⟨ts,e,b,c,j⟩:=h;refine⟨ts,e,RdG.same b fun i f=>?_,c,fun t k=>(j t k).only d g⟩;have a:i<ts.length:=by simpa using f
 exact d.block _ (RdG.block b zaX f) (g _ (c i a))
def NewP.nil(w:World)(base:Nat):NewP w base (.slice none 0 0) []:=⟨[],rfl,RdG.nil pairE w,fun i a=>absurd a (by simp),fun t b=>absurd b (by simp)⟩
end
/- -/
def zdE{s:ByteArray}{l:Bs}(h:RdS s l)(u:World):∃v a,(convert 9 34 (.string s)).run prog u=.ok v a/\Rd a v l/\Lz u a:=by
 have b:s.size=l.length:=by rw[h.eq];simp[ByteArray.size]
 have f:=h.small;refine⟨_,_,Lib.run_convert_string_bytes u 9 34 5 s underlying9 underlying34 underlying5,⟨⟨_,_,by rw[b],?_,(by intro h;cases h),fun _=>⟨_,_,rfl⟩⟩,fun i g=>?_,f⟩,?_⟩
 .rw[<-b];exact grownCap_ge _ _ _ _
 .have c:=Lib.bytesWorld_cell u 5 s i (by omega);have e:adr (.slice (some ⟨u.heap.size,0,none⟩) s.size (grownCap u s.size 0 5)) i=⟨u.heap.size,i,none⟩:=by simp[adr,Addr.add];omega
  rw[e,c];unfold at8;rw[show s.data.toList=l from by rw[h.eq]]
 exact⟨rfl,rfl,rfl,by rw[Lib.bytesWorld_size];omega,fun j d=>Lib.bytesWorld_at_old u _ s j d⟩
/- -/
def zlV(v:Value)(r:List CellB)(w:World)(h:RdE w v r)(hn:r.length*24<=140737488351232) :Calls prog 67 #[v] w fun e w'=>∃j,e=.returned j/\OwnE w' w.heap.size j r/\Lz w w':=by
 obtain⟨n,cap,i,a,b,_⟩:=RdG.shape h;generalize hgl:(r.map cellVs).length=n9 at i a;rw[Ad]at hgl;cases n with
 | none=>
  obtain rfl:cap=0:=b rfl;obtain rfl:n9=0:=by omega
  obtain rfl:r=[]:=AR hgl;clear h b a hgl;subst i;have p:=fun u:World=>Bm (P:=prog) u 67 65 none 0 0 0 0 underlying67;go_enter func67,ntmps67;go_wp2;go_ret;exact⟨_,rfl,OwnE.nil _ _,Ac _ _⟩
 | some ad=>
  subst i;have m:=h_ (h.later ((Ac w.heap.size w).alloc l_ (.cells #[] 65)) l_);have l:=h_ (znB w w.heap.size l_);have k:=h_ ((Ac w.heap.size w).alloc l_ (.cells #[] 65));clear h b a hgl;have p:=fun u:World=>Bm (P:=prog) u 67 65 (some ad) n9 cap 0 0 underlying67;go_enter func67,ntmps67;go_wp2_with (with_reducible refine zfP w.heap.size _ ?hs l.o _ ?hx m.o ?hn ?hbase w.heap.size w k.o l_ ?_)
  case hs=>rfl
  case hx=>rfl
  case hn=>simp;omega
  case hbase=>simp
  intro s w4 c d _;rw[AA]at c;have g:=h_ c;have f:=h_ d;clear c d;go_wp2;go_ret;exact⟨_,rfl,g.o,f.o⟩
def zbZ{w:World}{cs ds:List (List Value)}{e:Array Oper}{Q:Exit->Act->World->Prop}{rest:List Oper}{a:Act}{c:Option Tmp}{A:TypeId}{pos:String}{g:Array Edge}{s x:Operand}(base:Nat)(f:Value)(y:a.eval s=f)(p:OwnG pairE w base f cs)(k:Value)(z:a.eval x=k)(t:RdG pairE w k ds)(d:∀x∈ds,∀u∈x,u.oneCell'=true)(n:(cs.length+ds.length)*32<=140737488355328)(b:base<=w.heap.size)(B:Nat)(j:World)(m:Below B j w)(i:B<=base)(h:∀l w',OwnG pairE w' base l (cs++ds)->Below B j w'->w.grownBy w' f.ownBlock->wpList prog e Q rest (a.put c l) w') :wpList prog e Q (⟨c,.call ⟨.builtin .append,#[s,x],#[33,33]⟩,A,pos,g,none⟩::rest) a w :=
 zcD (E:=pairE) zaX base f y p k z t d n (by omega) b B j m i h
def zkR(v:Value)(us:List TriB)(w:World)(h:RdG pairE w v (us.map triV))(y:∀t∈us,RdE w t.1 t.2.1)(hn:us.length*32<=140737488351360) :Calls prog 66 #[v] w fun e w'=>∃j,e=.returned j/\OwnG pairE w' w.heap.size j (us.map triV)/\Lz w w':=by
 obtain⟨p,cap,i,a,b,_⟩:=RdG.shape h;generalize hgl:(us.map triV).length=n9 at i a;rw[Ad]at hgl;cases p with
 | none=>
  obtain rfl:cap=0:=b rfl;obtain rfl:n9=0:=by omega
  obtain rfl:us=[]:=AR hgl;clear h b a hgl;subst i;have s:=fun u:World=>Bm (P:=prog) u 33 69 none 0 0 0 0 underlying33;go_enter func66,ntmps66;go_wp2;go_ret;exact⟨_,rfl,OwnG.nil _ _ _,Ac _ _⟩
 | some ad=>
  subst i;have n:=h_ (RdG.later h zaX ((Ac w.heap.size w).alloc l_ (.cells #[] 69)) l_);have k:=h_ (show ∀x∈us.map triV,∀u∈x,u.oneCell'=true from fun x hx u A=>by
   obtain⟨t,z,rfl⟩:=Au.1 hx;exact zcP (y t z) u A)
  have m:=h_ (show OwnG pairE (w.alloc (.cells #[] 69)) w.heap.size (.slice (some ⟨w.heap.size,0,none⟩) 0 0) []from zdR pairE w w.heap.size l_);have l:=h_ ((Ac w.heap.size w).alloc l_ (.cells #[] 69));clear h b a hgl;have s:=fun u:World=>Bm (P:=prog) u 33 69 (some ad) n9 cap 0 0 underlying33;go_enter func66,ntmps66;go_wp2_with (with_reducible refine zbZ w.heap.size _ ?hs m.o _ ?hx n.o k.o ?hn ?hbase w.heap.size w l.o l_ ?_)
  case hs=>rfl
  case hx=>rfl
  case hn=>simp;omega
  case hbase=>simp
  intro C w4 c d _;rw[AA]at c;have g:=h_ c;have f:=h_ d;clear c d;go_wp2;go_ret;exact⟨_,rfl,g.o,f.o⟩
/- -/
def zwM{w:World}{e:Array Oper}{Q:Exit->Act->World->Prop}{rest:List Oper}{a:Act}{b:Option Tmp}{m:TypeId}{pos:String}{f:Array Edge}{s x:Operand}(n:Nat)(z:a.eval s=.slice none 0 0)(A:a.eval x=.int .i64 (n:Int))(p:0<n)(C:n*32<=140737488355328)(h:∀cap(c:Array Value),n<=cap->cap<=maxLen->c.size=cap*2->wpList prog e Q rest (a.put b (.slice (some ⟨w.heap.size,0,none⟩) n cap)) (w.drew.alloc (.cells c 69))) :wpList prog e Q (⟨b,.call ⟨.builtin .append,#[s,x],#[33,3]⟩,m,pos,f,none⟩::rest) a w:=by
 obtain⟨k,y,g,i,j⟩:=info_parts zaX.info;have l:k.size=2:=i;have d:k.bytes=32:=j;refine Lib.wpList_append_run w rfl s x _ _ rfl _ _ z A _ _ (Lib.run_append_nil_zeros w 33 3 m 69 k pairE.zero .i64 .i64 underlying33 underlying3 y g n p (by omega) (by omega) (by rw[d];omega)) ?_;refine h _ _ (grownCap_ge w n 0 _) (grownCap_le_maxLen w n 0 _ (by unfold maxLen;omega)) ?_;have u:=grownCap_ge w n 0 69;have t:pairE.zero.cells.size=2:=rfl;rw[Array.size_append,size_zeroCells,size_zeroCells,t];omega
def zxM(n:Nat)(hn:n*32<=140737488355328)(w:World) :Calls prog 199 #[.slice none 0 0,.int .i64 (n:Int)] w fun e w'=>∃v,e=.returned v/\OwnG pairE w' w.heap.size v []/\Lz w w':=by
 have j:n<=140737488355328:=by omega
 by_cases h0:n=0
 .subst h0;go_enter func199,ntmps199;go_wp2;go_ret;exact⟨_,rfl,OwnG.nil _ _ _,Ac _ _⟩
 have d:decide ((0:Int)<(n:Int))=true:=Ah (by omega);go_enter func199,ntmps199;go_wp2_with (with_reducible refine zwM n ?hs ?hx ?h0 ?hn ?_)
 case hs=>rfl
 case hx=>rfl
 case h0=>omega
 case hn=>omega
 intro cap c h a b;have g:=h_ (show OwnG pairE (w.drew.alloc (.cells c 69)) w.heap.size (.slice (some ⟨w.heap.size,0,none⟩) 0 cap) []from
  ⟨⟨rfl,.inr ⟨w.heap.size,cap,c,rfl,l_,AB w.drew _,by simp,a,b,by simp⟩⟩,by simp,by simp⟩)
 have f:=h_ ((Ac w.heap.size w).drew.alloc l_ (.cells c 69));have i:cap<=9223372036854775807:=by unfold maxLen at a;omega
 clear a b;go_wp2;go_ret;exact⟨_,rfl,g.o,f.o⟩
def slsE:Elt:=⟨105,33,1,24,.slice none 0 0⟩
def zIF:slsE.Ok:=⟨underlying105,by kernel_rfl,by kernel_rfl,rfl,by decide⟩
def zGZ(w:World)(b c:Value):RdG slsE (w.alloc (.cells #[b,c] 33)) (.slice (some ⟨w.heap.size,0,none⟩) 2 2) [[b],[c]]:=by
 have d:=AB w (.cells #[b,c] 33);refine⟨⟨_,_,rfl,by simp,(by intro h;cases h),fun _=>⟨_,_,rfl⟩⟩,fun i e j u a=>?_,by simp[slsE],by simp⟩;rw[zaF,Ag _ _ _ _ _ _ d];obtain rfl|rfl:i=0\/i=1:=by simp at e;omega
 .cases j with
  | zero=>simpa[slsE]using a
  | succ j=>simp at a
 cases j with
 | zero=>simpa[slsE]using a
 | succ j=>simp at a
def zIG{w:World}{v c d:Value}(h:RdG slsE w v [[c],[d]])(i:Nat)(e:i<2):∃b o,(∀u,(Instr.indexAt 105 v (.int .i64 (i:Int))).run prog u=.ok (.pointer (some ⟨b,o,none⟩)) u)/\w.cell? ⟨b,o,none⟩=some (if i=0 then c else d)/\b<w.heap.size :=by
 have f:=RdG.idx h zIF i e;obtain⟨b,o,g,j⟩:=RdG.at h (i:=i) e;rw[g]at f
 have a:=j 0 (if i=0 then c else d) (by obtain rfl|rfl:i=0\/i=1:=by omega
                                        all_goals rfl)
 exact⟨b,o,f,a,AI w _ a⟩
def upto2(n m k:Nat):Nat:=if k=0 then 0 else if k=1 then n else n+m
def zz4(a b:List TriB)(k:Nat):List TriB:=if k=0 then[]else if k=1 then a else a++b
def zr8(v va vb:Value)(a b:List TriB)(w:World)(M:RdG slsE w v [[va],[vb]])(S:RdG pairE w va (a.map triV))(T:RdG pairE w vb (b.map triV))(y:∀t∈a,RdE w t.1 t.2.1)(z:∀t∈b,RdE w t.1 t.2.1)(hn:(a.length+b.length)*32<=140737488355328) :Calls prog 161 #[v] w fun e w'=>∃v',e=.returned v'/\OwnG pairE w' w.heap.size v' ((a++b).map triV)/\Lz w w':=by
 have hl:=RdG.len M zIF;have Z:∀u,(Builtin.len_ #[33] 3 #[va]).run prog u=.ok (.int .i64 (a.length:Int)) u:=by
  have:=RdG.len S zaX;rw[Ad]at this;exact this
 have aa:∀u,(Builtin.len_ #[33] 3 #[vb]).run prog u=.ok (.int .i64 (b.length:Int)) u:=by
  have:=RdG.len T zaX;rw[Ad]at this;exact this
 obtain⟨n,s⟩:=nm_ a.length;obtain⟨m,l⟩:=nm_ b.length;have ar:=h_ M;obtain⟨b0,o0,aw,I,X⟩:=zIG M 0 (by omega);obtain⟨b1,o1,ax,J,Y⟩:=zIG M 1 (by omega);rw[Ab rfl]at I;rw[Aa (by omega)]at J;rw[<-s]at Z hn;rw[<-l]at aa hn;have HA:=h_ S;have HB:=h_ T;have ap:=h_ y;have aq:=h_ z;have O:=h_ (show ∀x∈a.map triV,∀u∈x,u.oneCell'=true from fun x hx u hu=>by
  obtain⟨t,ht,rfl⟩:=Au.1 hx;exact zcP (y t ht) u hu)
 have Q:=h_ (show ∀x∈b.map triV,∀u∈x,u.oneCell'=true from fun x hx u hu=>by
  obtain⟨t,ht,rfl⟩:=Au.1 hx;exact zcP (z t ht) u hu)
 have HN:=h_ s;have HM:=h_ l;have GR:=h_ (fun(k:Nat)(V:k*32<=140737488355328)(wz:World)=>zxM k V wz);have ay:∀u,(Builtin.len_ #[105] 3 #[v]).run prog u=.ok (.int .i64 2) u:=hl;clear M S T y z s l hl;go_enter func161,ntmps161;go_wp2;go_loopw [3,11] (fun x i wr=>∃k:Nat,k<=2/\i=.int .i64 k/\x=.int .i64 (upto2 n m k:Nat)/\w=wr) (fun _ i _=>2-(intOf i).toNat)
 case atStart=>exact⟨0,by omega,rfl,rfl,rfl⟩
 obtain⟨k,V,rfl,rfl,rfl⟩:=hrel;obtain rfl|rfl|rfl:k=0\/k=1\/k=2:=by omega
 .rw[show upto2 n m 0=0 from rfl,show((0:Nat):Int)=0 from rfl]at *;go_wp2;go_roundw
  case rel=>exact⟨1,by omega,rfl,by show Value.int IntKind.i64 _=Value.int IntKind.i64 _;rfl,trivial⟩
  simp[intOf]
 .rw[show upto2 n m 1=n from rfl,show((1:Nat):Int)=1 from rfl]at *;go_wp2;go_roundw
  case rel=>exact⟨2,by omega,rfl,by show Value.int IntKind.i64 _=Value.int IntKind.i64 ((n+m:Nat):Int);push_cast;rfl,trivial⟩
  simp[intOf]
 rw[show upto2 n m 2=n+m from rfl,show((2:Nat):Int)=2 from rfl]at *;go_wp2_with fail;refine(GR.o (n+m) (by omega) _).mono ?_;rintro e w1⟨v1,rfl,L,H⟩;have D:=h_ L;have A:=h_ H;clear L H GR;go_wp2;go_loopw [6,27] (fun tv i wq=>∃(k:Nat)(N:Value),N=tv/\k<=2/\i=.int .i64 k/\Hid (OwnG pairE wq w.heap.size N ((zz4 a b k).map triV))/\Hid (Lz w wq)) (fun _ i _=>2-(intOf i).toNat)
 case atStart=>exact⟨0,_,rfl,by omega,rfl,D,A⟩
 clear D A;obtain⟨k,N,rfl,V,rfl,C,c⟩:=hrel;obtain rfl|rfl|rfl:k=0\/k=1\/k=2:=by omega
 .rw[show((0:Nat):Int)=0 from rfl]at *;have U:=(c.cell (p:=⟨b0,o0,none⟩) X).trans I;have G:=h_ (RdG.later HA.o zaX c.o l_);have f:=h_ (show OwnG pairE wr w.heap.size N (([]:List TriB).map triV)from C.o);have ab:=c.size;clear C;go_wp2_with (with_reducible refine zbZ w.heap.size _ ?hs f.o _ ?hx G.o O.o ?hn ?hbase w.heap.size w c.o l_ ?_)
  case hs=>rfl
  case hx=>rfl
  case hn=>simp;rw[<-HN.o];omega
  case hbase=>omega
  intro v4 w4 d g _;have j:=h_ (show OwnG pairE w4 w.heap.size v4 ((zz4 a b 1).map triV)from by
   rw[<-AC]at d;exact d)
  have h:=h_ g;clear d g f G;go_wp2;go_roundw
  case rel=>exact⟨1,_,rfl,by omega,rfl,j,h⟩
  simp[intOf]
 .rw[show((1:Nat):Int)=1 from rfl]at *;have U:=(c.cell (p:=⟨b1,o1,none⟩) Y).trans J;have G:=h_ (RdG.later HB.o zaX c.o l_);have f:=h_ (show OwnG pairE wr w.heap.size N ((a:List TriB).map triV)from C.o);have ab:=c.size;clear C;go_wp2_with (with_reducible refine zbZ w.heap.size _ ?hs f.o _ ?hx G.o Q.o ?hn ?hbase w.heap.size w c.o l_ ?_)
  case hs=>rfl
  case hx=>rfl
  case hn=>simp;rw[<-HN.o,<-HM.o];omega
  case hbase=>omega
  intro v4 w4 d g _;have j:=h_ (show OwnG pairE w4 w.heap.size v4 ((zz4 a b 2).map triV)from by
   rw[<-AC]at d;exact d)
  have h:=h_ g;clear d g f G;go_wp2;go_roundw
  case rel=>exact⟨2,_,rfl,by omega,rfl,j,h⟩
  simp[intOf]
 rw[show((2:Nat):Int)=2 from rfl]at *;go_wp2;go_ret;exact⟨_,rfl,C.o,c.o⟩
/- -/
def zl5(cs:List CellB):∀x∈cs.map cellVs,x.length=zeR.n:=fun x a=>by
 obtain⟨c,_,rfl⟩:=Au.1 a;rfl
def zoV(cs:List CellB):∀x∈cs.map cellVs,∀u∈x,u.oneCell'=true:=fun x b u a=>by
 obtain⟨c,_,rfl⟩:=Au.1 b;simp[cellVs]at a;rcases a with rfl|rfl<;>rfl
def znU(x:Int)(n:Nat)(a:x%18446744073709551616=(n:Int))(w:World) :Calls prog 25 #[.int .i64 x] w fun e w'=>e=.returned (.agg #[.int .u64 (n:Int),.string ⟨#[]⟩])/\Lz w w':=by
 have b:IntKind.u64.wrap x=(n:Int):=by
  have:IntKind.u64.wrap x=x%18446744073709551616:=by simp[IntKind.wrap,IntKind.signed,IntKind.bits]
  omega
 clear a;go_enter func25,ntmps25;go_wp2;refine bodyPost_ret (by simp[results,results25,go_sem];try rfl) rfl ?_;exact⟨rfl,(Ac _ _).alloc l_ _⟩
end
end Go.Proofs.YtgboedffaangeaaGreatDoor
namespace Go.Proofs.YtgboedffaangeaaGreatDoor.Flt
open _root_.Go.Proofs.Tryz
open Ieee
def B:Nat:=4503599627370496
def W:Nat:=9223372036854775808
def R:Nat:=9218868437227405312
def zCY:double.binade=B:=by decide
def zyY:double.signWeight=W:=by decide
def zGT:double.infRung=R:=by decide
def val(a:Nat):Nat:=if a<B then a else(B+a%B)*2^(a/B-1)
def zz1{a b:Nat}(h:a<b):val a<val b:=by
 have f:0<B:=by decide
 unfold val;by_cases e:a<B
 .rw[Ab e];by_cases c:b<B
  .rw[Ab c];exact h
  rw[Aa c];have:1<=2^(b/B-1):=Nat.one_le_two_pow;have:(B+b%B)*1<=(B+b%B)*2^(b/B-1):=Bn _ this;omega
 have c:¬b<B:=by omega
 rw[Aa e,Aa c];have g:=Nat.div_add_mod a B;have r:=Nat.div_add_mod b B;have t:=Nat.mod_lt a f;have u:=Nat.mod_lt b f;have s:1<=a/B:=by
  rcases C6 (a/B)with h|h
  .rw[h]at g;omega
  exact h
 have i:a/B<=b/B:=Nat.div_le_div_right (Nat.le_of_lt h);rcases Cu (a/B) (b/B)with k|j
 .have l:(B+a%B)*2^(a/B-1)<2*B*2^(a/B-1):=Nat.mul_lt_mul_of_pos_right (by omega) (BP _);have m:2*B*2^(a/B-1)=B*2^(a/B):=by
   obtain⟨q,i⟩:∃q,a/B=q+1:=⟨a/B-1,by omega⟩;rw[i,Bv,Bl];rw[BS 2 B,CY,BS 2]
  have n:B*2^(a/B)<=B*2^(b/B-1):=Bn _ (BE (by decide) (by omega));have p:B*2^(b/B-1)<=(B+b%B)*2^(b/B-1):=Cb _ (by omega);omega
 have d:a/B=b/B:=by omega
 rw[d]at g ⊢;have:a%B<b%B:=by omega
 exact Nat.mul_lt_mul_of_pos_right (by omega) (BP _)
def zI9{a b:Nat}:val a<=val b↔a<=b:=by
 constructor
 ·intro h;rcases Cu b a with c|c
  .have:=zz1 c;omega
  exact c
 intro h;rcases Cu a b with c|c
 .exact Nat.le_of_lt (zz1 c)
 have:a=b:=by omega
 rw[this];exact AK _
def zmO{a b:Nat}:val a<val b↔a<b:=by
 have:=zI9 (a:=b) (b:=a);omega
def key(x:Nat):Int:=if x<W then(x:Int)else -((x-W:Nat):Int)
def nan(x:Nat):Bool:=decide (R<x%W)
def ztS(x:Nat)(b:x<2*W):double.read x = (if x%W<B then .number (decide (W<=x)) (x%W) double.leastPlace else if x%W<R then .number (decide (W<=x)) (B+x%W%B) (double.leastPlace+(x%W/B-1:Nat)) else if x%W=R then .infinity (decide (W<=x)) else .nan (decide (W<=x)) (x%W-R)):=by
 have a:(x/W%2==1)=decide (W<=x):=by
  by_cases h:W<=x
  .have:x/W=1:=(by simp only[W]at *;omega);rw[this];simp[h]
  have:x/W=0:=by simp only[W]at *;omega
  rw[this];simp[h]
 unfold Format.read;rw[zCY,zyY,zGT];simp only[a]
def zCL{p q a b:Int}(c:p<q↔a<b)(d:q<p↔b<a):compare p q=compare a b:=by
 rcases CI p q with h|h|h
 .rw[Cp.2 h,Cp.2 (c.1 h)]
 .have:a=b:=by omega
  rw[Dd.2 h,Dd.2 this]
 rw[Cq.2 h,Cq.2 (d.1 h)]
def zoS{x:Nat}(b:x<2*W)(h:x%W<R):∃m k,double.read x=.number (decide (W<=x)) m (double.leastPlace+(k:Nat))/\m*2^k=val (x%W):=by
 rw[ztS x b];by_cases a:x%W<B
 .refine⟨x%W,0,?_,?_⟩
  .rw[Ab a];simp
  unfold val;rw[Ab a];simp
 refine⟨B+x%W%B,x%W/B-1,?_,?_⟩
 .rw[Aa a,Ab h]
 unfold val;rw[Aa a]
def zqE(s:Bool)(m u:Nat):signed s m u=if s then -((m*2^u:Nat):Int)else((m*2^u:Nat):Int):=by
 unfold signed;rw[Nat.shiftLeft_eq]
def zG6(x:Nat)(a:x<2*W):key x=if decide (W<=x)=true then -((x%W:Nat):Int)else((x%W:Nat):Int):=by
 unfold key;by_cases h:W<=x
 .rw[Aa (by omega),Ab (by simpa using h)];have:x%W=x-W:=by simp only[W]at *;omega
  rw[this]
 rw[Ab (by omega),Aa (by simpa using h)];have:x%W=x:=BA (by omega);rw[this]
def zGO{a b A C:Nat}(s t:Bool)(c:A<C↔a<b)(d:C<A↔b<a)(e:A=0↔a=0)(f:C=0↔b=0) :compare (if s=true then -(A:Int)else(A:Int)) (if t=true then -(C:Int)else(C:Int))=compare (if s=true then -(a:Int)else(a:Int)) (if t=true then -(b:Int)else(b:Int)):=by
 cases s<;>cases t<;>simp only[if_true,Bool.false_eq_true,if_false]<;>exact zCL (by omega) (by omega)
def zv4{a:Nat}:val a=0↔a=0:=by
 have c:val 0=0:=by decide
 constructor
 ·intro h;rcases C6 a with b|b
  .exact b
  have:=zz1 b;omega
 rintro rfl;exact c
def order_eq(x y:Nat)(g:x<2*W)(c:y<2*W):double.order x y=if nan x=true\/nan y=true then none else some (compare (key x) (key y)):=by
 unfold Format.order;have G:∀z,nan z=true↔R<z%W:=fun z=>by unfold nan;simp
 simp only[G];rw[zG6 x g,zG6 y c];have b:∀z,z<2*W->z%W=R->double.read z=.infinity (decide (W<=z)):=fun z u h=>by
  rw[ztS z u,Aa (by rw[h];decide),Aa (by omega),Ab h]
 have f:∀z,z<2*W->R<z%W->double.read z=.nan (decide (W<=z)) (z%W-R):=fun z u h=>by
  have:B<=R:=by decide
  rw[ztS z u,Aa (by omega),Aa (by omega),Aa (by omega)]
 by_cases v:R<x%W
 .rw[Ab (.inl v),f x g v];rfl
 by_cases w:R<y%W
 .rw[Ab (.inr w),f y c w];cases double.read x<;>rfl
 rw[Aa (by omega)];generalize hs:decide (W<=x)=s;generalize ht:decide (W<=y)=t;by_cases i:x%W=R
 .rw[b x g i,hs];by_cases d:y%W=R
  .rw[b y c d,ht,i,d];cases s<;>cases t<;>rfl
  obtain⟨n,j,e,_⟩:=zoS c (by omega);rw[e,ht,i];have C:y%W<R:=by omega
  cases s with
  | true=>
   show some (if true=true then Ordering.lt else Ordering.gt)=_;rw[Ab rfl,Ab rfl,Cp.2 (by cases t<;>simp<;>omega)]
  | false=>
   show some (if false=true then Ordering.lt else Ordering.gt)=_;rw[Aa (by simp),Aa (by simp),Cq.2 (by cases t<;>simp<;>omega)]
 obtain⟨m,k,e,E⟩:=zoS g (by omega);rw[e,hs];have D:x%W<R:=by omega
 by_cases d:y%W=R
 .rw[b y c d,ht,d];cases t with
  | true=>
   show some (if true=true then Ordering.gt else Ordering.lt)=_;rw[Ab rfl,Ab rfl,Cq.2 (by cases s<;>simp<;>omega)]
  | false=>
   show some (if false=true then Ordering.gt else Ordering.lt)=_;simp only[Bool.false_eq_true,if_false];rw[Cp.2 (by cases s<;>simp<;>omega)]
 obtain⟨n,j,A,r⟩:=zoS c (by omega);rw[A,ht];show some (compare (signed s m (double.leastPlace+(k:Nat)-min (double.leastPlace+(k:Nat)) (double.leastPlace+(j:Nat))).toNat) (signed t n (double.leastPlace+(j:Nat)-min (double.leastPlace+(k:Nat)) (double.leastPlace+(j:Nat))).toNat))=_;obtain⟨q,H⟩:=nm_ (min k j);rw[show(double.leastPlace+(k:Nat)-min (double.leastPlace+(k:Nat)) (double.leastPlace+(j:Nat))).toNat=k-q from by omega,show(double.leastPlace+(j:Nat)-min (double.leastPlace+(k:Nat)) (double.leastPlace+(j:Nat))).toNat=j-q from by omega,zqE,zqE];have l:m*2^(k-q)*2^q=val (x%W):=by rw[CY,<-CE,Nat.sub_add_cancel (by omega)];exact E
 have p:n*2^(j-q)*2^q=val (y%W):=by rw[CY,<-CE,Nat.sub_add_cancel (by omega)];exact r
 have hp:=BP q;congr 1;refine zGO s t ?_ ?_ ?_ ?_
 .rw[<-zmO (a:=x%W),<-l,<-p];exact(Nat.mul_lt_mul_right hp).symm
 .rw[<-zmO (a:=y%W),<-l,<-p];exact(Nat.mul_lt_mul_right hp).symm
 .rw[<-zv4 (a:=x%W),<-l];exact⟨fun h=>by rw[h,Nat.zero_mul],fun h=>(Nat.mul_eq_zero.1 h).resolve_right (by omega)⟩
 rw[<-zv4 (a:=y%W),<-p];exact⟨fun h=>by rw[h,Nat.zero_mul],fun h=>(Nat.mul_eq_zero.1 h).resolve_right (by omega)⟩
end Go.Proofs.YtgboedffaangeaaGreatDoor.Flt
/- -/
namespace Go.Proofs.YtgboedffaangeaaGreatDoor
open _root_.Go.Proofs.Tryz
open Go.RowKit
def zl3(x:Nat)(w:World):(callFunc 204 #[.int .u64 (x:Int)]).run prog w=.ok (.value (.float .f64 x)) w:=by
 have:=run_callFunc_extern (P:=prog) (f:=204) (e:=Extern.MathFloatBits.float64frombits) func204 (by kernel_rfl) (by kernel_rfl) (by kernel_rfl) (by kernel_rfl) #[.int .u64 (x:Int)] w;rw[this];rfl
def zIS(x:Nat)(a:x<18446744073709551616):(FloatKind.f64.format.order x x !=some Ordering.eq)=Flt.nan x:=by
 have h:=Flt.order_eq x x (by simpa[Flt.W]using a) (by simpa[Flt.W]using a);have e:FloatKind.f64.format.order x x=Ieee.double.order x x:=rfl;rw[e,h];cases hn:Flt.nan x with
 | true=>simp
 | false=>simp
def zhS(x:Nat)(a:x<18446744073709551616)(w:World) :Calls prog 236 #[.float .f64 x] w fun e w'=>e=.returned (.bool (Flt.nan x))/\w=w':=by
 go_enter func236,ntmps236;have b:=zIS x a;go_wp2;go_ret;exact⟨rfl,rfl⟩
def placeC(x:Nat):Nat:=if Flt.nan x=true then(if 9223372036854775808<=x then 0 else 2)else 1
def zb7(x:Nat)(a:x<18446744073709551616)(w:World) :Calls prog 203 #[.int .u64 (x:Int)] w fun e w'=>e=.returned (.int .i64 (placeC x:Nat))/\w=w':=by
 have f:=zl3 x;cases hn:Flt.nan x with
 | true=>
  by_cases b:9223372036854775808<=x
  .rw[show placeC x=0 from by unfold placeC;rw[Ab hn,Ab b]];have d:decide ((9223372036854775808:Int)<=(x:Int))=true:=Ah (by omega);go_enter func203,ntmps203;go_wp2_with fail;refine(zhS x a _).mono ?_;rintro e c⟨rfl,rfl⟩;rw[hn];go_wp2;go_ret;exact⟨rfl,rfl⟩
  rw[show placeC x=2 from by unfold placeC;rw[Ab hn,Aa b]];have d:decide ((9223372036854775808:Int)<=(x:Int))=false:=Af (by omega);go_enter func203,ntmps203;go_wp2_with fail;refine(zhS x a _).mono ?_;rintro e c⟨rfl,rfl⟩;rw[hn];go_wp2;go_ret;exact⟨rfl,rfl⟩
 | false=>
  rw[show placeC x=1 from by unfold placeC;rw[Aa (by simp[hn])]];go_enter func203,ntmps203;go_wp2_with fail;refine(zhS x a _).mono ?_;rintro e c⟨rfl,rfl⟩;rw[hn];go_wp2;go_ret;exact⟨rfl,rfl⟩
def tkey(x:Nat):Int:=if x<9223372036854775808 then(x:Int)else 9223372036854775807-(x:Int)
def zu0(x:Nat):Flt.nan x=true↔9218868437227405312<x%9223372036854775808:=by
 unfold Flt.nan;rw[decide_eq_true_iff];rfl
variable {p x y:Nat}
def zb1(h:placeC x=p):(p=0/\9218868437227405312<x%9223372036854775808/\9223372036854775808<=x)\/(p=2/\9218868437227405312<x%9223372036854775808/\¬9223372036854775808<=x)\/(p=1/\¬9218868437227405312<x%9223372036854775808):=by
 unfold placeC at h;by_cases a:Flt.nan x=true
 .rw[Ab a]at h;have b:=(zu0 x).1 a;by_cases c:9223372036854775808<=x
  .rw[Ab c]at h;exact .inl ⟨h.symm,b,c⟩
  rw[Aa c]at h;exact .inr (.inl ⟨h.symm,b,c⟩)
 rw[Aa a]at h;exact .inr (.inr ⟨h.symm,fun b=>a ((zu0 x).2 b)⟩)
def zwR {q:Nat}(d:x<18446744073709551616)(e:y<18446744073709551616)(hp:placeC x=p)(a:placeC y=q)(h:p≠q):decide (tkey x<tkey y)=decide (p<q):=by
 have b:=zb1 hp;have c:=zb1 a;rw[decide_eq_decide];unfold tkey;split<;>split<;>omega
def zID(d:x<18446744073709551616)(e:y<18446744073709551616)(hp:placeC x=0)(a:placeC y=0):decide (tkey x<tkey y)=decide (x>y):=by
 have b:=zb1 hp;have c:=zb1 a;rw[decide_eq_decide];unfold tkey;split<;>split<;>omega
def zIC(d:x<18446744073709551616)(e:y<18446744073709551616)(hp:placeC x=2)(a:placeC y=2):decide (tkey x<tkey y)=decide (x<y):=by
 have b:=zb1 hp;have c:=zb1 a;rw[decide_eq_decide];unfold tkey;split<;>split<;>omega
def zr6(hp:placeC x=1):Flt.nan x=false:=by
 have a:=zb1 hp;cases h:Flt.nan x with
 | false=>rfl
 | true=>have:=(zu0 x).1 h;omega
def znF(h:x<9223372036854775808):Flt.key x=x:=Ab h
def znG(h:¬x<9223372036854775808):Flt.key x=-((x-9223372036854775808:Nat):Int):=Aa h
def zg0(h:x<9223372036854775808):tkey x=x:=Ab h
def zg1(h:¬x<9223372036854775808):tkey x=9223372036854775807-(x:Int):=Aa h
def zzN(d:Flt.key x=0)(c:Flt.key y=0):decide (tkey x<tkey y)=decide (x>y):=by
 rw[decide_eq_decide];by_cases a:x<9223372036854775808
 .rw[znF a]at d;rw[zg0 a];by_cases b:y<9223372036854775808
  .rw[znF b]at c;rw[zg0 b];omega
  rw[znG b]at c;rw[zg1 b];omega
 rw[znG a]at d;rw[zg1 a];by_cases b:y<9223372036854775808
 .rw[znF b]at c;rw[zg0 b];omega
 rw[znG b]at c;rw[zg1 b];omega
def zvG(h:¬(Flt.key x=0/\Flt.key y=0)):decide (tkey x<tkey y)=decide (Flt.key x<Flt.key y):=by
 rw[decide_eq_decide];by_cases a:x<9223372036854775808
 .rw[znF a]at h ⊢;rw[zg0 a];by_cases b:y<9223372036854775808
  .rw[znF b]at h ⊢;rw[zg0 b]
  rw[znG b]at h ⊢;rw[zg1 b];omega
 rw[znG a]at h ⊢;rw[zg1 a];by_cases b:y<9223372036854775808
 .rw[znF b]at h ⊢;rw[zg0 b];omega
 rw[znG b]at h ⊢;rw[zg1 b];omega
def ford(c:x<18446744073709551616)(d:y<18446744073709551616)(a:Flt.nan x=false)(b:Flt.nan y=false):FloatKind.f64.format.order x y=some (compare (Flt.key x) (Flt.key y)):=by
 have e:FloatKind.f64.format.order x y=Ieee.double.order x y:=rfl;rw[e,Flt.order_eq x y (by simpa[Flt.W]using c) (by simpa[Flt.W]using d),Aa (by simp[a,b])]
def zEM:Flt.key 0=0:=by decide
def zw5(c:x<18446744073709551616)(b:Flt.nan x=false):(FloatKind.f64.format.order x 0==some Ordering.eq)=decide (Flt.key x=0):=by
 rw[ford c (by decide) b (by decide),zEM];by_cases h:Flt.key x=0
 .rw[Dd.2 h,Ah h];rfl
 rw[Af h];rcases CI (Flt.key x) 0 with a|a|a
 .rw[Cp.2 a];rfl
 .exact absurd a h
 rw[Cq.2 a];rfl
def zHG(c:x<18446744073709551616)(d:y<18446744073709551616)(a:Flt.nan x=false)(b:Flt.nan y=false):(FloatKind.f64.format.order x y==some Ordering.lt)=decide (Flt.key x<Flt.key y):=by
 rw[ford c d a b];rcases CI (Flt.key x) (Flt.key y)with h|h|h
 .rw[Cp.2 h,Ah h];rfl
 .rw[Dd.2 h,Af (by omega)];rfl
 rw[Cq.2 h,Af (by omega)];rfl
def zx5(x y:Nat)(h:x<18446744073709551616)(i:y<18446744073709551616)(s t:ByteArray)(l m:Bs)(w:World)(b:RdS s l)(c:RdS t m) :Calls prog 166 #[.int .i64 0,cellV x s,cellV y t] w fun e w'=>e=.returned (.bool (decide (wrap64 (x:Int)<wrap64 (y:Int))))/\Lz w w':=by
 have f:=b.toList;have g:=c.toList;have a:Lz w ((w.alloc (.cells #[.int .u64 (x:Int),.string s] 65)).alloc (.cells #[.int .u64 (y:Int),.string t] 65)):=((Ac _ w).alloc l_ _).alloc (by simp) _;have d:=h_ a;clear b c a;unfold cellV;go_enter func166,ntmps166;go_wp2;go_ret;exact⟨rfl,d.o⟩
def zx4(x y:Nat)(h:x<18446744073709551616)(i:y<18446744073709551616)(s t:ByteArray)(l m:Bs)(w:World)(b:RdS s l)(c:RdS t m) :Calls prog 166 #[.int .i64 1,cellV x s,cellV y t] w fun e w'=>e=.returned (.bool (decide (x<y)))/\Lz w w':=by
 have f:=b.toList;have g:=c.toList;have a:Lz w ((w.alloc (.cells #[.int .u64 (x:Int),.string s] 65)).alloc (.cells #[.int .u64 (y:Int),.string t] 65)):=((Ac _ w).alloc l_ _).alloc (by simp) _;have d:=h_ a;clear b c a;unfold cellV;go_enter func166,ntmps166;go_wp2;go_ret;exact⟨rfl,d.o⟩
def zx3(x y:Nat)(h:x<18446744073709551616)(i:y<18446744073709551616)(s t:ByteArray)(l m:Bs)(w:World)(b:RdS s l)(c:RdS t m) :Calls prog 166 #[.int .i64 2,cellV x s,cellV y t] w fun e w'=>e=.returned (.bool (decide (x<y)))/\Lz w w':=by
 have f:=b.toList;have g:=c.toList;have a:Lz w ((w.alloc (.cells #[.int .u64 (x:Int),.string s] 65)).alloc (.cells #[.int .u64 (y:Int),.string t] 65)):=((Ac _ w).alloc l_ _).alloc (by simp) _;have d:=h_ a;clear b c a;unfold cellV;go_enter func166,ntmps166;go_wp2;go_ret;exact⟨rfl,d.o⟩
def zx2(x y:Nat)(h:x<18446744073709551616)(i:y<18446744073709551616)(s t:ByteArray)(l m:Bs)(w:World)(b:RdS s l)(c:RdS t m) :Calls prog 166 #[.int .i64 3,cellV x s,cellV y t] w fun e w'=>e=.returned (.bool (Op.bytesLess l m))/\Lz w w':=by
 have f:=b.toList;have g:=c.toList;have a:Lz w ((w.alloc (.cells #[.int .u64 (x:Int),.string s] 65)).alloc (.cells #[.int .u64 (y:Int),.string t] 65)):=((Ac _ w).alloc l_ _).alloc (by simp) _;have d:=h_ a;clear b c a;unfold cellV;go_enter func166,ntmps166;go_wp2;go_ret;exact⟨rfl,d.o⟩
def zx1(x y:Nat)(h:x<18446744073709551616)(i:y<18446744073709551616)(s t:ByteArray)(l m:Bs)(w:World)(b:RdS s l)(c:RdS t m) :Calls prog 166 #[.int .i64 4,cellV x s,cellV y t] w fun e w'=>e=.returned (.bool (Op.bytesLess l m))/\Lz w w':=by
 have f:=b.toList;have g:=c.toList;have a:Lz w ((w.alloc (.cells #[.int .u64 (x:Int),.string s] 65)).alloc (.cells #[.int .u64 (y:Int),.string t] 65)):=((Ac _ w).alloc l_ _).alloc (by simp) _;have d:=h_ a;clear b c a;unfold cellV;go_enter func166,ntmps166;go_wp2;go_ret;exact⟨rfl,d.o⟩
def zx0(x y:Nat)(c:x<18446744073709551616)(d:y<18446744073709551616)(s t:ByteArray)(l m:Bs)(w:World)(C:RdS s l)(D:RdS t m) :Calls prog 166 #[.int .i64 5,cellV x s,cellV y t] w fun e w'=>e=.returned (.bool (decide (tkey x<tkey y)))/\Lz w w':=by
 have J:=C.toList;have L:=D.toList;have n:Lz w ((w.alloc (.cells #[.int .u64 (x:Int),.string s] 65)).alloc (.cells #[.int .u64 (y:Int),.string t] 65)):=((Ac _ w).alloc l_ _).alloc (by simp) _;have j:=h_ n;clear C D n;unfold cellV;have G:=zl3 x;have H:=zl3 y;obtain⟨p,hp⟩:∃p,placeC x=p:=⟨_,rfl⟩;obtain⟨q,g⟩:∃q,placeC y=q:=⟨_,rfl⟩;have a:=h_ hp;have b:=h_ g;by_cases r:p=q
 .subst r;obtain rfl|rfl|rfl:p=0\/p=2\/p=1:=by have:=zb1 hp;omega
  .rw[zID c d hp g];clear hp g;go_enter func166,ntmps166;go_wp2_with fail;refine(zb7 x c _).mono ?_;rintro e f⟨rfl,rfl⟩;rw[a.o];go_wp2_with fail;refine(zb7 y d _).mono ?_;rintro e f⟨rfl,rfl⟩;rw[b.o];go_wp2;go_ret;exact⟨rfl,j.o⟩
  .rw[zIC c d hp g];clear hp g;go_enter func166,ntmps166;go_wp2_with fail;refine(zb7 x c _).mono ?_;rintro e f⟨rfl,rfl⟩;rw[a.o];go_wp2_with fail;refine(zb7 y d _).mono ?_;rintro e f⟨rfl,rfl⟩;rw[b.o];go_wp2;go_ret;exact⟨rfl,j.o⟩
  have v:=zr6 hp;have z:=zr6 g;have A:=zw5 c v;have u:=zw5 d z;have E:=zHG c d v z;clear hp g v z;by_cases i:Flt.key x=0
  .rw[Ah i]at A;by_cases k:Flt.key y=0
   .rw[Ah k]at u;rw[zzN i k];clear E i k;go_enter func166,ntmps166;go_wp2_with fail;refine(zb7 x c _).mono ?_;rintro e f⟨rfl,rfl⟩;rw[a.o];go_wp2_with fail;refine(zb7 y d _).mono ?_;rintro e f⟨rfl,rfl⟩;rw[b.o];go_wp2;go_ret;exact⟨rfl,j.o⟩
   rw[Af k]at u;rw[zvG (fun h=>k h.2)];clear i k;go_enter func166,ntmps166;go_wp2_with fail;refine(zb7 x c _).mono ?_;rintro e f⟨rfl,rfl⟩;rw[a.o];go_wp2_with fail;refine(zb7 y d _).mono ?_;rintro e f⟨rfl,rfl⟩;rw[b.o];go_wp2;go_ret;exact⟨rfl,j.o⟩
  rw[Af i]at A;rw[zvG (fun h=>i h.1)];clear i u;go_enter func166,ntmps166;go_wp2_with fail;refine(zb7 x c _).mono ?_;rintro e f⟨rfl,rfl⟩;rw[a.o];go_wp2_with fail;refine(zb7 y d _).mono ?_;rintro e f⟨rfl,rfl⟩;rw[b.o];go_wp2;go_ret;exact⟨rfl,j.o⟩
 have I:((p:Int)!=(q:Int))=true:=by simp;omega
 rw[zwR c d hp g r];clear hp g;go_enter func166,ntmps166;go_wp2_with fail;refine(zb7 x c _).mono ?_;rintro e f⟨rfl,rfl⟩;rw[a.o];go_wp2_with fail;refine(zb7 y d _).mono ?_;rintro e f⟨rfl,rfl⟩;rw[b.o];go_wp2;go_ret;exact⟨rfl,j.o⟩
/- -/
def za2{w:World}{t:TypeId}{c:Array Value}{i:Nat}{u:Value}{b:Nat}(h:w.heap[b]?=some (.cells c t (0,0)))(a:c[i]?=some u):w.cell? ⟨b,i,none⟩=some u:=by rw[Ag _ _ _ _ _ _ h,a]
def aheadK(kind:Int)(x:Nat)(l:Bs)(y:Nat)(m:Bs):Bool :=
 if kind=0 then decide (wrap64 (x:Int)<wrap64 (y:Int))else if kind=3\/kind=4 then Op.bytesLess l m else if kind=5 then decide (tkey x<tkey y)else decide (x<y)
def zqN(kind:Int)(f:0<=kind/\kind<=5)(x y:Nat)(c:x<18446744073709551616)(d:y<18446744073709551616)(s t:ByteArray)(l m:Bs)(w:World)(a:RdS s l)(b:RdS t m) :Calls prog 166 #[.int .i64 kind,cellV x s,cellV y t] w fun e w'=>e=.returned (.bool (aheadK kind x l y m))/\Lz w w':=by
 obtain rfl|rfl|rfl|rfl|rfl|rfl:kind=0\/kind=1\/kind=2\/kind=3\/kind=4\/kind=5:=by omega
 .rw[show aheadK 0 x l y m=decide (wrap64 (x:Int)<wrap64 (y:Int))from by unfold aheadK;simp];exact zx5 x y c d s t l m w a b
 .rw[show aheadK 1 x l y m=decide (x<y)from by unfold aheadK;simp];exact zx4 x y c d s t l m w a b
 .rw[show aheadK 2 x l y m=decide (x<y)from by unfold aheadK;simp];exact zx3 x y c d s t l m w a b
 .rw[show aheadK 3 x l y m=Op.bytesLess l m from by unfold aheadK;simp];exact zx2 x y c d s t l m w a b
 .rw[show aheadK 4 x l y m=Op.bytesLess l m from by unfold aheadK;simp];exact zx1 x y c d s t l m w a b
 rw[show aheadK 5 x l y m=decide (tkey x<tkey y)from by unfold aheadK;simp];exact zx0 x y c d s t l m w a b
def zdY{kind:Int}{l:Bs}(h:checkC kind x l=0):0<=kind/\kind<=5:=by
 unfold checkC at h;by_cases a:kind<0\/5<kind
 .rw[Ab a]at h;exact absurd h (by decide)
 omega
def cmpC(kind:Int)(x:Nat)(l:Bs)(y:Nat)(m:Bs):Int :=
 if checkC kind x l≠0\/checkC kind y m≠0 then 0 else if aheadK kind x l y m=true then -1 else if aheadK kind y m x l=true then 1 else 0
def ztQ(kind:Int)(hk:-9223372036854775808<=kind/\kind<=9223372036854775807)(x y:Nat)(X:x<18446744073709551616)(Y:y<18446744073709551616)(s t:ByteArray)(l m:Bs)(w:World)(U:RdS s l)(V:RdS t m) :Calls prog 116 #[.int .i64 kind,cellV x s,cellV y t] w fun e w'=>e=.returned (.int .i64 (cmpC kind x l y m))/\Lz w w':=by
 obtain⟨N0,L,M,N⟩:=new2 w (.cells #[.int .u64 (x:Int),.string s] 65) (.cells #[.int .u64 (y:Int),.string t] 65);obtain⟨w0,j⟩:=nm_ ((w.alloc (.cells #[.int .u64 (x:Int),.string s] 65)).alloc (.cells #[.int .u64 (y:Int),.string t] 65));rw[<-j]at N0 L M N;have HB:=h_ N;have O:=fun(J:World)=>zdP kind x s l J U hk X;have Q:=fun(J:World)=>zdP kind y t m J V hk Y;have ap:∀n u,cellV n u=.agg #[.int .u64 (n:Int),.string u]:=fun _ _=>rfl;go_enter func116,ntmps116;go_wp2_with fail;rw[<-j];clear j;refine(O w0).mono ?_;rintro e J⟨rfl,a⟩;have k:=(a.block _ (by omega)).trans L;have p:=(a.block _ (by omega)).trans M;have Z:=za2 (i:=0) k rfl;have a1:=za2 (i:=1) k rfl;have b0:=za2 (i:=0) p rfl;have b1:=za2 (i:=1) p rfl;have z:=h_ (HB.trans (a.mono (by omega)));have aq:=a.size;obtain⟨cx,d⟩:=nm_ (checkC kind x l);obtain⟨cy,g⟩:=nm_ (checkC kind y m);rw[<-d];have HX:=h_ d;have S:=h_ g;by_cases h1:cx=0
 .subst h1;have E:=h_ d.symm;clear d a L M N;go_wp2_with fail;refine(Q J).mono ?_;rintro e w2⟨rfl,b⟩;rw[<-S.o];have r:=(b.block _ (by omega)).trans k;have v:=(b.block _ (by omega)).trans p;have c0:=za2 (i:=0) r rfl;have c1:=za2 (i:=1) r rfl;have d0:=za2 (i:=0) v rfl;have d1:=za2 (i:=1) v rfl;have A:=bT z b;have ar:=b.size;by_cases h2:cy=0
  .subst h2;have I:=zdY E.o;clear b k p Z a1 b0 b1 g O Q;go_wp2_with fail;refine(zqN kind I x y X Y s t l m w2 U V).mono ?_;rintro e w3⟨rfl,c⟩;have u0:=(c.block _ (by omega)).trans r;have u1:=(c.block _ (by omega)).trans v;have e0:=za2 (i:=0) u0 rfl;have e1:=za2 (i:=1) u0 rfl;have f0:=za2 (i:=0) u1 rfl;have f1:=za2 (i:=1) u1 rfl;have C:=bT A c;have H:cmpC kind x l y m=if aheadK kind x l y m=true then -1 else if aheadK kind y m x l=true then 1 else 0:=by
    unfold cmpC;rw[Aa (by rw[E.o,<-S.o];simp)]
   have h:=h_ H;clear H;cases hah:aheadK kind x l y m with
   | true=>
    clear c r v c0 c1 d0 d1;have f:=h_ (show cmpC kind x l y m=-1 by rw[h.o,Ab hah]);clear hah;go_wp2;go_ret;refine⟨?_,C.o⟩;rw[f.o];rfl
   | false=>
    clear c r v c0 c1 d0 d1;go_wp2_with fail;refine(zqN kind I y x Y X t s m l w3 V U).mono ?_;rintro e w4⟨rfl,G⟩;have D:=bT C G;clear G;cases hbh:aheadK kind y m x l with
    | true=>
     have f:=h_ (show cmpC kind x l y m=1 by rw[h.o,Aa (by simp[hah]),Ab hbh]);clear hah hbh;go_wp2;go_ret;refine⟨?_,D.o⟩;rw[f.o];rfl
    | false=>
     have f:=h_ (show cmpC kind x l y m=0 by rw[h.o,Aa (by simp[hah]),Aa (by simp[hbh])]);clear hah hbh;go_wp2;go_ret;refine⟨?_,D.o⟩;rw[f.o];rfl
  have T:((cy:Int)!=0)=true:=by simp;omega
  have f:=h_ (show cmpC kind x l y m=0 from by unfold cmpC;rw[Ab (.inr (by rw[<-S.o];exact h2))]);clear b k p Z a1 b0 b1 g O Q r v;go_wp2;go_ret;refine⟨?_,A.o⟩;rw[f.o];rfl
 have T:((cx:Int)!=0)=true:=by simp;omega
 have f:=h_ (show cmpC kind x l y m=0 from by unfold cmpC;rw[Ab (.inl (by rw[<-HX.o];exact h1))]);clear d g a L M N O Q k p;go_wp2;go_ret;refine⟨?_,z.o⟩;rw[f.o];rfl
/- -/
def zlX(kind:Int)(w:World) :Calls prog 192 #[.int .i64 kind] w fun e w'=>e=.returned (.bool (decide (0<=kind/\kind<=5)))/\w'=w:=by
 by_cases b:kind≥0
 .have d:decide (kind≥0)=true:=Ah b;by_cases c:kind<6
  .have a:decide (kind<6)=true:=Ah c;rw[show decide (0<=kind/\kind<=5)=true from Ah (by omega)];go_enter func192,ntmps192;go_wp2;go_ret;exact⟨rfl,rfl⟩
  have a:decide (kind<6)=false:=Af c;rw[show decide (0<=kind/\kind<=5)=false from Af (by omega)];go_enter func192,ntmps192;go_wp2;go_ret;exact⟨rfl,rfl⟩
 have d:decide (kind≥0)=false:=Af b;rw[show decide (0<=kind/\kind<=5)=false from Af (by omega)];go_enter func192,ntmps192;go_wp2;go_ret;exact⟨rfl,rfl⟩
def zJA(x:Nat)(b:x<18446744073709551616):bits .xor .u64 IntKind.u64.max (x:Int)=18446744073709551615-(x:Int):=by
 have h:=u64_xor_nat 18446744073709551615 x (by omega) b;rw[show IntKind.u64.max=((18446744073709551615:Nat):Int)from rfl,h];have e:18446744073709551615 ^^^ x=18446744073709551615-x:=by
  have a:(~~~ (BitVec.ofNat 64 x)).toNat=2^64-1-(BitVec.ofNat 64 x).toNat:=BitVec.toNat_not;rw[BitVec.not_def,BitVec.toNat_xor,BitVec.toNat_allOnes,BitVec.toNat_ofNat,BA (by omega)]at a;simpa using a
 rw[e];omega
def zsI(x:Nat)(b:x<18446744073709551616)(w:World) :Calls prog 155 #[.int .u64 (x:Int)] w fun e w'=>e=.returned (.int .u64 (tkey x+9223372036854775808))/\w'=w:=by
 by_cases h:x<9223372036854775808
 .have a:decide ((x:Int)≥9223372036854775808)=false:=Af (by omega);rw[zg0 h];go_enter func155,ntmps155;go_wp2;go_ret;refine⟨?_,rfl⟩;simp
 have a:decide ((x:Int)≥9223372036854775808)=true:=Ah (by omega);rw[zg1 h];have c:=zJA x b;go_enter func155,ntmps155;go_wp2;go_ret;refine⟨?_,rfl⟩;simp;omega
def ordZ(a b:Int):Int:=if a<b then -1 else if b<a then 1 else 0
def zHV(a b:Int)(w:World) :Calls prog 152 #[.int .i64 a,.int .i64 b] w fun e w'=>e=.returned (.int .i64 (ordZ a b))/\w'=w:=by
 rcases CI a b with h|h|h
 .have d:decide (a<b)=true:=Ah h;rw[show ordZ a b=-1 from Ab h];go_enter func152,ntmps152;go_wp2;go_ret;exact⟨rfl,rfl⟩
 .subst h;have d:decide (a<a)=false:=Af (by omega);have c:decide (a>a)=false:=Af (by omega);rw[show ordZ a a=0 from by unfold ordZ;rw[Aa (by omega),Aa (by omega)]];go_enter func152,ntmps152;go_wp2;go_ret;exact⟨rfl,rfl⟩
 have d:decide (a<b)=false:=Af (by omega);have c:decide (a>b)=true:=Ah h;rw[show ordZ a b=1 from by unfold ordZ;rw[Aa (by omega),Ab h]];go_enter func152,ntmps152;go_wp2;go_ret;exact⟨rfl,rfl⟩
def zuO(a b:Int)(w:World) :Calls prog 154 #[.int .u64 a,.int .u64 b] w fun e w'=>e=.returned (.int .i64 (ordZ a b))/\w'=w:=by
 rcases CI a b with h|h|h
 .have d:decide (a<b)=true:=Ah h;rw[show ordZ a b=-1 from Ab h];go_enter func154,ntmps154;go_wp2;go_ret;exact⟨rfl,rfl⟩
 .subst h;have d:decide (a<a)=false:=Af (by omega);have c:decide (a>a)=false:=Af (by omega);rw[show ordZ a a=0 from by unfold ordZ;rw[Aa (by omega),Aa (by omega)]];go_enter func154,ntmps154;go_wp2;go_ret;exact⟨rfl,rfl⟩
 have d:decide (a<b)=false:=Af (by omega);have c:decide (a>b)=true:=Ah h;rw[show ordZ a b=1 from by unfold ordZ;rw[Aa (by omega),Ab h]];go_enter func154,ntmps154;go_wp2;go_ret;exact⟨rfl,rfl⟩
def zlY(x:Nat)(a:x<18446744073709551616)(s:ByteArray)(w:World) :Calls prog 153 #[cellV x s] w fun e w'=>e=.returned (.int .i64 (wrap64 (x:Int)))/\Lz w w':=by
 unfold cellV;go_enter func153,ntmps153;go_wp2;go_ret;exact⟨rfl,(Ac _ _).alloc l_ _⟩
end Go.Proofs.YtgboedffaangeaaGreatDoor
namespace Go.Proofs.YtgboedffaangeaaGreatDoor
open _root_.Go.Proofs.Tryz Go.RowKit
def hiX(x:Int):Int:=(x/18446744073709551616)%18446744073709551616
def loX(x:Int):Int:=x%18446744073709551616
def sgX(a:Int):Int:=if a<0 then 18446744073709551615 else 0
def exV(x:Int):Value:=.agg #[.int .u64 (hiX x),.int .u64 (loX x)]
def wV(x:Int):Int:=if -9223372036854775808<=x/\x<=9223372036854775807 then x else 0
def wE(x:Int):Int:=if -9223372036854775808<=x/\x<=9223372036854775807 then 0 else 12
def i64(x:Int):Prop:=-9223372036854775808<=x/\x<=9223372036854775807
def zJB(x:Int):0<=hiX x/\hiX x<=18446744073709551615:=by unfold hiX;omega
def zBR(x:Int):0<=loX x/\loX x<=18446744073709551615:=by unfold loX;omega
def zH9(x a:Int):(loX x+loX a)%18446744073709551616=loX (x+a):=by unfold loX;omega
def zHE(x a:Int)(b:i64 a):(hiX x+sgX a+(loX x+loX a)/18446744073709551616)%18446744073709551616=hiX (x+a):=by
 obtain⟨c,d⟩:=b;unfold hiX sgX loX;split<;>omega
def lowI(x:Int):Int:=if loX x<9223372036854775808 then loX x else loX x-18446744073709551616
def zIV(x:Int):-9223372036854775808<=lowI x/\lowI x<=9223372036854775807:=by have:=zBR x;unfold lowI;split<;>omega
def fits(x:Int)(h:-170141183460469231731687303715884105728<=x/\x<170141183460469231731687303715884105728):hiX x=sgX (lowI x)↔i64 x:=by
 unfold i64 sgX lowI hiX loX;constructor
 ·intro a;split at a<;>split at a<;>omega
 intro a;split<;>split<;>omega
def zIU(x:Int)(h:i64 x):lowI x=x:=by
 unfold i64 at h;unfold lowI loX;split<;>omega
def bits_Add64(x y c:Int)(d:0<=x)(g:0<=y)(a:0<=c)(b:c<=1)(w:World) :(callFunc 197 #[.int .u64 x,.int .u64 y,.int .u64 c]).run prog w = .ok (.value (.tuple #[.int .u64 ((x+y+c)%18446744073709551616),.int .u64 ((x+y+c)/18446744073709551616)])) w:=by
 have:=run_callFunc_extern (P:=prog) (f:=197) (e:=add64Entry) func197 (by kernel_rfl) (by kernel_rfl) (by kernel_rfl) (by kernel_rfl) #[.int .u64 x,.int .u64 y,.int .u64 c] w;rw[this,run_add64 x y c d g a b];rfl
def zt7(a:Int)(h:i64 a)(w:World) :Calls prog 198 #[.int .i64 a] w fun e w'=>e=.returned (.int .u64 (sgX a))/\w=w':=by
 obtain⟨c,d⟩:=h;have b:IntKind.u64.wrap (a/9223372036854775808)=sgX a:=by
  unfold sgX;split
  ·have:a/9223372036854775808=-1:=(by omega);rw[this];rfl
  have:a/9223372036854775808=0:=by omega
  rw[this];rfl
 go_enter func198,ntmps198;go_wp2;go_ret;exact⟨rfl,rfl⟩
def zgM(a:Int)(h:i64 a)(w:World) :Calls prog 198 #[.int .i64 a] w fun e w'=>e=.returned (.int .u64 (sgX a))/\w'=w :=
 (zt7 a h w).mono fun _ _ h=>⟨h.1,h.2.symm⟩
def zyR(a:Int):IntKind.u64.wrap a=loX a:=by simp[IntKind.wrap,IntKind.bits,IntKind.signed,loX]
def zt8(x a:Int)(h:i64 a)(w:World) :Calls prog 157 #[exV x,.int .i64 a] w fun e w'=>e=.returned (exV (x+a))/\Lz w w':=by
 obtain⟨b,f⟩:=zJB x;obtain⟨d,i⟩:=zBR x;obtain⟨c,g⟩:=zBR a;have j:0<=sgX a/\sgX a<=18446744073709551615:=by unfold sgX;split<;>omega
 have hp:=zHE x a h;have k:=zH9 x a;unfold exV;rw[<-hp,<-k];have n:=zyR a;generalize hiX x=H at *;generalize loX x=L at *;generalize loX a=A at *;have l:=fun u=>bits_Add64 L A 0 d c (by omega) (by omega) u;simp only[Int.add_zero]at l;have m:=fun u=>bits_Add64 H (sgX a) ((L+A)/18446744073709551616) b j.1 (by omega) (by omega) u;generalize (L+A)/18446744073709551616=C at *;generalize (L+A)%18446744073709551616=M at *;generalize (H+sgX a+C)%18446744073709551616=R at *;generalize (H+sgX a+C)/18446744073709551616=O at *;clear b f d i c g j hp k;go_enter func157,ntmps157;go_wp2;go_quiet (first|(go_at_call 198;refine Calls.quiet_of_same (zgM a h _)));go_wp2;refine bodyPost_ret (by simp[results,results157,go_sem];try rfl) rfl ?_;exact⟨rfl,((Go.below_drewN (((Ac w.heap.size w).alloc l_ _).alloc (by simp) _) _).setCell (by simp) _).setCell (by simp) _⟩
def zDF(x:Int):IntKind.i64.wrap (loX x)=lowI x:=by
 have h:=zBR x;rw[IntKind.wrap_i64];unfold lowI;split<;>omega
def zoA(x:Int)(i:-170141183460469231731687303715884105728<=x/\x<170141183460469231731687303715884105728)(w:World) :Calls prog 158 #[exV x] w fun e w'=>e=.returned (.tuple #[.int .i64 (wV x),.int .i64 (wE x)])/\Lz w w':=by
 have d:=fits x i;have a:=zIU x;have g:=zDF x;have b:=zIV x;have f:=fun u=>zgM (lowI x) b u;unfold exV;by_cases h:i64 x
 .have c:hiX x=sgX (lowI x):=d.2 h;rw[show wV x=x from Ab h,show wE x=0 from Ab h];rw[a h]at c g f;rw[c];clear d a b i h c;generalize sgX x=S at *;generalize loX x=L at *;go_enter func158,ntmps158;go_wp2;go_quiet (first|(go_at_call 198;refine Calls.quiet_of_same (f _)));go_wp2;go_ret2;exact⟨rfl,Go.below_drewN ((Ac w.heap.size w).alloc l_ _) _⟩
 have c:hiX x≠sgX (lowI x):=fun j=>h (d.1 j);rw[show wV x=0 from Aa h,show wE x=12 from Aa h];clear d a b i h;generalize sgX (lowI x)=S at *;generalize lowI x=M at *;generalize loX x=L at *;generalize hiX x=H at *;have k:(H !=S)=true:=by simpa using c
 clear c;go_enter func158,ntmps158;go_wp2;go_quiet (first|(go_at_call 198;refine Calls.quiet_of_same (f _)));go_wp2;go_ret2;exact⟨rfl,Go.below_drewN ((Ac w.heap.size w).alloc l_ _) _⟩
def TotR(w:World)(g:Nat)(x:Int)(n:Nat):Prop:=w.heap[g]?=some (.cells #[.int .u64 (hiX x),.int .u64 (loX x),.int .i64 (n:Int)] 192 (0,0))
def zzK(g:Nat)(x:Int)(n:Nat)(d:-170141183460469231731687303715884105728<=x/\x<170141183460469231731687303715884105728)(w:World)(h:TotR w g x n) :Calls prog 107 #[.pointer (some ⟨g,0,none⟩)] w fun e w'=>e=.returned (.tuple #[.int .i64 (wV x),.int .i64 (wE x)])/\Lz w w':=by
 have a:=Ag _ _ 0 _ _ _ h;have b:=Ag _ _ 1 _ _ _ h;simp at a b;clear h;go_enter func107,ntmps107;go_wp2_with fail;refine(zoA x d _).mono ?_;rintro e f⟨rfl,c⟩;go_wp2;go_ret2;exact⟨rfl,c⟩
def zzL(g:Nat)(x a:Int)(n:Nat)(y:i64 a)(D:n<=140737488351232)(w:World)(h:TotR w g x n) :Calls prog 105 #[.pointer (some ⟨g,0,none⟩),.int .i64 a] w fun e w'=>e=.returned (.int .i64 0)/\TotR w' g (x+a) (n+1)/\Only (fun j=>j=g) w w':=by
 have i:=Ag _ _ 0 _ _ _ h;have l:=Ag _ _ 1 _ _ _ h;simp at i l;have c:=h_ h;clear h;go_enter func105,ntmps105;go_wp2_with fail;refine(zt8 x a y _).mono ?_;rintro e m⟨rfl,f⟩;have b:m.heap[g]?=_:=(f.block _ (Aj.1 c.o).1).trans c.o;have s:=Ag _ _ 0 _ _ _ b;have t:=Ag _ _ 1 _ _ _ b;have u:=Ag _ _ 2 _ _ _ b;have z:=At _ _ 0 _ _ b;have A:=At _ _ 1 _ _ b;have C:=At _ _ 2 _ _ b;simp at s t u;have d:=h_ b;have r:=h_ f;clear b f c i l;unfold exV;go_wp2;go_ret;refine⟨rfl,?_,?_⟩
 .have:=block_setCell (g:=g) (k:=2) (block_setCell (g:=g) (k:=1) (block_setCell (g:=g) (k:=0) d.o (.int .u64 (hiX (x+a)))) (.int .u64 (loX (x+a)))) (.int .i64 ((n:Int)+1));unfold TotR;push_cast;exact this
 have v:Only (fun j=>j=g) w m:=(Only.refl _ _).below r.o l_;exact((v.setCell (p:=⟨g,0,none⟩) rfl _).setCell (p:=⟨g,1,none⟩) rfl _).setCell (p:=⟨g,2,none⟩) rfl _
/- -/
def paH(x:Int):Int:=x/4294967296
def paL(x:Int):Int:=x%4294967296
def paV(x:Int):Value:=.agg #[.int .i64 (paH x),.int .i64 (paL x)]
def paOk(x:Int):Prop:=-19807040628566084398385987584<=x/\x<=19807040628566084398385987584
def zoQ(x a:Int)(h:paOk x)(g:i64 a)(w:World) :Calls prog 82 #[paV x,.int .i64 a] w fun e w'=>e=.returned (paV (x+a))/\Lz w w':=by
 obtain⟨I,J⟩:=h;obtain⟨l,n⟩:=g;have f:0<=paL x/\paL x<=4294967295:=by unfold paL;omega
 have d:-4611686018427387904<=paH x/\paH x<=4611686018427387904:=by unfold paH;omega
 obtain⟨y,z⟩:=f;obtain⟨p,r⟩:=d;have t:=zyR a;obtain⟨m,hm,C,D⟩:∃m,loX a%4294967296=m/\0<=m/\m<=4294967295:=⟨_,rfl,by unfold loX;omega,by unfold loX;omega⟩;obtain⟨q,s,E,G⟩:∃q,a/4294967296=q/\-2147483648<=q/\q<=2147483647:=⟨_,rfl,by omega,by omega⟩;have i:=zBR a;obtain⟨j,k⟩:=i;have b:paH x+q+(paL x+m)/4294967296=paH (x+a):=by unfold paH paL loX at *;omega
 have c:(paL x+m)%4294967296=paL (x+a):=by unfold paL loX at *;omega
 unfold paV;rw[<-b,<-c];clear b c;generalize paH x=H at *;generalize paL x=L at *;generalize loX a=A at *;have u:-9223372036854775808<=H+q/\H+q<=9223372036854775807:=by omega
 have v:-9223372036854775808<=H+q+(L+m)/4294967296/\H+q+(L+m)/4294967296<=9223372036854775807:=by omega
 go_enter func82,ntmps82;go_wp2;refine bodyPost_ret (by simp[results,results82,go_sem];try rfl) rfl ?_;exact⟨rfl,((Ac w.heap.size w).alloc l_ _).alloc (by simp) _⟩
def zIN(x:Int):i64 x ↔ -2147483648<=paH x/\paH x<=2147483647:=by unfold i64 paH;omega
def zIM(x:Int):paH x*4294967296+paL x=x:=by unfold paH paL;omega
def zqS(x:Int)(a:i64 x)(w:World) :Calls prog 83 #[paV x] w fun e w'=>e=.returned (.tuple #[.int .i64 x,.bool true])/\Lz w w':=by
 obtain⟨g,h⟩:=(zIN x).1 a;have c:=zIM x;have b:0<=paL x/\paL x<=4294967295:=by unfold paL;omega
 unfold paV;obtain⟨k,l⟩:=a;generalize paH x=H at *;generalize paL x=L at *;subst c;have d:decide (H < -2147483648)=false:=Af (by omega);have f:decide (2147483647<H)=false:=Af (by omega);obtain⟨i,j⟩:=b;go_enter func83,ntmps83;go_wp2;go_ret2;exact⟨rfl,(Ac w.heap.size w).alloc l_ _⟩
def zoO(x:Int)(b:¬i64 x)(w:World) :Calls prog 83 #[paV x] w fun e w'=>e=.returned (.tuple #[.int .i64 0,.bool false])/\Lz w w':=by
 have h:¬(-2147483648<=paH x/\paH x<=2147483647):=fun h=>b ((zIN x).2 h);unfold paV;generalize paH x=H at *;generalize paL x=L at *;by_cases a:H < -2147483648
 .have a:decide (H < -2147483648)=true:=Ah a;go_enter func83,ntmps83;go_wp2;go_ret2;exact⟨rfl,(Ac w.heap.size w).alloc l_ _⟩
 have c:decide (2147483647<H)=true:=Ah (by omega);have a:decide (H < -2147483648)=false:=Af a;go_enter func83,ntmps83;go_wp2;go_ret2;exact⟨rfl,(Ac w.heap.size w).alloc l_ _⟩
def zA9(x:Int)(w:World) :Calls prog 83 #[paV x] w fun e w'=>e=.returned (.tuple #[.int .i64 (wV x),.bool (wE x==0)])/\Lz w w':=by
 by_cases h:i64 x
 .rw[show wV x=x from Ab h,show wE x=0 from Ab h];exact zqS x h w
 rw[show wV x=0 from Aa h,show wE x=12 from Aa h];exact zoO x h w
