/- -/
import Derived.Test.YtgboedffaangeaaGreatDoorVColWr
import Derived.Deep.AppendLies
set_option maxHeartbeats 16000000
set_option linter.all false
set_option maxRecDepth 1000000
namespace Go.Proofs.YtgboedffaangeaaGreatDoor
open _root_.Go.Proofs.Tryz Go.RowKit
def OneR(w:World)(m:Nat)(v:Value)(l:Bs)(kind:Int)(i:Nat)(p:CellB)(k:Nat)(e:Ending)(w':World):Prop :=
 ∃c:CellB,e=.returned (cellV c.1 c.2)/\w.grownBy w' (some m)/\Mdl w' m v l (rd1 l kind i (ceL p) k).2.1 (rd1 l kind i (ceL p) k).2.2/\c.1<18446744073709551616/\c.2.size<=1000/\((rd1 l kind i (ceL p) k).2.2=0->ceL c=(rd1 l kind i (ceL p) k).1)
def zE4{l:Bs}{k:Nat}{most:Int}(b:k<=l.length)(hm:0<=most):((rdB l k most).1.length:Int)<=most:=by
 by_cases h:(rdB l k most).2.2=0
 .exact(zh9 b h).2.2
 unfold rdB at h ⊢;by_cases a:(getB (l.drop k) most).2.2≠0
 .rw[Ab a];simpa using hm
 rw[Aa a]at h;exact absurd rfl h
def zIL{l:Bs}{kind:Int}{i k x j f w t u v:Nat}{p:Ce}{d:Bs}(z:kind=3\/kind=4)(y:rdU l k p.2.length=(x,j,f))(g:d=(if f=0 then(rdB l j (256-(x:Int))).1 else[]))(a:w=(if f=0 then(rdB l j (256-(x:Int))).2.1 else j))(c:t=(if f=0 then(rdB l j (256-(x:Int))).2.2 else f))(e:u=(if t=0 then(if shr p.2 (p.2.take x++d)=x then 0 else 6)else t))(b:v=(if u=0 then(if kind=4/\utf8 (p.2.take x++d)=false then 11 else 0)else u)) :(rd1 l kind i p k).2.1=w/\(rd1 l kind i p k).2.2=v/\(v=0->(rd1 l kind i p k).1=(0,p.2.take x++d)):=by
 unfold rd1;rw[Ab z,y];dsimp only;by_cases m:f=0
 .rw[Ab m]at g a c;rw[Aa (fun h=>h m),<-g,<-c,<-a];by_cases n:t=0
  .rw[Ab n]at e;rw[Aa (fun h=>h n)];by_cases r:shr p.2 (p.2.take x++d)=x
   .rw[Ab r]at e;rw[Ab e]at b;rw[Aa (fun h=>h r)];by_cases s:kind=4/\utf8 (p.2.take x++d)=false
    .rw[Ab s]at b;rw[Ab s];exact⟨rfl,b.symm,fun h=>by omega⟩
    rw[Aa s]at b;rw[Aa s];exact⟨rfl,b.symm,fun _=>rfl⟩
   rw[Aa r]at e;rw[Aa (by omega)]at b;rw[Ab r];exact⟨rfl,by dsimp only;omega,fun h=>by omega⟩
  rw[Aa n]at e;rw[Aa (by omega)]at b;rw[Ab n];exact⟨rfl,by dsimp only;omega,fun h=>by omega⟩
 rw[Aa m]at a c;rw[Aa (by omega)]at e;rw[Aa (by omega)]at b;rw[Ab m];exact⟨a.symm,by dsimp only;omega,fun h=>by omega⟩
def _root_.Go.World.grownBy.sets{w w':World}{m g:Nat}(h:w.grownBy w' (some m))(k:w.heap.size<=g)(i j:Nat)(a b:Value):w.grownBy ((w'.setCell ⟨g,i,none⟩ a).setCell ⟨g,j,none⟩ b) (some m):=by
 have c:w'.grownBy ((w'.setCell ⟨g,i,none⟩ a).setCell ⟨g,j,none⟩ b) (some g):=za0 (za0 (World.grownBy.refl _ _) _) _;exact⟨c.os.trans h.os,c.tape.trans h.tape,c.output.trans h.output,Ar h.size c.size,fun q d f=>(c.block q (AE d h.size) (fun e=>by injection e with e;omega)).trans (h.block q d f)⟩
def zDX(m:Nat)(v:Value)(l:Bs)(k:Nat)(w:World)(L:Mdl w m v l k 0)(kind:Int)(i:Nat)(c:Nat)(ps:ByteArray)(af:c<18446744073709551616)(ae:ps.size<=256)(hi:i<=140737488351232)(h0:i=0)(V:kind≠0)(h3:kind≠3)(h4:kind≠4) :Calls prog 217 #[.pointer (some ⟨m,0,none⟩),.int .i64 kind,.int .i64 (i:Int),cellV c ps] w (OneR w m v l kind i (c,ps) k):=by
 unfold cellV;have ad:=L.lt;have C:=h_ (show Mdl ((w.alloc (.cells #[.int .u64 (c:Int),.string ps] 65)).alloc (.cells #[.int .u64 0,.string ⟨#[]⟩] 65)) m v l k 0 from L.later (((Ac w.heap.size w).alloc l_ _).alloc (by rw[Az];omega) _) l_);have y:=h_ (show w.grownBy ((w.alloc (.cells #[.int .u64 (c:Int),.string ps] 65)).alloc (.cells #[.int .u64 0,.string ⟨#[]⟩] 65)) (some m)from below_grown (((Ac w.heap.size w).alloc l_ _).alloc (by rw[Az];omega) _) _);have D:=h_ (show((w.alloc (.cells #[.int .u64 (c:Int),.string ps] 65)).alloc (.cells #[.int .u64 0,.string ⟨#[]⟩] 65)).heap[w.heap.size]?=some (.cells #[.int .u64 (c:Int),.string ps] 65 (0,0))from(AS _ _ _ (by rw[Az];omega)).trans (AB _ _));have n:=h_ (show((w.alloc (.cells #[.int .u64 (c:Int),.string ps] 65)).alloc (.cells #[.int .u64 0,.string ⟨#[]⟩] 65)).heap[w.heap.size+1]?=some (.cells #[.int .u64 0,.string ⟨#[]⟩] 65 (0,0))from by have:=AB (w.alloc (.cells #[.int .u64 (c:Int),.string ps] 65)) (.cells #[.int .u64 0,.string ⟨#[]⟩] 65);rw[Az]at this;exact this);have E:=h_ (show w.heap.size+2<=((w.alloc (.cells #[.int .u64 (c:Int),.string ps] 65)).alloc (.cells #[.int .u64 0,.string ⟨#[]⟩] 65)).heap.size from by rw[Az,Az];omega);obtain⟨a,r⟩:=nm_ w.heap.size;have A:=h_ (show m<a by omega);have O:=h_ (show w.heap.size<=a by omega);have T:=h_ (show ∀j,j<l.length->(adr v j).block<a from fun j u=>by rw[r];exact L.rd.block u);subst h0;have q3:(kind==3)=false:=by rw[As];exact h3
 have q4:(kind==4)=false:=by rw[As];exact h4
 have q0:(kind !=0)=true:=by rw[Ao];exact V
 have U:=h_ V;clear L;go_enter func217,ntmps217;go_wp2_with fail;generalize ((w.alloc (.cells #[.int .u64 (c:Int),.string ps] 65)).alloc (.cells #[.int .u64 0,.string ⟨#[]⟩] 65))=w2 at *;rw[<-r]at D n E ⊢;clear r;refine(zcR m v l k w2 C.o 18446744073709551615 (by decide)).mono ?_;rintro e d⟨rfl,p,g⟩;have t:=zAI (l:=l) (k:=k) (most:=18446744073709551615);rcases hr:rdU l k 18446744073709551615 with⟨x,M,J⟩
 rw[hr]at g t;dsimp only at g t ⊢;have X:=h_ hr;have f:=h_ g;have z:=h_ (y.trans p);have S:=h_ (show ∀j,j<l.length->(adr v j).block≠a+1 from fun j u e=>by have h1:=T.o j u;omega);have b:=h_ ((p.block (a+1) (by have:=E.o;omega) (by intro e;injection e with e;have:=A.o;omega)).trans n.o);clear hr g p C y D n;have c0:d.cell? ⟨a+1,0,none⟩=some (.int .u64 0):=by rw[Ag _ _ _ _ _ _ b.o];rfl
 have f0:d.frozen? ⟨a+1,0,none⟩=false:=At _ _ _ _ _ b.o;have c1:(d.setCell ⟨a+1,0,none⟩ (.int .u64 (x:Int))).cell? ⟨a+1,1,none⟩=some (.string ⟨#[]⟩):=by rw[Ag _ _ _ _ _ _ (block_setCell b.o _)];rfl
 have f1:(d.setCell ⟨a+1,0,none⟩ (.int .u64 (x:Int))).frozen? ⟨a+1,1,none⟩=false:=At _ _ _ _ _ (block_setCell b.o _);have Y:((d.setCell ⟨a+1,0,none⟩ (.int .u64 (x:Int))).setCell ⟨a+1,1,none⟩ (.string ⟨#[]⟩)).cell? ⟨a+1,0,none⟩=some (.int .u64 (x:Int)):=by rw[Ag _ _ _ _ _ _ (block_setCell (block_setCell b.o _) _)];rfl
 have Z:((d.setCell ⟨a+1,0,none⟩ (.int .u64 (x:Int))).setCell ⟨a+1,1,none⟩ (.string ⟨#[]⟩)).cell? ⟨a+1,1,none⟩=some (.string ⟨#[]⟩):=by rw[Ag _ _ _ _ _ _ (block_setCell (block_setCell b.o _) _)];rfl
 have Q:=h_ (show Mdl ((d.setCell ⟨a+1,0,none⟩ (.int .u64 (x:Int))).setCell ⟨a+1,1,none⟩ (.string ⟨#[]⟩)) m v l M J from by
  have H:d.grownBy ((d.setCell ⟨a+1,0,none⟩ (.int .u64 (x:Int))).setCell ⟨a+1,1,none⟩ (.string ⟨#[]⟩)) (some (a+1)):=za0 (za0 (World.grownBy.refl _ _) _) _;refine f.same (H.block m f.lt (by intro e;injection e with e;have:=A.o;omega)) fun j u=>H.block _ (f.rd.block u) (fun e=>?_);injection e with e
  exact S.o j u e)
 have N:=h_ (show w.grownBy ((d.setCell ⟨a+1,0,none⟩ (.int .u64 (x:Int))).setCell ⟨a+1,1,none⟩ (.string ⟨#[]⟩)) (some m)from z.sets (by have:=O.o;omega) _ _ _ _);clear b f z;go_wp2;generalize ((d.setCell ⟨a+1,0,none⟩ (.int .u64 (x:Int))).setCell ⟨a+1,1,none⟩ (.string ⟨#[]⟩))=w9 at *;refine bodyPost_ret (by simp[results,results217,go_sem,Y,Z];try rfl) rfl ?_;have I:rd1 l kind 0 (ceL (c,ps)) k=(if J=0 then((x,[]),M,0)else((0,[]),M,J)):=by
  unfold rd1;rw[Aa (by omega),X.o];dsimp only;by_cases G:J=0
  .rw[Aa (by omega),Ab ⟨rfl,U.o⟩,Ab G]
  rw[Ab G,Aa G]
 have s:(rd1 l kind 0 (ceL (c,ps)) k).2.1=M/\(rd1 l kind 0 (ceL (c,ps)) k).2.2=J:=by
  rw[I];split
  ·rename_i G;exact⟨rfl,G.symm⟩
  exact⟨rfl,rfl⟩
 refine⟨(x,⟨#[]⟩),rfl,N.o,by rw[s.1,s.2];exact Q.o,t,by simp[ByteArray.size],fun h=>?_⟩;rw[s.2]at h;rw[I,Ab h];rfl
def zA8(m:Nat)(v:Value)(l:Bs)(k:Nat)(w:World)(N:Mdl w m v l k 0)(kind:Int)(i:Nat)(b:Nat)(ps:ByteArray)(am:b<18446744073709551616)(al:ps.size<=256)(hi:i<=140737488351232)(Z:¬(i=0/\kind≠0))(h3:kind≠3)(h4:kind≠4) :Calls prog 217 #[.pointer (some ⟨m,0,none⟩),.int .i64 kind,.int .i64 (i:Int),cellV b ps] w (OneR w m v l kind i (b,ps) k):=by
 unfold cellV;have ak:=N.lt;have f:=h_ (show Mdl ((w.alloc (.cells #[.int .u64 (b:Int),.string ps] 65)).alloc (.cells #[.int .u64 0,.string ⟨#[]⟩] 65)) m v l k 0 from N.later (((Ac w.heap.size w).alloc l_ _).alloc (by rw[Az];omega) _) l_);have C:=h_ (show w.grownBy ((w.alloc (.cells #[.int .u64 (b:Int),.string ps] 65)).alloc (.cells #[.int .u64 0,.string ⟨#[]⟩] 65)) (some m)from below_grown (((Ac w.heap.size w).alloc l_ _).alloc (by rw[Az];omega) _) _);have n:=h_ (show((w.alloc (.cells #[.int .u64 (b:Int),.string ps] 65)).alloc (.cells #[.int .u64 0,.string ⟨#[]⟩] 65)).heap[w.heap.size]?=some (.cells #[.int .u64 (b:Int),.string ps] 65 (0,0))from(AS _ _ _ (by rw[Az];omega)).trans (AB _ _));have u:=h_ (show((w.alloc (.cells #[.int .u64 (b:Int),.string ps] 65)).alloc (.cells #[.int .u64 0,.string ⟨#[]⟩] 65)).heap[w.heap.size+1]?=some (.cells #[.int .u64 0,.string ⟨#[]⟩] 65 (0,0))from by have:=AB (w.alloc (.cells #[.int .u64 (b:Int),.string ps] 65)) (.cells #[.int .u64 0,.string ⟨#[]⟩] 65);rw[Az]at this;exact this);have y:=h_ (show w.heap.size+2<=((w.alloc (.cells #[.int .u64 (b:Int),.string ps] 65)).alloc (.cells #[.int .u64 0,.string ⟨#[]⟩] 65)).heap.size from by rw[Az,Az];omega);obtain⟨a,z⟩:=nm_ w.heap.size;have t:=h_ (show m<a by omega);have T:=h_ (show w.heap.size<=a by omega);have Y:=h_ (show ∀j,j<l.length->(adr v j).block<a from fun j s=>by rw[z];exact N.rd.block s);have q3:(kind==3)=false:=by rw[As];exact h3
 have q4:(kind==4)=false:=by rw[As];exact h4
 have U:=h_ Z;have hq:((i:Int)==0)=false\/(((i:Int)==0)=true/\(kind !=0)=false):=by
  rcases C6 i with h|h
  .right;subst h;exact⟨by simp,by rw[bne_eq_false_iff_eq];exact Decidable.byContradiction fun h=>Z ⟨rfl,h⟩⟩
  left;rw[As];omega
 clear Z;rcases hq with q0|⟨q0,q9⟩
 all_goals
  clear N;go_enter func217,ntmps217;go_wp2_with fail;generalize ((w.alloc (.cells #[.int .u64 (b:Int),.string ps] 65)).alloc (.cells #[.int .u64 0,.string ⟨#[]⟩] 65))=w2 at *;rw[<-z]at n u y ⊢;clear z;have p0:w2.cell? ⟨a,0,none⟩=some (.int .u64 (b:Int)):=by rw[Ag _ _ _ _ _ _ n.o];rfl
  have M:=h_ (fun wz(h:w2.grownBy wz none)=>zrB m v l k wz (f.same (h.block m f.lt (by simp)) (fun j s=>h.block _ (f.rd.block s) (by simp))));rcases hr:rdU l k 18446744073709551615 with⟨x,O,L⟩
  rw[hr]at M;have HU:=h_ hr;clear hr;dsimp only at M;have Q:=h_ (show IntKind.u64.wrap ((b:Int)+IntKind.u64.wrap (zag x))=(addZ b x:Int)from by
   rw[IntKind.wrap_u64,IntKind.wrap_u64];unfold addZ;omega)
  go_region_with (
   go_at_call 182;have H:=M.o w2.drew ⟨rfl,rfl,rfl,l_,fun _ _ _=>rfl⟩;refine H.mono ?_;clear H;rintro e d⟨rfl,r,G⟩;have p:=(r.block a (by have:=y.o;show a<w2.heap.size;omega) (by intro e;injection e with e;have:=t.o;omega)).trans n.o;have c:=(r.block (a+1) (by have:=y.o;show a+1<w2.heap.size;omega) (by intro e;injection e with e;have:=t.o;omega)).trans u.o;have p3:d.cell? ⟨a,0,none⟩=some (.int .u64 (b:Int)):=by rw[Ag _ _ _ _ _ _ p];rfl
   have c0:d.cell? ⟨a+1,0,none⟩=some (.int .u64 0):=by rw[Ag _ _ _ _ _ _ c];rfl
   have f0:d.frozen? ⟨a+1,0,none⟩=false:=At _ _ _ _ _ c;have c1:(d.setCell ⟨a+1,0,none⟩ (.int .u64 (IntKind.u64.wrap ((b:Int)+IntKind.u64.wrap (zag x))))).cell? ⟨a+1,1,none⟩=some (.string ⟨#[]⟩):=by rw[Ag _ _ _ _ _ _ (block_setCell c _)];rfl
   have f1:(d.setCell ⟨a+1,0,none⟩ (.int .u64 (IntKind.u64.wrap ((b:Int)+IntKind.u64.wrap (zag x))))).frozen? ⟨a+1,1,none⟩=false:=At _ _ _ _ _ (block_setCell c _);have p:=h_ p;have c:=h_ c
   )
  all_goals(
   rw[Q.o];clear c0 c1 f0 f1 p3 p0;have g:=h_ G;have D:=h_ (C.trans_drew.trans r);have X:=h_ (show ∀j,j<l.length->(adr v j).block≠a+1 from fun j s e=>by have h1:=Y.o j s;omega);clear G r p f C n u M;have c0:d.cell? ⟨a+1,0,none⟩=some (.int .u64 0):=by rw[Ag _ _ _ _ _ _ c.o];rfl
   have f0:d.frozen? ⟨a+1,0,none⟩=false:=At _ _ _ _ _ c.o;have c1:(d.setCell ⟨a+1,0,none⟩ (.int .u64 (addZ b x:Int))).cell? ⟨a+1,1,none⟩=some (.string ⟨#[]⟩):=by rw[Ag _ _ _ _ _ _ (block_setCell c.o _)];rfl
   have f1:(d.setCell ⟨a+1,0,none⟩ (.int .u64 (addZ b x:Int))).frozen? ⟨a+1,1,none⟩=false:=At _ _ _ _ _ (block_setCell c.o _);have e0:((d.setCell ⟨a+1,0,none⟩ (.int .u64 (addZ b x:Int))).setCell ⟨a+1,1,none⟩ (.string ⟨#[]⟩)).cell? ⟨a+1,0,none⟩=some (.int .u64 (addZ b x:Int)):=by rw[Ag _ _ _ _ _ _ (block_setCell (block_setCell c.o _) _)];rfl
   have e1:((d.setCell ⟨a+1,0,none⟩ (.int .u64 (addZ b x:Int))).setCell ⟨a+1,1,none⟩ (.string ⟨#[]⟩)).cell? ⟨a+1,1,none⟩=some (.string ⟨#[]⟩):=by rw[Ag _ _ _ _ _ _ (block_setCell (block_setCell c.o _) _)];rfl
   have V:=h_ (show Mdl ((d.setCell ⟨a+1,0,none⟩ (.int .u64 (addZ b x:Int))).setCell ⟨a+1,1,none⟩ (.string ⟨#[]⟩)) m v l O L from by
    have I:d.grownBy ((d.setCell ⟨a+1,0,none⟩ (.int .u64 (addZ b x:Int))).setCell ⟨a+1,1,none⟩ (.string ⟨#[]⟩)) (some (a+1)):=za0 (za0 (World.grownBy.refl _ _) _) _;refine g.same (I.block m g.lt (by intro e;injection e with e;have:=t.o;omega)) fun j s=>I.block _ (g.rd.block s) (fun e=>?_);injection e with e
    exact X.o j s e)
   have S:=h_ (show w.grownBy ((d.setCell ⟨a+1,0,none⟩ (.int .u64 (addZ b x:Int))).setCell ⟨a+1,1,none⟩ (.string ⟨#[]⟩)) (some m)from D.sets (by have:=T.o;omega) _ _ _ _);clear c g D;go_wp2;generalize ((d.setCell ⟨a+1,0,none⟩ (.int .u64 (addZ b x:Int))).setCell ⟨a+1,1,none⟩ (.string ⟨#[]⟩))=w9 at *;refine bodyPost_ret (by simp[results,results217,go_sem,e0,e1];try rfl) rfl ?_;have J:rd1 l kind i (ceL (b,ps)) k=(if L=0 then((addZ b x,[]),O,0)else((0,[]),O,L)):=by
    unfold rd1;rw[Aa (by omega),HU.o];dsimp only;by_cases E:L=0
    .rw[Aa (by omega),Aa U.o,Ab E];rfl
    .rw[Ab E,Aa E]
   have A:(rd1 l kind i (ceL (b,ps)) k).2.1=O/\(rd1 l kind i (ceL (b,ps)) k).2.2=L:=by
    rw[J];split
    ·rename_i E;exact⟨rfl,E.symm⟩
    .exact⟨rfl,rfl⟩
   refine⟨(addZ b x,⟨#[]⟩),rfl,S.o,by rw[A.1,A.2];exact V.o,zuX _ _,by simp[ByteArray.size],fun h=>?_⟩;rw[A.2]at h;rw[J,Ab h];rfl
   )
def zDY(q:Int)(aj:q=3\/q=4)(m:Nat)(v:Value)(l:Bs)(k:Nat)(w:World)(hM:Mdl w m v l k 0)(i:Nat)(d:Nat)(ps:ByteArray)(bI:d<18446744073709551616)(bH:ps.size<=256)(hi:i<=140737488351232)  :Calls prog 217 #[.pointer (some ⟨m,0,none⟩),.int .i64 q,.int .i64 (i:Int),cellV d ps] w (OneR w m v l q i (d,ps) k):=by
 have HQ:=h_ aj;have hz:(Hid (q=3)/\(q==3)=true)\/(Hid (q=4)/\(q==3)=false/\(q==4)=true):=by rcases aj with rfl|rfl;exact .inl ⟨h_ rfl,rfl⟩;exact .inr ⟨h_ rfl,rfl,rfl⟩
 clear aj;unfold cellV;have bG:=hM.lt;have aG:=h_ (show Mdl ((w.alloc (.cells #[.int .u64 (d:Int),.string ps] 65)).alloc (.cells #[.int .u64 0,.string ⟨#[]⟩] 65)) m v l k 0 from hM.later (((Ac w.heap.size w).alloc l_ _).alloc (by rw[Az];omega) _) l_);have aB:=h_ (show w.grownBy ((w.alloc (.cells #[.int .u64 (d:Int),.string ps] 65)).alloc (.cells #[.int .u64 0,.string ⟨#[]⟩] 65)) (some m)from below_grown (((Ac w.heap.size w).alloc l_ _).alloc (by rw[Az];omega) _) _);have Q:=h_ (show((w.alloc (.cells #[.int .u64 (d:Int),.string ps] 65)).alloc (.cells #[.int .u64 0,.string ⟨#[]⟩] 65)).heap[w.heap.size]?=some (.cells #[.int .u64 (d:Int),.string ps] 65 (0,0))from(AS _ _ _ (by rw[Az];omega)).trans (AB _ _));have ai:=h_ (show((w.alloc (.cells #[.int .u64 (d:Int),.string ps] 65)).alloc (.cells #[.int .u64 0,.string ⟨#[]⟩] 65)).heap[w.heap.size+1]?=some (.cells #[.int .u64 0,.string ⟨#[]⟩] 65 (0,0))from by have:=AB (w.alloc (.cells #[.int .u64 (d:Int),.string ps] 65)) (.cells #[.int .u64 0,.string ⟨#[]⟩] 65);rw[Az]at this;exact this);have z:=h_ (show w.heap.size+2<=((w.alloc (.cells #[.int .u64 (d:Int),.string ps] 65)).alloc (.cells #[.int .u64 0,.string ⟨#[]⟩] 65)).heap.size from by rw[Az,Az];omega);obtain⟨a,an⟩:=nm_ w.heap.size;have c:=h_ (show m<a by omega);have be:=h_ (show w.heap.size<=a by omega);have bi:=h_ (show ∀j,j<l.length->(adr v j).block<a from fun j hj=>by rw[an];exact hM.rd.block hj);clear hM;have bn:ps.size=ps.data.toList.length:=(zdA (s:=ps) (by omega)).size9;obtain⟨pl,aq⟩:=nm_ ps.data.toList;have y:=h_ (zdA (s:=ps) (by omega));rw[<-aq]at y bn;have S:=h_ aq;have p1:((w.alloc (.cells #[.int .u64 (d:Int),.string ps] 65)).alloc (.cells #[.int .u64 0,.string ⟨#[]⟩] 65)).cell? ⟨w.heap.size,1,none⟩=some (.string ps):=by rw[Ag _ _ _ _ _ _ Q.o];rfl
 have a4:=y.len;clear aq;rcases hz with⟨H3,e3⟩|⟨H3,e3,e4⟩
 all_goals
  go_enter func217,ntmps217;go_wp2_with fail;generalize ((w.alloc (.cells #[.int .u64 (d:Int),.string ps] 65)).alloc (.cells #[.int .u64 0,.string ⟨#[]⟩] 65))=w2 at *;rw[<-an]at Q ai z p1 ⊢;clear an;refine(zcR m v l k w2 aG.o pl.length (by omega)).mono ?_;rintro e w3⟨rfl,E,Z⟩;have a5:(rdU l k pl.length).1<=pl.length:=by
   unfold rdU;split
   ·omega
   split<;>dsimp only<;>omega
  rcases hr:rdU l k pl.length with⟨x,k3,x3⟩;rw[hr]at Z a5;dsimp only at Z a5 ⊢;have HU:=h_ hr;have f:=h_ Z;have u:=h_ (aB.trans E);have aL:=h_ ((E.block a (by have:=z.o;omega) (by intro e;injection e with e;have:=c.o;omega)).trans Q.o);have b:=h_ ((E.block (a+1) (by have:=z.o;omega) (by intro e;injection e with e;have:=c.o;omega)).trans ai.o);have V:=h_ (show a+2<=w3.heap.size by have:=z.o;have:=E.size;omega);clear hr Z E aG aB Q ai z p1 a4;have a0:k3<=l.length:=f.le;have bm:=zE4 (l:=l) (k:=k3) (most:=256-(x:Int)) a0 (by omega);go_wp2_with fail;refine(zBJ m v l k3 x3 w3 f.o (256-(x:Int)) (by omega)).mono ?_;rintro e w4⟨val,⟨rfl,G,ak⟩,J⟩;obtain⟨p,aa⟩:=nm_ ((if x3=0 then(rdB l k3 (256-(x:Int))).1 else[]));obtain⟨k4,ao⟩:=nm_ ((if x3=0 then(rdB l k3 (256-(x:Int))).2.1 else k3));obtain⟨x4,au⟩:=nm_ ((if x3=0 then(rdB l k3 (256-(x:Int))).2.2 else x3));rw[<-aa]at J;rw[<-ao,<-au]at ak;have bs:p.length<=512:=by
   rw[aa];split
   ·omega
   simp
  have ac:=(J.rd (by omega)).str;obtain⟨n,ar⟩:∃s:ByteArray,s=⟨p.toArray⟩:=⟨_,rfl⟩;have am:RdS n p:=⟨ar,by omega⟩;rw[<-ar]at ac;have bo:(ps.extract 0 x).size=x:=by rw[(y.takeS x).size9,Aq];omega
  have bp:n.size=p.length:=am.size9;have aX:RdS (ps.extract 0 x++n) (pl.take x++p):=(y.takeS x).app9 am (by rw[Aq];omega);have aY:¬((ps.extract 0 x).size+n.size>9223372036854775807):=by omega
  have U:=h_ aX;have bd:=h_ aa;have bf:=h_ ao;have bj:=h_ au;have O:=h_ ak;have M:=h_ (u.trans G);have ag:=h_ ((G.block a (by have:=V.o;omega) (by intro e;injection e with e;have:=c.o;omega)).trans aL.o);have aQ:=h_ ((G.block (a+1) (by have:=V.o;omega) (by intro e;injection e with e;have:=c.o;omega)).trans b.o);have X:=h_ (show a+2<=w4.heap.size by have:=V.o;have:=G.size;omega);have p4:w4.cell? ⟨a,1,none⟩=some (.string ps):=by rw[Ag _ _ _ _ _ _ ag.o];rfl
  have aM:=h_ (show(w4.alloc (.cells #[.int .u64 0,.string (ps.extract 0 x++n)] 65)).heap[a]?=some (.cells #[.int .u64 (d:Int),.string ps] 65 (0,0))from(AS _ _ _ (by have:=X.o;omega)).trans ag.o);have aR:=h_ (show(w4.alloc (.cells #[.int .u64 0,.string (ps.extract 0 x++n)] 65)).heap[a+1]?=some (.cells #[.int .u64 0,.string ⟨#[]⟩] 65 (0,0))from(AS _ _ _ (by have:=X.o;omega)).trans aQ.o);have aN:=h_ (show(w4.alloc (.cells #[.int .u64 0,.string (ps.extract 0 x++n)] 65)).heap[w4.heap.size]?=some (.cells #[.int .u64 0,.string (ps.extract 0 x++n)] 65 (0,0))from AB _ _);have ae:=h_ (show Lz w4 (w4.alloc (.cells #[.int .u64 0,.string (ps.extract 0 x++n)] 65))from(Ac _ _).alloc l_ _);have Y:=h_ (show a+1<w4.heap.size/\w4.heap.size<(w4.alloc (.cells #[.int .u64 0,.string (ps.extract 0 x++n)] 65)).heap.size from by have:=X.o;rw[Az];omega);have aH:=h_ (show Mdl (w4.alloc (.cells #[.int .u64 0,.string (ps.extract 0 x++n)] 65)) m v l k4 x4 from O.later ae.o l_);have aC:=h_ (show w.grownBy (w4.alloc (.cells #[.int .u64 0,.string (ps.extract 0 x++n)] 65)) (some m)from M.trans (below_grown ae.o _));have p5:(w4.alloc (.cells #[.int .u64 0,.string (ps.extract 0 x++n)] 65)).cell? ⟨a,1,none⟩=some (.string ps):=by rw[Ag _ _ _ _ _ _ aM.o];rfl
  clear G ak J aa ao au bm ar am aX a0 f u aL b V ag aQ X O M ae;go_wp2_with fail;generalize ps.extract 0 x++n=T at *;generalize w4.alloc (.cells #[.int .u64 0,.string T] 65)=w5 at *;generalize w4.heap.size=gc at *;refine(zn1 ps T pl (pl.take x++p) w5 y.o U.o).mono ?_;rintro e w6⟨rfl,hb⟩;have aI:=h_ (aH.later hb l_);have aD:=h_ (aC.trans (below_grown hb _));have aS:=h_ ((hb.block (a+1) (by have:=Y.o;omega)).trans aR.o);have aO:=h_ ((hb.block gc (by have:=Y.o;omega)).trans aN.o);have A:=h_ (show a+1<gc/\gc<w6.heap.size from by have:=Y.o;have:=hb.size;omega);obtain⟨N,hN⟩:=nm_ (shr pl (pl.take x++p));rw[<-hN];have HN:=h_ hN;obtain⟨aw,ap⟩:=nm_ (decide (N=x));have bJ:((N:Int)==(x:Int))=aw:=by
   rw[ap];by_cases h9:N=x
   .rw[h9];simp
   rw[Af h9,As];omega
  have bg:=h_ ap;clear hb aH aC aM aR aN Y p5 p4 hN ap bo bp aY ac;go_wp2_with fail;refine(zc2 m v l k4 x4 w6 aI.o aw 6).mono ?_;rintro e w7⟨rfl,H,al⟩;obtain⟨L,av⟩:=nm_ ((if x4=0 then(if aw=true then 0 else 6)else x4));rw[<-av]at al;have bk:=h_ av;have af:=h_ al;have aE:=h_ (aD.trans H);have aT:=h_ ((H.block (a+1) (by have:=A.o;omega) (by intro e;injection e with e;have:=c.o;omega)).trans aS.o);have ah:=h_ ((H.block gc (by have:=A.o;omega) (by intro e;injection e with e;have:=c.o;have:=A.o;omega)).trans aO.o);have C:=h_ (show a+1<gc/\gc<w7.heap.size from by have:=A.o;have:=H.size;omega);clear H al av aI aD aS aO A
 focus
  go_wp2_with fail;refine(zc2 m v l k4 L w7 af.o true 11).mono ?_;rintro e g⟨rfl,r,D⟩;obtain⟨x8,t⟩:=nm_ ((if L=0 then(if true=true then 0 else 11)else L));rw[<-t]at D;have aW:=h_ (show x8=(if L=0 then(if q=4/\utf8 (pl.take x++p)=false then 11 else 0)else L)from by rw[t,Ab rfl,Aa (fun h:q=4/\_=>by have:=H3.o;omega)])
 rotate_left
 focus
  obtain⟨a6,I⟩:=nm_ (utf8 (pl.take x++p));have aV:=h_ (zjD T (pl.take x++p) w7 U.o);rw[<-I]at aV;have aK:=h_ I;have u1:w7.cell? ⟨gc,1,none⟩=some (.string T):=by rw[Ag _ _ _ _ _ _ ah.o];rfl
  clear I;go_wp2_with fail;refine aV.mono ?_;rintro e g⟨rfl,rfl⟩;go_wp2_with fail;refine(zc2 m v l k4 L w7 af.o a6 11).mono ?_;rintro e g⟨rfl,r,D⟩;obtain⟨x8,t⟩:=nm_ ((if L=0 then(if a6=true then 0 else 11)else L));rw[<-t]at D;have aW:=h_ (show x8=(if L=0 then(if q=4/\utf8 (pl.take x++p)=false then 11 else 0)else L)from by rw[t,aK.o];simp[H3.o];cases utf8 (pl.take x++p)<;>rfl)
 all_goals
  have aJ:=h_ D;have aF:=h_ (aE.trans r);have aU:=h_ ((r.block (a+1) (by have:=C.o;omega) (by intro e;injection e with e;have:=c.o;omega)).trans aT.o);have aP:=h_ ((r.block gc (by have:=C.o;omega) (by intro e;injection e with e;have:=c.o;have:=C.o;omega)).trans ah.o);have bz:=h_ (show a+1<gc/\gc<g.heap.size from by have:=C.o;have:=r.size;omega);clear r D t af aE aT ah C;have b:=aU;have f:=aJ;have u:=aF;have bh:=h_ (show ∀j,j<l.length->(adr v j).block≠a+1 from fun j hj e=>by have h1:=bi.o j hj;omega);have g0:g.cell? ⟨gc,0,none⟩=some (.int .u64 0):=by rw[Ag _ _ _ _ _ _ aP.o];rfl
  have g1:g.cell? ⟨gc,1,none⟩=some (.string T):=by rw[Ag _ _ _ _ _ _ aP.o];rfl
  clear aU aJ aF;have c0:g.cell? ⟨a+1,0,none⟩=some (.int .u64 0):=by rw[Ag _ _ _ _ _ _ b.o];rfl
  have f0:g.frozen? ⟨a+1,0,none⟩=false:=At _ _ _ _ _ b.o;have c1:(g.setCell ⟨a+1,0,none⟩ (.int .u64 (0:Int))).cell? ⟨a+1,1,none⟩=some (.string ⟨#[]⟩):=by rw[Ag _ _ _ _ _ _ (block_setCell b.o _)];rfl
  have f1:(g.setCell ⟨a+1,0,none⟩ (.int .u64 (0:Int))).frozen? ⟨a+1,1,none⟩=false:=At _ _ _ _ _ (block_setCell b.o _);have e0:((g.setCell ⟨a+1,0,none⟩ (.int .u64 (0:Int))).setCell ⟨a+1,1,none⟩ (.string T)).cell? ⟨a+1,0,none⟩=some (.int .u64 (0:Int)):=by rw[Ag _ _ _ _ _ _ (block_setCell (block_setCell b.o _) _)];rfl
  have e1:((g.setCell ⟨a+1,0,none⟩ (.int .u64 (0:Int))).setCell ⟨a+1,1,none⟩ (.string T)).cell? ⟨a+1,1,none⟩=some (.string T):=by rw[Ag _ _ _ _ _ _ (block_setCell (block_setCell b.o _) _)];rfl
  have O:=h_ (show Mdl ((g.setCell ⟨a+1,0,none⟩ (.int .u64 (0:Int))).setCell ⟨a+1,1,none⟩ (.string T)) m v l k4 x8 from by
   have aZ:g.grownBy ((g.setCell ⟨a+1,0,none⟩ (.int .u64 (0:Int))).setCell ⟨a+1,1,none⟩ (.string T)) (some (a+1)):=za0 (za0 (World.grownBy.refl _ _) _) _;refine f.same (aZ.block m f.lt (by intro e;injection e with e;have:=c.o;omega)) fun j hj=>aZ.block _ (f.rd.block hj) (fun e=>?_);injection e with e
   exact bh.o j hj e)
  have M:=h_ (show w.grownBy ((g.setCell ⟨a+1,0,none⟩ (.int .u64 (0:Int))).setCell ⟨a+1,1,none⟩ (.string T)) (some m)from u.sets (by have:=be.o;omega) _ _ _ _);clear b f u;go_wp2;generalize ((g.setCell ⟨a+1,0,none⟩ (.int .u64 (0:Int))).setCell ⟨a+1,1,none⟩ (.string T))=w9 at *;refine bodyPost_ret (by simp[results,results217,go_sem,e0,e1];try rfl) rfl ?_;have ab:=@zIL l q i k x k3 x3 k4 x4 L x8 (ceL (d,ps)) p HQ.o (by rw[show(ceL (d,ps)).2=pl from S.symm];exact HU.o) bd.o bf.o bj.o (by rw[bk.o,bg.o,HN.o,show(ceL (d,ps)).2=pl from S.symm];simp) (by rw[show(ceL (d,ps)).2=pl from S.symm];exact aW.o);rw[show(ceL (d,ps)).2=pl from S.symm]at ab;obtain⟨a1,a2,a3⟩:=ab;refine⟨(0,T),rfl,M.o,by rw[a1,a2];exact O.o,by show 0<18446744073709551616;decide,?_,fun h=>?_⟩
  .have e:=U.size9;rw[e,Ae,Aq];omega
  rw[a2]at h;rw[a3 h];exact Prod.ext rfl (by show T.data.toList=_;rw[U.eq])
def zGU(m:Nat)(v:Value)(l:Bs)(k:Nat)(w:World)(g:Mdl w m v l k 0)(kind:Int)(t:0<=kind/\kind<=5)(i:Nat)(p:CellB)(hp:Fit kind (ceL p))(s:kind≠2)(j:i<=140737488351232) :Calls prog 217 #[.pointer (some ⟨m,0,none⟩),.int .i64 kind,.int .i64 (i:Int),cellV p.1 p.2] w (OneR w m v l kind i p k):=by
 obtain⟨d,ps⟩:=p;have b:d<18446744073709551616:=hp.lt;have a:ps.size<=256:=by
  by_cases n:kind=3\/kind=4
  .have:=(hp.text n).2.1;simpa[ceL]using this
  have:=(hp.num n).1;have e:ps.data.toList.length=0:=by
   have r:ps.data.toList=[]:=this;rw[r];rfl
  have:ps.size=0:=by simpa using e
  omega
 by_cases c:kind=3\/kind=4
 .exact zDY kind c m v l k w g i d ps b a j
 by_cases f:i=0/\kind≠0
 .exact zDX m v l k w g kind i d ps b a j f.1 f.2 (fun h=>c (.inl h)) (fun h=>c (.inr h))
 exact zA8 m v l k w g kind i d ps b a j f (fun h=>c (.inl h)) (fun h=>c (.inr h))
/- -/
def TakeR(w:World)(m:Nat)(v:Value)(l:Bs)(kind n:Int)(k:Nat)(e:Ending)(w':World):Prop :=
 ∃tv,e=.returned tv/\w.grownBy w' (some m)/\Mdl w' m v l (rdK l kind n k).2.1 (rdK l kind n k).2.2/\∃cs:List CellB,OwnE w' w.heap.size tv cs/\CES cs/\cs.length<=n.toNat/\((rdK l kind n k).2.2=0->cesL cs=(rdK l kind n k).1)
def zEU{kind:Int}(b:0<=kind/\kind<=5):Fit kind (0,[]):=by
 refine⟨?_,by decide⟩;by_cases a:kind=3\/kind=4
 .exact zgH a (by simp) (fun _=>zjA)
 exact zdZ b a (fun _=>by decide)
def zrD(cs:List CellB)(c:CellB):lstB (cs++[c]) (cs.length+1)=c:=by
 unfold lstB;rw[Aa (by omega),Bv];simp[List.getD]
def zlS(cs:List CellB)(c:CellB):cesL (cs++[c])=cesL cs++[ceL c]:=by unfold cesL;simp
def lenV:Value->Nat
 | .slice _ n _=>n
 | _=>0
def OwnE.lenV{w:World}{base:Nat}{v:Value}{cs:List CellB}(h:OwnE w base v cs):lenV v=cs.length:=by
 rcases h.1.2 with⟨rfl,a⟩|⟨g,cap,b,rfl,_⟩
 .rw[Ad]at a;exact a.symm
 show(cs.map cellVs).length=_;rw[Ad]
def zAB(m:Nat)(v:Value)(l:Bs)(k:Nat)(w:World)(hM:Mdl w m v l k 0)(kind:Int)(hk:0<=kind/\kind<=5)(U:kind≠2)(n:Nat)(hn:n<=1024) :Calls prog 181 #[.pointer (some ⟨m,0,none⟩),.int .i64 kind,.int .i64 (n:Int)] w (TakeR w m v l kind n k):=by
 have aA:=hM.lt;have d1:decide (kind≥0)=true:=Ah hk.1;have d2:decide (kind<=5)=true:=Ah hk.2;have d3:decide ((n:Int)≥0)=true:=Ah (by omega);have d4:decide ((n:Int)<=1024)=true:=Ah (by omega);have q2:(kind==2)=false:=by rw[As];exact U
 have ap:=h_ (show rdK l kind n k=rdN l kind n (0,[]) [] k by
  unfold rdK;rw[Aa (by omega),Aa (by omega),Aa U,Aw])
 have HK:=h_ hk;have H2:=h_ U;have G:=h_ aA;obtain⟨R,hR⟩:=nm_ (rdK l kind n k);have u:=h_ hR;rw[<-hR]at ap;have N:=h_ (fun q(y:q<l.length)=>hM.rd.block y);have D:=h_ hM;clear hk U hM hR aA;go_enter func181,ntmps181;go_wp2_with fail;refine(zcS m v l k w D.o true 10).mono ?_;rintro e w1⟨rfl,Z,av⟩;go_wp2_with fail;refine(zcS m v l k w1 av true 3).mono ?_;rintro e A⟨rfl,aa,aw⟩;have ae:=h_ (Z.trans aa);have ai:=h_ (show Mdl A m v l k 0 from aw);have aB:w.heap.size<=A.heap.size:=(Z.trans aa).size;have aq:=h_ aB;clear Z aa av aw aB D;have Q:=h_ (show Lz A (A.alloc (.cells #[.int .u64 0,.string ⟨#[]⟩] 65))from(Ac _ _).alloc l_ _);have af:=h_ (ae.trans (below_grown Q.o (some m)));have aj:=h_ (ai.later Q.o l_);have an:=h_ (show(A.alloc (.cells #[.int .u64 0,.string ⟨#[]⟩] 65)).heap[A.heap.size]?=some (.cells #[.int .u64 0,.string ⟨#[]⟩] 65 (0,0))from AB _ _);have f:=h_ (show w.heap.size<=A.heap.size/\A.heap.size+1<=(A.alloc (.cells #[.int .u64 0,.string ⟨#[]⟩] 65)).heap.size from⟨aq.o,by rw[Az];omega⟩);go_wp2;generalize A.alloc (.cells #[.int .u64 0,.string ⟨#[]⟩] 65)=w3 at *;generalize A.heap.size=gb at *;have ar:=h_ (show ∀q,q<l.length->(adr v q).block<gb from fun q y=>by have:=N.o q y;have:=f.o;omega);clear Q ae ai aq N;go_loopw [7] (fun a wr=>∃(cs:List CellB)(x E:Nat),Hid (cs.length<=n)/\Hid (OwnE wr (gb+1) a cs)/\Hid (CES cs)/\Hid (Mdl wr m v l E x)/\Hid (w.grownBy wr (some m))/\Hid (wr.heap[gb]?=some (.cells #[.int .u64 ((lstB cs cs.length).1:Int),.string (lstB cs cs.length).2] 65 (0,0)))/\Hid (gb+1<=wr.heap.size) /\
  Hid (x=0->Fit kind (ceL (lstB cs cs.length))/\R=rdN l kind (n-cs.length) (ceL (lstB cs cs.length)) (cesL cs) E)/\Hid (x≠0->R.2.1=E/\R.2.2=x)) (fun a wr=>n-lenV a)
 case atStart=>
  refine⟨[],0,k,h_ (by simp),h_ (OwnE.nil _ _),h_ (fun c X=>absurd X (by simp)),aj,af,an,h_ f.2,h_ (fun _=>⟨zEU HK.o,?_⟩),h_ (fun h=>absurd rfl h)⟩;rw[ap.o];rfl
 obtain⟨cs,x,E,HL,S,HC,D,HG,HR,HS,HI,HJ⟩:=hrel;clear aj af an;have az:=(S.rd (by have:=HL.o;omega)).len;have c2:=D.cell2;obtain⟨j,hj⟩:=nm_ cs.length;rw[<-hj]at az;have t:=h_ hj;have bi:j<=n:=by rw[hj];exact HL.o
 clear hj;by_cases bj:j<n
 .by_cases hx:x=0
  .subst hx;have c2:wr.cell? ⟨m,2,none⟩=some (.int .i64 0):=c2;obtain⟨i1,i2⟩:=HI.o rfl;rcases hp:lstB cs cs.length with⟨O,ps⟩
   rw[hp]at i1 i2 HR;have b0:wr.cell? ⟨gb,0,none⟩=some (.int .u64 (O:Int)):=(by rw[Ag _ _ _ _ _ _ HR.o];rfl);have b1:wr.cell? ⟨gb,1,none⟩=some (.string ps):=(by rw[Ag _ _ _ _ _ _ HR.o];rfl);have ON:=h_ (zGU m v l E wr D.o kind HK.o j (O,ps) i1 H2.o (by omega));unfold cellV at ON;have aN:=h_ i2;have aS:=h_ D.le;clear hp i1 i2 HI HJ;go_wp2_with fail;refine ON.mono ?_;rintro e p⟨⟨d,b⟩,rfl,C,I,J,ax,Y⟩;unfold cellV;dsimp only at J ax Y;have z:=(C.block gb (by have:=HS.o;omega) (by intro e;injection e with e;have:=G.o;have:=f.o;omega)).trans HR.o;have T:=h_ (S.grown C (fun q y=>by have:=(OwnE.lt S.o y).1;have:=G.o;have:=f.o;intro e;injection e with e;omega));have ag:=h_ (HG.trans C);have s0:p.cell? ⟨gb,0,none⟩=some (.int .u64 (O:Int)):=(by rw[Ag _ _ _ _ _ _ z];rfl);have f0:p.frozen? ⟨gb,0,none⟩=false:=At _ _ _ _ _ z;have s1:(p.setCell ⟨gb,0,none⟩ (.int .u64 (d:Int))).cell? ⟨gb,1,none⟩=some (.string ps):=(by rw[Ag _ _ _ _ _ _ (block_setCell z _)];rfl);have f1:(p.setCell ⟨gb,0,none⟩ (.int .u64 (d:Int))).frozen? ⟨gb,1,none⟩=false:=At _ _ _ _ _ (block_setCell z _);have M:((p.setCell ⟨gb,0,none⟩ (.int .u64 (d:Int))).setCell ⟨gb,1,none⟩ (.string b)).heap[gb]?=some (.cells #[.int .u64 (d:Int),.string b] 65 (0,0)):=block_setCell (block_setCell z _) _;have t0:((p.setCell ⟨gb,0,none⟩ (.int .u64 (d:Int))).setCell ⟨gb,1,none⟩ (.string b)).cell? ⟨gb,0,none⟩=some (.int .u64 (d:Int)):=(by rw[Ag _ _ _ _ _ _ M];rfl);have t1:((p.setCell ⟨gb,0,none⟩ (.int .u64 (d:Int))).setCell ⟨gb,1,none⟩ (.string b)).cell? ⟨gb,1,none⟩=some (.string b):=(by rw[Ag _ _ _ _ _ _ M];rfl);have L:p.grownBy ((p.setCell ⟨gb,0,none⟩ (.int .u64 (d:Int))).setCell ⟨gb,1,none⟩ (.string b)) (some gb):=za0 (za0 (World.grownBy.refl _ _) _) _;have H:=h_ (show gb+1<=((p.setCell ⟨gb,0,none⟩ (.int .u64 (d:Int))).setCell ⟨gb,1,none⟩ (.string b)).heap.size by rw[Bb,Bb];have:=HS.o;have:=C.size;omega);have ak:=h_ (I.same (L.block m I.lt (by intro e;injection e with e;have:=G.o;have:=f.o;omega)) fun q y=>L.block _ (I.rd.block y) (fun e=>by injection e with e;have:=ar.o q y;omega));have s:=h_ (ag.sets (g:=gb) (by have:=f.o;omega) 0 1 (.int .u64 (d:Int)) (.string b));have al:=h_ (T.grown L (fun q y=>by have:=(OwnE.lt T.o y).1;intro e;injection e with e;omega));have ao:=h_ M;have aH:=h_ Y;have bb:d<18446744073709551616:=J;have aJ:=h_ (show ceS (d,b)from⟨J,by dsimp only;omega⟩);clear z M L C I Y T ag HR D HG HS ON J ax b0 b1 c2;have HA:=h_ (show Below (gb+1) (((p.setCell ⟨gb,0,none⟩ (.int .u64 (d:Int))).setCell ⟨gb,1,none⟩ (.string b)).alloc (.cells #[.int .u64 (d:Int),.string b] 65)) (((p.setCell ⟨gb,0,none⟩ (.int .u64 (d:Int))).setCell ⟨gb,1,none⟩ (.string b)).alloc (.cells #[.int .u64 (d:Int),.string b] 65))from Ac _ _);have ac:=h_ (show Below (gb+1) ((p.setCell ⟨gb,0,none⟩ (.int .u64 (d:Int))).setCell ⟨gb,1,none⟩ (.string b)) (((p.setCell ⟨gb,0,none⟩ (.int .u64 (d:Int))).setCell ⟨gb,1,none⟩ (.string b)).alloc (.cells #[.int .u64 (d:Int),.string b] 65))from(Ac _ _).alloc H.o _);go_wp2_with (with_reducible refine zc7 (gb+1) _ ?hs (al.o.alloc _) _ (d,b) ?hx (zcI _ (d,b)) ?hn ?hbase (gb+1) (((p.setCell ⟨gb,0,none⟩ (.int .u64 (d:Int))).setCell ⟨gb,1,none⟩ (.string b)).alloc (.cells #[.int .u64 (d:Int),.string b] 65)) HA.o l_ ?_)
   case hs=>rfl
   case hx=>show _=Value.slice (some ⟨((p.setCell ⟨gb,0,none⟩ (.int .u64 (d:Int))).setCell ⟨gb,1,none⟩ (.string b)).heap.size,0,none⟩) 1 1;rw[Bb,Bb];rfl
   case hn=>rw[<-t.o];omega
   case hbase=>rw[Az];have:=H.o;omega
   intro v8 w8 V au a5;have i:=ac.trans au;have aX:=h_ V;have aW:=h_ (ak.same (i.block m (by have:=G.o;have:=f.o;omega)) fun q y=>i.block _ (by have:=ar.o q y;omega));have aL:=h_ (show w.grownBy w8 (some m)from⟨i.os.trans s.os,i.tape.trans s.tape,i.output.trans s.output,Ar s.size i.size,fun q h1 U=>(i.block q (by have:=f.o;omega)).trans (s.block q h1 U)⟩);have aY:=h_ (show w8.heap[gb]?=some (.cells #[.int .u64 ((lstB (cs++[(d,b)]) (cs++[(d,b)]).length).1:Int),.string (lstB (cs++[(d,b)]) (cs++[(d,b)]).length).2] 65 (0,0))from by
    rw[Ae,AN,zrD];exact(i.block gb (by omega)).trans ao.o)
   have a0:=h_ (show gb+1<=w8.heap.size from Ar H.o i.size);have aT:=h_ (show(cs++[(d,b)]).length<=n by rw[Ae,AN,<-t.o];omega);have aI:=h_ (show CES (cs++[(d,b)])from fun c X=>by
    rcases AD.1 X with X|X
    .exact HC.o c X
    .rw[AH.1 X];exact aJ.o)
   have r:=aN.o;rw[show n-cs.length=(n-(cs++[(d,b)]).length)+1 from by rw[Ae,AN,<-t.o];omega,rdN,za8,<-t.o]at r;have aO:=h_ (show(rd1 l kind j (ceL (O,ps)) E).2.2=0->Fit kind (ceL (lstB (cs++[(d,b)]) (cs++[(d,b)]).length))/\R=rdN l kind (n-(cs++[(d,b)]).length) (ceL (lstB (cs++[(d,b)]) (cs++[(d,b)]).length)) (cesL (cs++[(d,b)])) (rd1 l kind j (ceL (O,ps)) E).2.1 from fun h=>by
    have e:=aH.o h;rw[Aa (fun hh=>hh h),<-e]at r;rw[Ae,AN,zrD,zlS];rw[Ae,AN]at r;refine⟨?_,r⟩;rw[e];exact(zAU aS.o HK.o H2.o h).2.2)
   have aQ:=h_ (show(rd1 l kind j (ceL (O,ps)) E).2.2≠0->R.2.1=(rd1 l kind j (ceL (O,ps)) E).2.1/\R.2.2=(rd1 l kind j (ceL (O,ps)) E).2.2 from fun h=>by
    rw[Ab h]at r;rw[r];exact⟨rfl,rfl⟩)
   have aV:=h_ (OwnE.lenV V);have aU:=h_ (OwnE.lenV S.o);clear V au a5 i r HA ac s0 s1 f0 f1 t0 t1 al ak s ao H;go_wp2;go_roundw
   case rel=>exact⟨cs++[(d,b)],_,_,aT,aX,aI,aW,aL,aY,a0,aO,aQ⟩
   have h1:=aV.o;have U:=aU.o;have h3:=t.o;rw[Ae,AN]at h1;omega
  have y:((x:Int)==0)=false:=by rw[As];omega
  have HX:=h_ hx;obtain⟨r1,r2⟩:=HJ.o hx;have HF:=h_ (show TakeR w m v l kind n k (.returned u7) wr from⟨u7,rfl,HG.o,by rw[<-u.o,r1,r2];exact D.o,cs,OwnE.lower S.o (by have:=f.o;omega),HC.o,by rw[Aw];exact HL.o,fun h=>by rw[<-u.o,r2]at h;exact absurd h HX.o⟩);clear r1 r2 hx;go_wp2;go_ret;exact HF.o
 have ay:cs.length=n:=by rw[<-t.o];omega
 have HF:=h_ (show TakeR w m v l kind n k (.returned u7) wr from by
  by_cases hx:x=0
  .subst hx
   have e:=(HI.o rfl).2;rw[ay,BT,rdN]at e;refine⟨u7,rfl,HG.o,by rw[<-u.o,e];exact D.o,cs,OwnE.lower S.o (by have:=f.o;omega),HC.o,by rw[Aw];exact HL.o,fun _=>by rw[<-u.o,e]⟩
  .obtain⟨r1,r2⟩:=HJ.o hx
   exact⟨u7,rfl,HG.o,by rw[<-u.o,r1,r2];exact D.o,cs,OwnE.lower S.o (by have:=f.o;omega),HC.o,by rw[Aw];exact HL.o,fun h=>by rw[<-u.o,r2]at h;exact absurd h hx⟩)
 clear ay;go_wp2;go_ret;exact HF.o
/- -/
def zFG(c m s:Nat):((c/2^m)%2^(s+1)=0)↔((c/2^m)%2^s=0/\c/2^(m+s)%2=0):=by
 have f:c/2^(m+s)=c/2^m/2^s:=by rw[CE,BG]
 rw[f,Nat.mod_pow_succ];generalize c/2^m/2^s%2=b;generalize c/2^m%2^s=a;have hp:=BP s;constructor
 ·intro h;have e:2^s*b=0:=by omega
  refine⟨by omega,?_⟩;rcases Nat.mul_eq_zero.1 e with d|d
  .omega
  exact d
 rintro⟨e,d⟩;rw[e,d];simp
def zAC(m:Nat)(v:Value)(l:Bs)(k:Nat)(w:World)(hM:Mdl w m v l k 0)(n:Nat)(hn:n<=1024) :Calls prog 181 #[.pointer (some ⟨m,0,none⟩),.int .i64 2,.int .i64 (n:Int)] w (TakeR w m v l 2 n k):=by
 have aW:=hM.lt;have d3:decide ((n:Int)≥0)=true:=Ah (by omega);have d4:decide ((n:Int)<=1024)=true:=Ah (by omega);have aJ:=h_ (show rdK l 2 n k=rdQ l ((n+7)/8) n [] k by
  unfold rdK;rw[Aa (by omega),Aa (by omega),Ab rfl,Aw])
 have ai:=h_ aW;obtain⟨R,hR⟩:=nm_ (rdK l 2 n k);have E:=h_ hR;rw[<-hR]at aJ;have Z:=h_ (fun q(C:q<l.length)=>hM.rd.block C);have y:=h_ hM;clear hM hR aW;go_enter func181,ntmps181;go_wp2_with fail;refine(zcS m v l k w y.o true 10).mono ?_;rintro e w1⟨rfl,au,aO⟩;go_wp2_with fail;refine(zcS m v l k w1 aO true 3).mono ?_;rintro e X⟨rfl,av,aP⟩;have aC:=h_ (au.trans av);have aG:=h_ (show Mdl X m v l k 0 from aP);have aK:=h_ (au.trans av).size;clear au av aO aP y;have ab:=h_ (show Lz X (X.alloc (.cells #[.int .u64 0,.string ⟨#[]⟩] 65))from(Ac _ _).alloc l_ _);have aD:=h_ (aC.trans (below_grown ab.o (some m)));have U:=h_ (aG.later ab.o l_);have p:=h_ (show w.heap.size<=X.heap.size/\X.heap.size+1<=(X.alloc (.cells #[.int .u64 0,.string ⟨#[]⟩] 65)).heap.size from⟨aK.o,by rw[Az];omega⟩);go_wp2;generalize X.alloc (.cells #[.int .u64 0,.string ⟨#[]⟩] 65)=w3 at *;generalize X.heap.size=gb at *;have bk:=h_ (show ∀q,q<l.length->(adr v q).block<gb from fun q C=>by have:=Z.o q C;have:=p.o;omega);clear ab aC aG aK Z;go_loopw [7] (fun a wr=>∃(cs:List CellB)(x D:Nat),Hid (cs.length<=n)/\Hid (OwnE wr (gb+1) a cs)/\Hid (CES cs)/\Hid (Mdl wr m v l D x)/\Hid (w.grownBy wr (some m))/\Hid (gb+1<=wr.heap.size) /\
  Hid (x=0->(cs.length%8=0\/cs.length=n)/\R=rdQ l ((n-cs.length+7)/8) (n-cs.length) (cesL cs) D)/\Hid (x≠0->R.2.1=D/\R.2.2=x)) (fun a wr=>n-lenV a)
 case atStart=>
  refine⟨[],0,k,h_ (by simp),h_ (OwnE.nil _ _),h_ CES.nil,U,aD,h_ p.2,h_ (fun _=>⟨.inl rfl,?_⟩),h_ (fun h=>absurd rfl h)⟩;rw[aJ.o];rfl
 obtain⟨cs,x,D,HL,s,HC,y,u,O,HI,HJ⟩:=hrel;clear U aD;have g:=(s.rd (by have:=HL.o;omega)).len;have c2:=y.cell2;obtain⟨j,hj⟩:=nm_ cs.length;rw[<-hj]at g;have T:=h_ hj;have bB:j<=n:=by rw[hj];exact HL.o
 clear hj;by_cases bC:j<n
 .by_cases hx:x=0
  .subst hx;have c2:wr.cell? ⟨m,2,none⟩=some (.int .i64 0):=c2;obtain⟨i1,S⟩:=HI.o rfl;rw[<-T.o]at i1 S;have h8:j%8=0:=(by omega);have bz:=h_ h8;obtain⟨M,hM⟩:=nm_ (min 8 (n-j):Nat);rw[show(n-j+7)/8=(n-j-1)/8+1 from by omega,rdQ,<-hM]at S;have bD:M<=8:=(by omega);have bE:j+M<=n:=(by omega);have U:=h_ (show(j+M)%8=0\/j+M=n by omega);have bh:=h_ (show(n-j-1)/8=(n-(j+M)+7)/8 by omega);have aH:=h_ (show 0<M/\(M<8->j+M=n) by omega);obtain⟨B,Q⟩:=nm_ ((if D<l.length then((l.getD D 0).toNat,D+1,0)else(0,D,5)):Nat×Nat×Nat)
   have CB:=h_ (show Calls prog 179 #[.pointer (some ⟨m,0,none⟩)] wr (Does wr m v l (.int .u8 (B.1:Int)) B.2.1 B.2.2)from by
    have:=zvV m v l D 0 wr y.o;simp only[if_true]at this;rw[Q];by_cases h:D<l.length
    .simp only[Ab h]at this ⊢;exact this
    .simp only[Aa h]at this ⊢;exact this)
   obtain⟨c,k1,xB⟩:=B;dsimp only at CB;have bn:c<=255:=by
    by_cases h:D<l.length
    .rw[Ab h]at Q;injection Q with A e2
     have:=zdG l D;unfold at8 at this;omega
    rw[Aa h]at Q;injection Q with A e2
    omega
   have aB:=h_ (show ∀xF f,xF=(if xB≠0 then xB else if(c/2^M)%2^(8-M)=0 then 0 else 6)->(xB=0->cesL f=cesL cs++zc6 (zbY M c))->(xF=0->R=rdQ l ((n-(j+M)+7)/8) (n-(j+M)) (cesL f) k1)/\(xF≠0->R.2.1=k1/\R.2.2=xF)from by
    intro xF f hF ar;by_cases h:D<l.length
    .rw[Ab h]at Q
     injection Q with A e2
     injection e2 with e2 e3
     subst e3;have ar:=ar rfl;rw[Aa (by simp)]at hF;rw[Aa (by omega),<-A]at S;have bo:c/2^M%2^(8-M)=c/2^M:=by
      apply BA;rw[Nat.div_lt_iff_lt_mul (BP _),<-CE,show 8-M+M=8 from by omega];omega
     rw[bo]at hF;by_cases h0:c/2^M=0
     .rw[Ab h0]at hF
      rw[Aa (fun h=>h h0)]at S;refine⟨fun _=>?_,fun h=>absurd hF h⟩;rw[S,ar,e2,bh.o,show n-j-M=n-(j+M)from by omega]
     .rw[Aa h0]at hF
      rw[Ab h0]at S;refine⟨fun h=>by omega,fun _=>?_⟩;rw[S,e2,hF];exact⟨rfl,rfl⟩
    .rw[Aa h]at Q
     injection Q with A e2
     injection e2 with e2 e3
     subst e3;rw[Ab (by decide)]at hF;rw[Ab (by omega)]at S;refine⟨fun h=>by omega,fun _=>?_⟩;rw[S,e2,hF];exact⟨rfl,rfl⟩)
   have bf:=h_ (OwnE.lenV s.o);clear Q i1 S HI HJ hM h8;go_wp2_with fail;refine CB.mono ?_;rintro e w5⟨rfl,V,aQ⟩;have aI:=h_ (s.grown V (fun q C=>by have:=(OwnE.lt s.o C).1;have:=ai.o;have:=p.o;intro e;injection e with e;omega));have aE:=h_ (u.trans V);have aL:=h_ (Ar O.o V.size);have Y:=h_ aQ;clear V aQ CB s u O y c2 g;go_wp2;go_loopw [7,9,10] (fun b a i wi=>∃(t d N:Nat)(f:List CellB),t<=8/\i=.int .i64 t/\a=.int .u8 (d:Int)/\d<=255/\Hid (d=c/2^t)/\Hid (f.length=j+min t M)/\Hid (xB=0->cesL f=cesL cs++zc6 (zbY (min t M) c))/\Hid (OwnE wi (gb+1) b f)/\Hid (CES f)/\Hid (Mdl wi m v l k1 N)/\Hid (w.grownBy wi (some m))/\Hid (gb+1<=wi.heap.size)/\Hid (N=(if xB≠0 then xB else if(c/2^M)%2^(t-M)=0 then 0 else 6))) (fun _ _ i _=>8-(intOf i).toNat)
   case atStart=>
    refine⟨0,c,xB,cs,by omega,rfl,rfl,bn,h_ (by simp),h_ (by rw[<-T.o];omega),h_ (fun _=>by simp[zbY,zc6]),aI,HC,Y,aE,aL,h_ ?_⟩;split
    ·rfl
    rw[Nat.zero_sub,Nat.pow_zero,Nat.mod_one,Ab rfl];omega
   clear aI Y aE aL;obtain⟨t,d,N,f,ht,rfl,rfl,hd,HD,be,ad,s,ac,y,u,O,HX⟩:=hrel;have I:=be.o;have g:=(s.rd (by omega)).len;have aT:Value.int .u8 ((d:Int)/2)=.int .u8 ((d/2:Nat):Int):=(by rw[show((d/2:Nat):Int)=(d:Int)/2 from by omega]);have aA:=h_ aT;have az:=h_ (show d/2=c/2^(t+1)from by rw[HD.o,Bl,BG]);clear aT;by_cases bp:t<8
   .have d2:decide ((t:Int)<8)=true:=Ah (by omega);by_cases bF:t<M
    .have A:f.length=j+t:=(by omega);rw[A]at g;have d5:decide (((j+t:Nat):Int)<(n:Int))=true:=Ah (by omega);obtain⟨jt,aV⟩:=nm_ (j+t);rw[<-aV]at g d5;have d6:decide (jt<n)=true:=Ah (by omega);have d7:jt<n:=(by omega);obtain⟨q,C⟩:=nm_ (d%2:Nat);have L:((d:Int)%2)=(q:Int):=(by omega);have aN:=h_ (show ∀j z,(cellVs (q,⟨#[]⟩))[j]?=some z->(wr.alloc (.cells #[.int .u64 ((d:Int)%2),.string ⟨#[]⟩] 65)).cell? (Addr.add ⟨wr.heap.size,0,none⟩ j)=some z from by rw[L];exact zcI wr (q,⟨#[]⟩));have ay:=h_ (show Below (gb+1) wr (wr.alloc (.cells #[.int .u64 ((d:Int)%2),.string ⟨#[]⟩] 65))from(Ac _ _).alloc O.o _);have aM:=h_ (s.alloc (.cells #[.int .u64 ((d:Int)%2),.string ⟨#[]⟩] 65));have HQ:=h_ C;have H:=h_ (show(f++[((q,⟨#[]⟩):CellB)]).length=j+min (t+1) M by rw[Ae,AN];omega)
     have ag:=h_ (show xB=0->cesL (f++[((q,⟨#[]⟩):CellB)])=cesL cs++zc6 (zbY (min (t+1) M) c)from fun h=>by
      rw[zlS,ad.o h,A7 (by omega),A7 (by omega),zi1,zo4,<-HD.o,<-HQ.o,An];rfl)
     have am:=h_ (show N=(if xB≠0 then xB else if(c/2^M)%2^(t+1-M)=0 then 0 else 6)from by
      have:=HX.o;rw[Nat.sub_eq_zero_of_le (by omega)]at this ⊢;exact this)
     have bj:=h_ (show q<18446744073709551616 by omega);have ae:=h_ A;clear C L I A aV;go_wp2_with (with_reducible refine zc7 (gb+1) _ ?hs aM.o ⟨wr.heap.size,0,none⟩ (q,⟨#[]⟩) ?hx aN.o ?hn ?hbase (gb+1) wr ay.o l_ ?_)
     case hs=>rfl
     case hx=>rfl
     case hn=>rw[ae.o];omega
     case hbase=>rw[Az];have:=O.o;omega
     intro v8 w8 aS r G;have ak:=h_ aS;have a7:=h_ (ac.snoc (c:=(q,⟨#[]⟩)) ⟨bj.o,by show(ByteArray.size ⟨#[]⟩)<=140737488351232;decide⟩);have ah:=h_ (y.same (r.block m (by have:=ai.o;have:=p.o;omega)) fun q C=>r.block _ (by have:=bk.o q C;omega));have af:=h_ (show w.grownBy w8 (some m)from⟨r.os.trans u.os,r.tape.trans u.tape,r.output.trans u.output,Ar u.size r.size,fun q h1 h2=>(r.block q (by have:=p.o;omega)).trans (u.block q h1 h2)⟩);have aj:=h_ (Ar O.o r.size);clear aS r G s y u O ay aM aN HX;go_wp2;go_roundw
     case rel=>exact⟨t+1,d/2,N,_,by omega,by go_num,aA.o,by omega,az,H,ag,ak,a7,ah,af,aj,am⟩
     simp[intOf];omega
    have A:f.length=n:=(by have:=aH.o;omega);rw[A]at g;have d5:decide ((n:Int)<(n:Int))=false:=Af (by omega);have H:=h_ (show f.length=j+min (t+1) M by omega);have ag:=h_ (show xB=0->cesL f=cesL cs++zc6 (zbY (min (t+1) M) c)from fun h=>by
     rw[ad.o h,Nat.min_eq_right (by omega),Nat.min_eq_right (by omega)])
    obtain⟨q,C⟩:=nm_ (d%2:Nat);have L:((d:Int)%2)=(q:Int):=(by omega);obtain⟨ok,aX⟩:∃ok:Bool,(((d:Int)%2)==0)=ok:=⟨_,rfl⟩;have J:ok=true↔d%2=0:=by
     rw[<-aX,beq_iff_eq,L];omega
    have am:=h_ (show(if N=0 then(if ok=true then 0 else 6)else N)=(if xB≠0 then xB else if(c/2^M)%2^(t+1-M)=0 then 0 else 6)from by
     have h:=HX.o;have hb:=zFG c M (t-M);rw[show M+(t-M)=t from by omega,<-HD.o,show t-M+1=t+1-M from by omega]at hb;by_cases ap:xB≠0
     .rw[Ab ap]at h ⊢
      rw[h,Aa ap]
     .rw[Aa ap]at h ⊢
      by_cases h1:c/2^M%2^(t-M)=0
      .rw[Ab h1]at h
       rw[Ab h];by_cases h2:ok=true
       .rw[Ab h2,Ab (hb.2 ⟨h1,J.1 h2⟩)]
       .rw[Aa h2,Aa (fun h3=>h2 (J.2 (hb.1 h3).2))]
      .rw[Aa h1]at h
       rw[Aa (by omega),Aa (fun h3=>h1 (hb.1 h3).1)];exact h)
    have MM:=h_ (zc2 m v l k1 N wr y.o ok 6);have bi:=h_ s.o;clear C L I A J HX;go_wp2_with fail;clear aX;refine MM.mono ?_;rintro e w8⟨rfl,G,aR⟩;have ah:=h_ aR;have af:=h_ (u.trans G);have aj:=h_ (Ar O.o G.size);have ak:=h_ (s.grown G (fun q C=>by have:=(OwnE.lt s.o C).1;have:=ai.o;have:=p.o;intro e;injection e with e;omega));clear G aR s y u O MM g bi;go_wp2;go_roundw
    case rel=>exact⟨t+1,d/2,_,f,by omega,by go_num,aA.o,by omega,az,H,ag,ak,ac,ah,af,aj,am⟩
    simp[intOf];omega
   obtain rfl:t=8:=(by omega);have A:f.length=j+M:=(by omega);have hK:xB=0->cesL f=cesL cs++zc6 (zbY M c):=fun h=>by
    have:=ad.o h;rw[Nat.min_eq_right (by omega)]at this;exact this
   obtain⟨f1,f2⟩:=aB.o N f HX.o hK;have ba:=h_ (show N=0->(f.length%8=0\/f.length=n)/\R=rdQ l ((n-f.length+7)/8) (n-f.length) (cesL f) k1 from fun h=>by
    rw[A];exact⟨U.o,f1 h⟩)
   have bb:=h_ f2;have H:=h_ (show f.length<=n by omega);have bg:=h_ (OwnE.lenV s.o);have ae:=h_ A;clear f1 f2 hK A bp I g;go_wp2;go_roundw
   case rel=>exact⟨f,N,k1,H,s,ac,y,u,O,ba,bb⟩
   have h1:=bg.o;have h2:=bf.o;have h3:=T.o;have h4:=ae.o;have h5:=aH.1;omega
  have C:((x:Int)==0)=false:=by rw[As];omega
  have HX:=h_ hx;obtain⟨r1,r2⟩:=HJ.o hx;have HF:=h_ (show TakeR w m v l 2 n k (.returned u7) wr from⟨u7,rfl,u.o,by rw[<-E.o,r1,r2];exact y.o,cs,OwnE.lower s.o (by have:=p.o;omega),HC.o,by rw[Aw];exact HL.o,fun h=>by rw[<-E.o,r2]at h;exact absurd h HX.o⟩);clear r1 r2 hx;go_wp2;go_ret;exact HF.o
 have aU:cs.length=n:=by rw[<-T.o];omega
 have HF:=h_ (show TakeR w m v l 2 n k (.returned u7) wr from by
  by_cases hx:x=0
  .subst hx
   have e:=(HI.o rfl).2;rw[aU,BT]at e;have e:R=(cesL cs,D,0):=e;refine⟨u7,rfl,u.o,by rw[<-E.o,e];exact y.o,cs,OwnE.lower s.o (by have:=p.o;omega),HC.o,by rw[Aw];exact HL.o,fun _=>by rw[<-E.o,e]⟩
  .obtain⟨r1,r2⟩:=HJ.o hx
   exact⟨u7,rfl,u.o,by rw[<-E.o,r1,r2];exact y.o,cs,OwnE.lower s.o (by have:=p.o;omega),HC.o,by rw[Aw];exact HL.o,fun h=>by rw[<-E.o,r2]at h;exact absurd h hx⟩)
 clear aU;go_wp2;go_ret;exact HF.o
section
open Go.Shelf
/- -/
/- -/
def zAA(m:Nat)(v:Value)(l:Bs)(k:Nat)(w:World)(O:Mdl w m v l k 0)(kind n:Int)(D:takeE kind n≠0) :Calls prog 181 #[.pointer (some ⟨m,0,none⟩), .int .i64 kind, .int .i64 n] w (TakeR w m v l kind n k):=by
 have G:=Ai (zG0 (l:=l) (k:=k) D);obtain⟨y,J⟩:=nm_ (takeE kind n);rw[<-J]at D G;have key:∀(x z A C I:Bool),decide (kind≥0)=x->decide (kind<=5)=z->decide (n≥0)=A->decide (n<=1024)=C->decide (0<n)=I->(if(x&&z)=true then(if(A&&C)=true then 0 else 3)else 10)=y->Calls prog 181 #[.pointer (some ⟨m,0,none⟩),.int .i64 kind,.int .i64 n] w (TakeR w m v l kind n k):=by
  intro x z A C I U V X Y Z t;have Q:=Ai O;have E:=Ai D;clear O J D;have L:=Ai t;clear t;cases x<;>cases z<;>cases A<;>cases C<;>cases I<;>first
   | (exact absurd L.symm E.o)
   | (go_enter func181,ntmps181
      go_wp2_with fail;refine(zc2 m v l k 0 w Q.o _ 10).mono ?_;rintro e S⟨rfl,r,p⟩;have d:=Ai r;have g:=Ai p;clear r p;go_wp2_with fail;refine(zc2 m v l k _ S g.o _ 3).mono ?_;rintro e u⟨rfl,s,b⟩;have b:Mdl u m v l k y:=by rw[<-L.o];exact b
      have f:=Ai (d.trans s);have i:=Ai b;clear s b d g;have c:=Ai (show Lz u (u.alloc (.cells #[.int .u64 0, .string ⟨#[]⟩] 65))from(Ac _ _).alloc (AK _) _);have H:=Ai (f.trans (below_grown c.o (some m)));have j:=Ai (i.later c.o (AK _));have T:=j.cell2;have hq:((y:Int)==0)=false:=by rw[As];have:=E.o;omega
      go_wp2;generalize u.alloc (.cells #[.int .u64 0, .string ⟨#[]⟩] 65)=w3 at *;clear c f i;go_loopw [7] (fun a wr=>a=.slice none 0 0/\wr=w3) (fun _ _=>0)
      case atStart=>exact⟨rfl,rfl⟩
      case round=>
        obtain⟨rfl,rfl⟩:=hrel;go_wp2;go_ret;exact⟨_,rfl,H.o,by rw[G.o];exact j.o,[],OwnE.nil _ _,CES.nil,by simp,fun h=>by rw[G.o]at h;exact absurd h E.o⟩)
 refine key _ _ _ _ _ rfl rfl rfl rfl rfl ?_;rw[J];unfold takeE;by_cases M:kind<0\/5<kind
 .rw[Ab M,Aa (by simp;omega)]
 rw[Aa M,Ab (by simp;omega)];by_cases N:n<0\/1024<n
 .rw[Ab N,Aa (by simp;omega)]
 rw[Aa N,Ab (by simp;omega)]
def zx7(m:Nat)(v:Value)(l:Bs)(k:Nat)(w:World)(b:Mdl w m v l k 0)(kind n:Int) :Calls prog 181 #[.pointer (some ⟨m,0,none⟩),.int .i64 kind,.int .i64 n] w (TakeR w m v l kind n k):=by
 by_cases a:takeE kind n=0
 .unfold takeE at a;have d:0<=kind/\kind<=5:=by
   by_cases h:kind<0\/5<kind
   .rw[Ab h]at a;cases a
   omega
  rw[Aa (by omega)]at a;have e:0<=n/\n<=1024:=by
   by_cases h:n<0\/1024<n
   .rw[Ab h]at a;cases a
   omega
  obtain⟨q,rfl⟩:∃q:Nat,n=(q:Int):=⟨n.toNat,by omega⟩;by_cases c:kind=2
  .subst c;exact zAC m v l k w b q (by omega)
  exact zAB m v l k w b kind d c q (by omega)
 exact zAA m v l k w b kind n a
end
section
open Go.Shelf
variable {seq:Int} {cs:List ColB} {qs view:List PairB} {b base g j k:Nat} {u v x:Value} {w w':World}
def zfU {a:Nat}(h:w.cell? ⟨g,a,none⟩=some x)(d:a≠b):(w.setCell ⟨g,b,none⟩ u).cell? ⟨g,a,none⟩=some x:=by
 cases hr:w.heap[g]? with
 | none=>simp[World.cell?,hr]at h
 | some o=>
  cases o with
  | cells c t z=>
   rw[Ag _ _ _ _ _ _ hr]at h;rw[Ag _ _ _ _ _ _ (block_setCell hr u),CU,Aa (fun e=>d e.symm)];exact h
  | _=>simp[World.cell?,hr]at h
def zhB(h:w.cell? ⟨g,b,none⟩=some x):(w.setCell ⟨g,b,none⟩ u).cell? ⟨g,b,none⟩=some u:=by
 cases hr:w.heap[g]? with
 | none=>simp[World.cell?,hr]at h
 | some o=>
  cases o with
  | cells c t z=>
   rw[Ag _ _ _ _ _ _ hr]at h;have a:b<c.size:=(Aj.1 h).1;rw[Ag _ _ _ _ _ _ (block_setCell hr u),CU,Ab rfl,Ab a]
  | _=>simp[World.cell?,hr]at h
def zmK(w:World)(base:Nat)(v:Value)(qs:List PairB)(j:Nat):Prop:=∃rv,w.cell? (adr v (j*2))=some rv/\∀i,i<(qs.getD j default).1.length->base<=(adr rv (i*2)).block
def zmK.later(h:zmK w base v qs j)(c:Lz w w'):zmK w' base v qs j:=by
 obtain⟨rv,a,b⟩:=h;exact⟨rv,(c.cell (p:=adr v (j*2)) (AI w _ a)).trans a,b⟩
def zmK.set(h:zmK w base v qs j)(b:adr v (j*2)=⟨g,j*2,none⟩)(d:j≠k)(u:Value):zmK (w.setCell ⟨g,k*2,none⟩ u) base v qs j:=by
 obtain⟨rv,a,c⟩:=h;rw[b]at a;exact⟨rv,by rw[b];exact zfU a (by omega),c⟩
def OwnE.from12{cs:List CellB}(h:OwnE w base v cs):∀i,i<cs.length->base<=(adr v (i*2)).block:=fun i e=>by
 obtain⟨⟨_,b⟩,_⟩:=h;rw[Ad]at b;rcases b with⟨rfl,f⟩|⟨a,cap,c,rfl,d,_⟩
 .omega
 .have:(adr (.slice (some ⟨a,0,none⟩) cs.length cap) (i*2)).block=a:=by rw[zaF]
  omega
def NewP.of12(h:OwnP w base v qs)(m:qs.length<=140737488351232)(k:∀j,j<qs.length->zmK w b v qs j)(A:b<=base):NewP w b v qs:=by
 obtain⟨ts,rfl,l,y⟩:=h;rw[Ad]at m k;have a:=l.rd (by simpa using m);refine⟨ts,rfl,a,fun i C=>?_,fun t p=>⟨(y t p).1,?_⟩⟩
 .obtain⟨⟨_,c⟩,_⟩:=l;rcases c with⟨_,g⟩|⟨s,cap,r,z,x,_⟩
  .rw[Ad]at g;omega
  rw[z,zaF];show b<=s;omega
 obtain⟨j,f,rfl⟩:=List.getElem_of_mem p;obtain⟨rv,u,c⟩:=k j f;have d:=RdG.cells a j (by simpa using f) 0 ts[j].1 (by simp[List.getD,f];rfl);rw[show j*pairE.n+0=j*2 from rfl,u]at d;injection d with d;subst d;have e:((ts.map (fun t:TriB=>t.2)).getD j default).1=ts[j].2.1:=by simp[List.getD,f]
 rw[e]at c;exact c
def zgK(v1 v2:Value)(cs:List ColB)(ps:List PairB)(w:World)(h1:RdC w v1 cs)(h2:RdP w v2 ps)(hC:CS cs)(hP:PSO ps)(hT:Tabs w)(hl:ps.length*32<=140737488351360) :Calls prog 58 #[v1,v2] w fun e w'=>∃v,e=.returned (.tuple #[v,.int .i64 (clcE cs ps:Nat)])/\NewP w' w.heap.size v (clcO cs ps)/\Lz w w':=by
 obtain⟨ae,al,y,bt,_⟩:∃ao n cap,v1=.slice ao n cap/\True:=by
  obtain⟨ao,cap,e,_⟩:=RdG.shape h1;exact⟨_,_,_,e,trivial⟩
 subst bt;obtain⟨N0,N1,N2⟩:=new1 w (.cells #[.slice ae al y] 22);have CK:=h_ (zmD _ v2 cs ps _ (h1.later N2 l_) (h2.later N2 l_) hC hP (hT.later N2));obtain⟨us,ak,aU,aV,_⟩:=h2.parts;have H1:=h_ h1;have HT:=h_ hT;have bf:=h_ aU;have ab:=h_ aV;have NB:=h_ N2;have NG:=h_ N1;have bX:(w.alloc (.cells #[.slice ae al y] 22)).heap.size=w.heap.size+1:=N0;have N:=Ag _ _ 0 _ _ _ N1;simp at N;have b1:us.length=ps.length:=by rw[ak];simp
 clear h1 h2 aU aV hT N0 N1 N2;obtain⟨c,D⟩:=nm_ (rowsE cs ps);rw[<-D]at CK;by_cases ai:c=0
 .have HS:=h_ (show errS (colsL cs)=0 from by
   by_cases z:errS (colsL cs)=0
   .exact z
   .unfold rowsE at D;rw[Ab z]at D;omega)
  have HF:=h_ (show firstE cs ps=0 from by unfold rowsE at D;rw[Aa (by rw[HS.o];simp)]at D;omega);have HV:=h_ (zuW (cs:=cs) hP (firstE_zero.1 HF.o));have HE:=h_ (show clcE cs ps=if overB (zdB cs ps)=true then 12 else if 1024<(canonC cs ps).length then 13 else 0 from by
   unfold clcE;rw[Aa (by rw[HS.o];simp),Aa (by rw[HF.o];simp)])
  subst ai;have aF:=h_ ak;clear D ak;go_enter func58,ntmps58;go_wp2_with fail;refine CK.mono ?_;rintro e w1⟨rfl,hb⟩;have m:=h_ (NB.trans (hb.mono (by omega)));have aw:=h_ ((hb.block w.heap.size (by omega)).trans NG.o);have Q:w.heap.size<w1.heap.size:=by have:=hb.size;omega
  have CL:=h_ (zkR v2 us w1 (RdG.later bf.o zaX m.o l_) (fun t ht=>(ab.o t ht).later m.o l_) (by omega));clear hb CK N NB NG;go_wp2_with fail;refine CL.mono ?_;rintro e w2⟨v',rfl,aO,G⟩;have ap:=h_ (m.trans (G.mono (by omega)));have V:=h_ ((G.block w.heap.size Q).trans aw.o);have bh:=h_ (show ∀t∈us,Vr cs t.2.1 from fun t ht=>HV.o t.2 (by rw[aF.o];exact C5 ht));have SP:=h_ (zwW w.heap.size (.slice ae al y) v' us cs w w2 w1.heap.size _ _ aO (by omega) ap.o ab.o bh.o H1.o hC HT.o (by omega) V.o Q);have A:=Ag _ _ 0 _ _ _ V.o;simp at A;have bI:=G.size;clear aO G CL aw;go_wp2_with fail;refine SP.mono ?_;rintro e w3⟨rfl,a,I,aX,aP,ag⟩;have aq:=h_ (ap.trans (ag.mono (by omega)));have bL:a.length=us.length:=I.length_eq;have aA:=h_ (show(a.map (·.2)).Perm ps from by rw[aF.o];exact I.map _);have X:=h_ (show Z.mg 0 (a.map (·.2))=zdB cs ps from Z.mg_parts (zbS cs) aA.o HV.o aX);have bd:=h_ (show PSO (a.map (·.2))from fun p hp=>hP p (aA.mem_iff.1 hp));have aC:=h_ (show RdP w3 v' (a.map (·.2))from⟨a,rfl,aP.rd (by simp;omega),fun t ht=>(ab.o t (I.mem_iff.1 ht)).later aq.o l_⟩);have MG:=h_ (zwI v' _ w3 aC.o bd.o (by rw[Ad];omega));have ax:=h_ (show(Z.nz (Z.mg 0 (a.map (·.2)))).length<=ps.length from by
   have a1:=zG4 (Z.mg 0 (a.map (·.2)));have a2:=zBN (a.map (·.2)) 0;rw[Ad]at a2;omega)
  have bJ:=ag.size;clear ag aP I aX SP aC V A;go_wp2_with fail;refine MG.mono ?_;rintro e w4⟨v4,rfl,aQ,ah⟩;have T:=h_ (aq.trans (ah.mono (by omega)));have aa:=h_ aQ;have bK:=ah.size;clear aQ ah MG;unfold mgE;by_cases l:overB (Z.mg 0 (a.map (·.2)))=true
  .rw[Ab l,show((12:Nat):Int)=12 from rfl];have d:=h_ (show clcE cs ps=12 from by rw[HE.o,Ab (by rw[<-X.o];exact l)]);have HX:=h_ (show clcO cs ps=[]from by unfold clcO;rw[Aa (by rw[d.o];simp)]);clear l aa;go_wp2;go_ret2;exact⟨_,by rw[d.o];rfl,by rw[HX.o];exact NewP.nil _ _,T.o⟩
  rw[Aa l,show((0:Nat):Int)=0 from rfl];have au:=h_ (show Z.nz (Z.mg 0 (a.map (·.2)))=canonC cs ps from by rw[X.o];rfl);have f:=h_ (show OwnP w4 w3.heap.size v4 (canonC cs ps)from by
   have:=aa.o;unfold mgO at this;rw[Aa l,au.o]at this;exact this)
  have E:=h_ (show clcE cs ps=if 1024<(canonC cs ps).length then 13 else 0 from by rw[HE.o,Aa (by rw[<-X.o];exact l)]);have aJ:(canonC cs ps).length<=ps.length:=by rw[<-au.o];exact ax.o
  obtain⟨qs,aj⟩:=nm_ (canonC cs ps);rw[<-aj]at f E aJ;have HQ:=h_ aj;have aD:=h_ (f.rd (by omega));have aN:=aD.len;obtain⟨n,hn⟩:=nm_ qs.length;rw[<-hn]at aN aJ E;have s:=h_ hn;clear l aa ax aj hn;by_cases M:1024<n
  .have d:=h_ (show clcE cs ps=13 from by rw[E.o,Ab M]);have HX:=h_ (show clcO cs ps=[]from by unfold clcO;rw[Aa (by rw[d.o];simp)]);go_wp2;go_ret2;exact⟨_,by rw[d.o];rfl,by rw[HX.o];exact NewP.nil _ _,T.o⟩
  have d:=h_ (show clcE cs ps=0 from by rw[E.o,Aa M]);have HX:=h_ (show clcO cs ps=qs from by unfold clcO;rw[Ab d.o,<-HQ.o]);go_wp2;go_loopw [36] (fun i wr=>∃k:Nat,k<=n/\i=.int .i64 k/\Hid (OwnP wr w3.heap.size v4 qs)/\Hid (Lz w wr)/\Hid (∀j,j<k->zmK wr w.heap.size v4 qs j)) (fun i _=>n-(intOf i).toNat)
  case atStart=>exact⟨0,by omega,rfl,f,T,h_ (fun j hj=>absurd hj (by omega))⟩
  clear f aD;obtain⟨k,hk,rfl,HO,HB,Y⟩:=hrel;by_cases br:k<n
  .have k1:k<qs.length:=(by rw[<-s.o];exact br);obtain⟨b,o,rv,hi,c0,c1,re,bU⟩:=(HO.rd (by rw[<-s.o];omega)).get k1;obtain⟨g,cap,aW,bS,bW,O⟩:=HO.row (by omega) (by rw[<-s.o];omega);have L:∀q,adr v4 q=⟨g,q,none⟩:=fun q=>(by rw[aW,zaF,A5]);obtain⟨bq,J⟩:=O k k1;have aK:=(hi wr).symm.trans (bq wr);simp only[Result.ok.injEq,Value.pointer.injEq,Option.some.injEq,Addr.mk.injEq,and_true]at aK;obtain⟨rfl,rfl⟩:=aK;obtain⟨ao,nn,aH,rfl⟩:=re.lit;have aR:(qs.getD k default).1.length<=8:=by
    have hm:qs.getD k default∈qs:=(by simp[List.getD,k1]);have:=(Z.canon_set (zbS cs) HV.o).all (qs.getD k default) (by rw[show Z.canon (cmpR cs) ps=qs from HQ.symm];exact hm);obtain⟨g1,g2,_⟩:=zaQ this.1;have:=((zlB (colsL cs)).1 g1).1.2;unfold colsL at this;rw[Ad]at this;omega
   obtain⟨p,hp⟩:=nm_ (qs.getD k default);rw[<-hp]at c1 re J aR;have aB:=h_ hp;rcases p with⟨r,x⟩;dsimp only at c1 re J aR;have NN:=h_ (new1 wr (.cells #[.slice ao nn aH,.int .i64 x] 69));have U:=bT HB NN.2.2;have CC:=h_ (zlV _ r _ (re.later NN.2.2 l_) (by omega));have az:=h_ (HO.later NN.2.2 l_);have aE:=h_ J;have bY:=NN.1;have b0:=HB.size;have bZ:=U.size;have S:=h_ L;clear hp k1 hi O re J HO aW L;go_wp2_with fail;refine CC.mono ?_;rintro e w5⟨v5,rfl,C,H⟩;obtain⟨ad,n5,u,rfl⟩:=(C.rd (by omega)).lit;have f:=h_ (az.later H l_);have ar:=h_ (U.trans (H.mono (by omega)));obtain⟨⟨x5,bp⟩,bV,aS⟩:=aE.o w5 f.o;have bc:=h_ (aS _ (C.rd (by omega)) (C.offB (by omega)));have ba:=h_ (ar.setCell (p:=⟨b,k*2,none⟩) (by show w.heap.size<=b;omega) (.slice ad n5 u));have aL:=C.from12;have bb:=h_ (show ∀j,j<k+1->zmK (w5.setCell ⟨b,k*2,none⟩ (.slice ad n5 u)) w.heap.size v4 qs j from fun j hj=>by
    by_cases e:j=k
    .subst e
     refine⟨.slice ad n5 u,by rw[S.o];exact zhB bp,fun i hi=>?_⟩;rw[<-aB.o]at hi;have z:=aL i hi;omega
    .have z:=(((Y.o j (by omega)).later NN.2.2).later H)
     exact z.set (S.o _) (by omega) _)
   clear C H aE aS az CC U NN c0 c1 f ar aL S aB Y;go_wp2;go_roundw
   case rel=>exact⟨k+1,by omega,by go_num,bc,ba,bb⟩
   simp[intOf];omega
  obtain rfl:k=n:=by omega
  have be:=h_ (NewP.of12 HO.o (by rw[<-s.o];omega) (fun j hj=>Y.o j (by rw[s.o];exact hj)) (show w.heap.size<=w3.heap.size by omega));go_wp2;go_ret2;exact⟨_,by rw[d.o];rfl,by rw[HX.o];exact be.o,HB.o⟩
 have HE:=h_ (show clcE cs ps=c from by
  by_cases z:errS (colsL cs)=0
  .have bl:firstE cs ps≠0:=fun h=>ai (by rw[D];unfold rowsE;rw[Aa (fun h8=>h8 z),h])
   rw[D];unfold clcE rowsE;rw[Aa (fun h8=>h8 z),Ab bl,Aa (fun h8=>h8 z)]
  .rw[D]
   unfold clcE rowsE;rw[Ab z,Ab z])
 have HX:=h_ (show clcO cs ps=[]from by unfold clcO;rw[Aa (by rw[HE.o];exact ai)]);have q:((c:Int)!=0)=true:=by rw[Ao];omega
 clear D;go_enter func58,ntmps58;go_wp2_with fail;refine CK.mono ?_;rintro e w1⟨rfl,hb⟩;have m:=h_ (NB.trans (hb.mono (by omega)));clear hb CK;go_wp2;go_ret2;exact⟨_,by rw[HE.o];rfl,by rw[HX.o];exact NewP.nil _ _,m.o⟩
def zpR(Z v2 v3:Value)(cs:List ColB)(a b:List PairB)(w:World)(C:RdC w Z cs)(J:RdP w v2 a)(L:RdP w v3 b)(hC:CS cs)(hA:PSO a)(hB:PSO b)(hT:Tabs w) :Calls prog 113 #[Z,v2,v3] w fun e w'=>∃v,e=.returned (.tuple #[v,.int .i64 (sumE cs a b:Nat)])/\NewP w' w.heap.size v (sumO cs a b)/\Lz w w':=by
 have r:=h_ (zdL Z v2 cs a w C J hC hA hT);have A:=h_ (fun wz(hz:Lz w wz)=>zdL Z v3 cs b wz (C.later hz l_) (L.later hz l_) hC hB (hT.later hz));obtain⟨c,O⟩:=nm_ (chkZ cs a);obtain⟨d,Q⟩:=nm_ (chkZ cs b);rw[<-O]at r;rw[<-Q]at A;by_cases s:c=0
 .by_cases S:d=0
  .have aH:=((zb9 hA).1 (show chkZ cs a=0 by omega)).2.1;have aI:=((zb9 hB).1 (show chkZ cs b=0 by omega)).2.1;have l:=h_ (show sumE cs a b=clcE cs (a++b)from by unfold sumE;rw[Aa (by omega),Aa (by omega)]);have H:=h_ (show sumO cs a b=clcO cs (a++b)from by unfold sumO clcO;rw[l.o]);subst s S;obtain⟨ua,u,y,V,_⟩:=J.parts;obtain⟨ub,x,z,X,_⟩:=L.parts;obtain⟨m,nn,cap,an⟩:∃m n cap,v2=.slice m n cap:=by
    obtain⟨m,cap,e,_⟩:=RdG.shape y;exact⟨_,_,_,e⟩
   obtain⟨I,Y,p,ap⟩:∃m n cap,v3=.slice m n cap:=by
    obtain⟨m,cap,e,_⟩:=RdG.shape z;exact⟨_,_,_,e⟩
   subst an ap;have aJ:ua.length=a.length:=(by rw[u];simp);have aK:ub.length=b.length:=(by rw[x];simp);have H1:=h_ C;have HT:=h_ hT;have HA:=h_ y;have HB:=h_ z;have E:=h_ V;have G:=h_ X;have ag:=h_ u;have ah:=h_ x;clear O Q C J L y z V X u x hT;go_enter func113,ntmps113;go_wp2_with fail;refine r.mono ?_;rintro e w1⟨rfl,i⟩;have f:=h_ i;clear i r;go_wp2_with fail;refine(A.o _ f.o).mono ?_;rintro e w2⟨rfl,i⟩;have j:=bT f i;have NN:=h_ (new1 w2 (.cells #[.slice m nn cap,.slice I Y p] 33));have g:=bT j NN.2.2;have CO:=h_ (zr8 _ _ _ ua ub _ (zGZ w2 (.slice m nn cap) (.slice I Y p)) (RdG.later HA.o zaX g.o l_) (RdG.later HB.o zaX g.o l_) (fun t k=>(E.o t k).later g.o l_) (fun t k=>(G.o t k).later g.o l_) (by omega));have al:=g.size;clear i A f NN j;go_wp2_with fail;refine CO.mono ?_;rintro e w4⟨v4,rfl,T,M⟩;have h:=h_ (g.trans (M.mono al));have D:=h_ (show RdP w4 v4 (a++b)from⟨ua++ub,by rw[AC,<-ag.o,<-ah.o],T.rd (by simp;omega),fun t k=>by
    rcases AD.1 k with k|k
    .exact(E.o t k).later h.o l_
    .exact(G.o t k).later h.o l_⟩)
   have CL:=h_ (zgK Z v4 cs (a++b) w4 (H1.later h.o l_) D.o hC (hA.append hB) (HT.later h.o) (by rw[Ae];omega));have am:=h.size;clear T M CO D g;go_wp2_with fail;refine CL.mono ?_;rintro e w5⟨v5,rfl,U,N⟩;have ad:=h_ (h.trans (N.mono am));have ae:=h_ U;have af:=h_ h.size;clear U N CL;go_wp2;go_ret2;exact⟨_,by rw[l.o];rfl,by rw[H.o];exact ae.lower af.o,ad.o⟩
  have l:=h_ (show sumE cs a b=d from by unfold sumE;rw[Aa (by omega),Ab (by omega),Q]);have H:=h_ (show sumO cs a b=[]from by unfold sumO;rw[Aa (by rw[l.o];exact S)]);have q:((d:Int)!=0)=true:=by rw[Ao];omega
  subst s;clear O Q C J L;go_enter func113,ntmps113;go_wp2_with fail;refine r.mono ?_;rintro e w1⟨rfl,i⟩;have f:=h_ i;clear i r;go_wp2_with fail;refine(A.o _ f.o).mono ?_;rintro e w2⟨rfl,i⟩;have j:=bT f i;clear i A f;go_wp2;go_ret2;exact⟨_,by rw[l.o];rfl,by rw[H.o];exact NewP.nil _ _,j.o⟩
 have l:=h_ (show sumE cs a b=c from by unfold sumE;rw[Ab (by omega),O]);have H:=h_ (show sumO cs a b=[]from by unfold sumO;rw[Aa (by rw[l.o];exact s)]);have q:((c:Int)!=0)=true:=by rw[Ao];omega
 clear O Q C J L A;go_enter func113,ntmps113;go_wp2_with fail;refine r.mono ?_;rintro e w1⟨rfl,i⟩;have f:=h_ i;clear i r;go_wp2;go_ret2;exact⟨_,by rw[l.o];rfl,by rw[H.o];exact NewP.nil _ _,f.o⟩
/- -/
def ApON(w:World)(cs:List ColB)(seq:Int)(view:List PairB)(x:EntB)(e:Ending)(w':World):Prop :=
 ∃v,e=.returned (.tuple #[.int .i64 (apN cs seq view x),v,.int .i64 (apE cs seq view x:Nat)])/\NewP w' w.heap.size v (apV cs seq view x)/\Lz w w'
def ApON.no{x:EntB}{y:Int}(h:apE cs seq view x=k)(a:k≠0)(c:y=(k:Int))(b:Lz w w') :ApON w cs seq view x (.returned (.tuple #[.int .i64 0,.slice none 0 0,.int .i64 y])) w':=by
 subst c;refine⟨.slice none 0 0,?_,?_,b⟩
 .unfold apN;rw[h,Aa a]
 unfold apV;rw[h,Aa a];exact NewP.nil w' _
def ApON.yes{x:EntB}{n:Int}(h:apE cs seq view x=0)(b:x.2.1=n)(e:apV cs seq view x=qs)(c:NewP w' base v qs)(d:w.heap.size<=base)(a:Lz w w') :ApON w cs seq view x (.returned (.tuple #[.int .i64 n,v,.int .i64 0])) w':=by
 subst b e;refine⟨v,?_,c.lower d,a⟩;unfold apN;rw[h,Ab rfl];rfl
def ziN(sv vv ev:Value)(cs:List ColB)(seq:Int)(view:List PairB)(x:EntB)(w:World)(hR:RdC w sv cs)(hV:RdP w vv view)(hE:RdN w ev x)(hC:CS cs)(I:PSO view)(hX:EnO x)(X:inW seq)(hT:Tabs w) :Calls prog 78 #[sv,.int .i64 seq,vv,ev] w (ApON w cs seq view x):=by
 obtain⟨kind,i,ps⟩:=x;obtain⟨pv,rfl,hP⟩:=hE;dsimp only at hP;obtain⟨Q,no,S,rfl⟩:=hP.lit12;obtain⟨av,nv,cv,rfl⟩:=hV.lit12;have C:=h_ (fun r(n:Lz w r)=>zdL sv (.slice av nv cv) cs view r (hR.later n l_) (hV.later n l_) hC I (hT.later n));have D:=h_ (fun r(n:Lz w r)=>zlF sv _ cs (kind,i,ps) r (hR.later n l_) ⟨_,rfl,hP.later n l_⟩ hC hX (hT.later n));have H:=h_ (fun r(n:Lz w r)=>zyM (.slice Q no S) (.slice av nv cv) ps view r (hP.later n l_) (hV.later n l_));have N:=h_ (fun r(n:Lz w r)=>zpR sv (.slice av nv cv) (.slice Q no S) cs view ps r (hR.later n l_) (hV.later n l_) (hP.later n l_) hC I hX.2.2 (hT.later n));have M:=h_ (fun r(n:Lz w r)=>zpR sv (.slice av nv cv) (.slice none 0 0) cs view [] r (hR.later n l_) (hV.later n l_) (RdP.nil _) hC I (fun p hp=>absurd hp (by simp)) (hT.later n));obtain⟨N1,N2⟩:=za5 w (.cells #[.int .i64 kind,.int .i64 i,.slice Q no S] 123);obtain⟨T,aa⟩:=nm_ (w.alloc (.cells #[.int .i64 kind,.int .i64 i,.slice Q no S] 123));rw[<-aa]at N1 N2;obtain⟨g,hg⟩:=nm_ w.heap.size;rw[<-hg]at N1;have b:=h_ (show Ebox T g kind i (.slice Q no S)from N1);have a:=h_ N2;have z:=h_ aa;have U:=h_ hg;have d:apE cs seq view (kind,i,ps)=if chkZ cs view≠0 then chkZ cs view else if seq<0\/281474976710656<seq then 3 else if entE cs (kind,i,ps)≠0 then entE cs (kind,i,ps)
  else if(kind=0/\i≠seq+1)\/(kind=1/\i≠seq)then 14 else if kind=1 then(if ps=view then 0 else 15)else sumE cs view ps:=rfl
 have f:apE cs seq view (kind,i,ps)=0->apV cs seq view (kind,i,ps)=if kind=1 then view else sumO cs view ps:=fun h=>by unfold apV;rw[Ab h]
 have A:=h_ (fun r=>zdJ seq r);have O:chkZ cs view=0->Zs cs view:=fun h=>⟨I,h⟩;have G:=zb8 (cs:=cs) (x:=(kind,i,ps));obtain⟨E1,ak⟩:=nm_ (chkZ cs view);obtain⟨E2,al⟩:=nm_ (entE cs (kind,i,ps));rw[<-ak]at C d O;rw[<-al]at D d G;clear hR hV hP hC I hX hT N1 N2 aa hg ak al;by_cases h1:E1=0
 .subst h1;have hZ:=h_ (O rfl);rw[Aa (by simp)]at d;clear O;by_cases h2:seq<0\/281474976710656<seq
  .rw[Ab h2]at d;rw[Ah h2]at A;have u:=h_ d;clear d f h2 D H N M G X;go_enter func78,ntmps78;go_wp2_with fail;rw[<-z.o,<-U.o];refine(C.o T a.o).mono ?_;rintro e t⟨rfl,c⟩;replace a:=bT a c;replace b:=h_ (b.later c);clear c C;go_wp2_with fail;refine(A.o t).mono ?_;rintro e w2⟨rfl,rfl⟩;clear A;go_wp2;go_ret3;exact ApON.no u.o (by decide) rfl a.o
  rw[Aa h2]at d;rw[Af h2]at A;have ai:0<=seq/\seq<=281474976710656:=by omega
  clear h2;by_cases h3:E2=0
  .subst h3;rw[Aa (by simp)]at d;obtain⟨_,hk,hs,J⟩:=G.1 rfl;dsimp only at hk hs J;clear G;have V:=h_ (fun r=>zy9 seq kind ai r);by_cases h4:(kind=0/\i≠seq+1)\/(kind=1/\i≠seq)
   .rw[Ab h4]at d;have u:=h_ d;have hd:∃y:Int,(if kind=1 then seq else seq+1)=y/\(i !=y)=true:=by
     refine⟨_,rfl,?_⟩;rw[Ao];rcases h4 with⟨rfl,h⟩|⟨rfl,h⟩
     .exact h
     exact h
    obtain⟨y,hy,d1⟩:=hd;rw[hy]at V;clear d f h4 hy H N M J hk X hs ai;go_enter func78,ntmps78;go_wp2_with fail;rw[<-z.o,<-U.o];refine(C.o T a.o).mono ?_;rintro e t⟨rfl,c⟩;replace a:=bT a c;replace b:=h_ (b.later c);clear c C;go_wp2_with fail;refine(A.o t).mono ?_;rintro e w2⟨rfl,rfl⟩;clear A;obtain⟨j,k,l⟩:=b.cells;go_wp2_with fail;refine(D.o t a.o).mono ?_;rintro e w3⟨rfl,c⟩;replace a:=bT a c;replace b:=h_ (b.later c);clear c D j k l;obtain⟨j,k,l⟩:=b.cells;go_wp2;go_quiet (first|(go_at_call 111;refine Calls.quiet_of_same ((V.o _).mono (fun _ _ h=>⟨h.1,h.2.symm⟩))));have HD:=h_ (Go.below_drewN a.o 1);go_wp2;go_ret3;exact ApON.no u.o (by decide) rfl (Go.below_drewN a.o _)
   rw[Aa h4]at d;have h0:(0:Int)≠1:=(by decide);rcases hk with rfl|rfl
   .rw[Aa h0]at d V;rw[Aa h0]at f;obtain rfl:i=seq+1:=(by omega);have d1:((seq+1:Int)!=seq+1)=false:=(by simp);obtain⟨E4,E⟩:=nm_ (sumE cs view ps);rw[<-E]at d N;have u:=h_ d;have HV:=h_ f;clear d f h4 h0 H M J X hs E;go_enter func78,ntmps78;go_wp2_with fail;rw[<-z.o,<-U.o];refine(C.o T a.o).mono ?_;rintro e t⟨rfl,c⟩;replace a:=bT a c;replace b:=h_ (b.later c);clear c C;go_wp2_with fail;refine(A.o t).mono ?_;rintro e w2⟨rfl,rfl⟩;clear A;obtain⟨j,k,l⟩:=b.cells;go_wp2_with fail;refine(D.o t a.o).mono ?_;rintro e w3⟨rfl,c⟩;replace a:=bT a c;replace b:=h_ (b.later c);clear c D j k l;obtain⟨j,k,l⟩:=b.cells;go_wp2;go_quiet (first|(go_at_call 111;refine Calls.quiet_of_same ((V.o _).mono (fun _ _ h=>⟨h.1,h.2.symm⟩))));generalize hwd:w3.drewN _=w4;have m:=h_ (show Lz w w4 from by rw[<-hwd];exact Go.below_drewN a.o _);have E:Ebox w4 g 0 (seq+1) (.slice Q no S):=(by rw[<-hwd];exact b.o);obtain⟨j,k,l⟩:=E.cells;clear hwd;go_wp2_with fail;refine(N.o w4 m.o).mono ?_;rintro e w5⟨rv,rfl,Y,c⟩;have s:=bT m c;have L:=h_ (E.later c);have aE:=h_ Y;have Z:=Y.rd.lit12;clear c N Y E j k l;obtain⟨ar,nr,cr,rfl⟩:=Z;obtain⟨j,k,l⟩:=L.cells;by_cases h9:E4=0
    .subst h9;go_wp2;go_ret3;exact ApON.yes u.o rfl (HV.o u.o) aE.o m.size s.o
    have q9:((E4:Int)!=0)=true:=(by rw[Ao];omega);have H9:=h_ h9;clear h9;go_wp2;go_ret3;exact ApON.no u.o H9.o rfl s.o
   rw[Ab rfl]at d V;rw[Ab rfl]at f;obtain rfl:i=seq:=(by omega);have d1:((i:Int)!=i)=false:=(by simp);clear h4 h0;by_cases h5:ps=view
   .rw[Ab h5]at d;have u:=h_ d;have HV:=h_ f;rw[Ah h5]at H;obtain⟨z1,z2⟩:=zDP hZ.o;rw[z1,z2]at M;clear d f N J X hs h5 z1 z2;go_enter func78,ntmps78;go_wp2_with fail;rw[<-z.o,<-U.o];refine(C.o T a.o).mono ?_;rintro e t⟨rfl,c⟩;replace a:=bT a c;replace b:=h_ (b.later c);clear c C;go_wp2_with fail;refine(A.o t).mono ?_;rintro e w2⟨rfl,rfl⟩;clear A;obtain⟨j,k,l⟩:=b.cells;go_wp2_with fail;refine(D.o t a.o).mono ?_;rintro e w3⟨rfl,c⟩;replace a:=bT a c;replace b:=h_ (b.later c);clear c D j k l;obtain⟨j,k,l⟩:=b.cells;go_wp2;go_quiet (first|(go_at_call 111;refine Calls.quiet_of_same ((V.o _).mono (fun _ _ h=>⟨h.1,h.2.symm⟩))));generalize hwd:w3.drewN _=w4;have m:=h_ (show Lz w w4 from by rw[<-hwd];exact Go.below_drewN a.o _);have v:=h_ (show Ebox w4 g 1 i (.slice Q no S)from by rw[<-hwd];exact b.o);obtain⟨j,k,l⟩:=v.cells;clear hwd;go_wp2_with fail;refine(H.o w4 m.o).mono ?_;rintro e w5⟨rfl,c⟩;have s:=bT m c;have L:=h_ (v.later c);clear c H j k l v;go_wp2_with fail;refine(M.o w5 s.o).mono ?_;rintro e w6⟨rv,rfl,Y,c⟩;have aC:=bT s c;have aD:=h_ (L.later c);have aF:=h_ Y;have Z:=Y.rd.lit12;clear c M Y;obtain⟨ar,nr,cr,rfl⟩:=Z;obtain⟨j,k,l⟩:=aD.cells;go_wp2;go_ret3;exact ApON.yes u.o rfl (HV.o u.o) aF.o s.size aC.o
   rw[Aa h5]at d;have u:=h_ d;rw[Af h5]at H;clear d f N M J X hs h5;go_enter func78,ntmps78;go_wp2_with fail;rw[<-z.o,<-U.o];refine(C.o T a.o).mono ?_;rintro e t⟨rfl,c⟩;replace a:=bT a c;replace b:=h_ (b.later c);clear c C;go_wp2_with fail;refine(A.o t).mono ?_;rintro e w2⟨rfl,rfl⟩;clear A;obtain⟨j,k,l⟩:=b.cells;go_wp2_with fail;refine(D.o t a.o).mono ?_;rintro e w3⟨rfl,c⟩;replace a:=bT a c;replace b:=h_ (b.later c);clear c D j k l;obtain⟨j,k,l⟩:=b.cells;go_wp2;go_quiet (first|(go_at_call 111;refine Calls.quiet_of_same ((V.o _).mono (fun _ _ h=>⟨h.1,h.2.symm⟩))));generalize hwd:w3.drewN _=w4;have m:=h_ (show Lz w w4 from by rw[<-hwd];exact Go.below_drewN a.o _);have v:=h_ (show Ebox w4 g 1 i (.slice Q no S)from by rw[<-hwd];exact b.o);obtain⟨j,k,l⟩:=v.cells;clear hwd;go_wp2_with fail;refine(H.o w4 m.o).mono ?_;rintro e w5⟨rfl,c⟩;have s:=bT m c;have L:=h_ (v.later c);clear c H j k l v;go_wp2;go_ret3;exact ApON.no u.o (by decide) rfl s.o
  rw[Ab h3]at d;have u:=h_ d;have q3:((E2:Int)!=0)=true:=by rw[Ao];omega
  have H3:=h_ h3;clear d f h3 H N M G X;go_enter func78,ntmps78;go_wp2_with fail;rw[<-z.o,<-U.o];refine(C.o T a.o).mono ?_;rintro e t⟨rfl,c⟩;replace a:=bT a c;replace b:=h_ (b.later c);clear c C;go_wp2_with fail;refine(A.o t).mono ?_;rintro e w2⟨rfl,rfl⟩;clear A;obtain⟨j,k,l⟩:=b.cells;go_wp2_with fail;refine(D.o t a.o).mono ?_;rintro e w3⟨rfl,c⟩;replace a:=bT a c;replace b:=h_ (b.later c);clear c D j k l;go_wp2;go_ret3;exact ApON.no u.o H3.o rfl a.o
 rw[Ab h1]at d;have u:=h_ d;have q1:((E1:Int)!=0)=true:=by rw[Ao];omega
 have H1:=h_ h1;clear d f h1 O D A H N M G X;go_enter func78,ntmps78;go_wp2_with fail;rw[<-z.o,<-U.o];refine(C.o T a.o).mono ?_;rintro e t⟨rfl,c⟩;replace a:=bT a c;replace b:=h_ (b.later c);clear c C;go_wp2;go_ret3;exact ApON.no u.o H1.o rfl a.o
end
section
def TakeR10(w:World)(m:Nat)(v:Value)(l:Bs)(R:List Bp×Nat×Nat)(e:Ending)(w':World):Prop :=
 ∃tv,e=.returned tv/\(∃ao n cap,tv=.slice ao n cap)/\w.grownBy w' (some m)/\Mdl w' m v l R.2.1 R.2.2/\(R.2.2=0->∃ps:List PairB,NewP w' w.heap.size tv ps/\PSO ps/\psL ps=R.1)
/- -/
variable {l:Bs} {cs:List ColB} {k m x:Nat} {v:Value} {w:World}
def zxO{E:Elt}{base:Nat}{vs:List (List Value)}(h:OwnG E w base v vs):∃a c cap,v=.slice a c cap:=by
 rcases h.1.2 with⟨rfl,_⟩|⟨q,cap,b,rfl,_⟩
 .exact⟨_,_,_,rfl⟩
 exact⟨_,_,_,rfl⟩
def zx6(sv:Value)(cs:List ColB)(m:Nat)(v:Value)(l:Bs)(k0:Nat)(w:World)(hM:Mdl w m v l k0 0)(hC:CS cs)(E:Nat)(cmp:List Ce->List Ce->Int)(bt:∀wz,w.grownBy wz (some m)->RdC wz sv cs)(bj:Calls prog 55 #[sv] w fun e w'=>e=.returned (.int .i64 (E:Int))/\Lz w w')(hK:E=0->cs.length<=8)(cQ:∀wz va vb a b,w.grownBy wz (some m)->RdE wz va a->RdE wz vb b->CES a->CES b->Calls prog 81 #[sv,va,vb] wz fun e w'=>e=.returned (.int .i64 (cmp (cesL a) (cesL b)))/\Lz wz w')(bR:∀wz k kd n,Mdl wz m v l k 0->Calls prog 181 #[.pointer (some ⟨m,0,none⟩), .int .i64 kd, .int .i64 n] wz (TakeR wz m v l kd n k)) :Calls prog 132 #[.pointer (some ⟨m,0,none⟩),sv] w (TakeR10 w m v l (bat (fun a b=>decide (cmp a b<0)) E l (kindsL cs) k0)):=by
 have c3:=hM.lt;have dV:=(bt w (World.grownBy.refl _ _)).len;by_cases hE:E=0
 .subst hE;obtain⟨R,hR⟩:=nm_ (bat (fun a b=>decide (cmp a b<0)) 0 l (kindsL cs) k0);rw[<-hR];have bQ:R=btRd (fun a b=>decide (cmp a b<0)) l (kindsL cs) k0:=by rw[hR];unfold bat;rw[Aa (by simp)]
  have br:(rdU l k0 1024).1<=1024:=by
   unfold rdU;split
   ·omega
   split<;>dsimp only<;>omega
  have bL:=Ai (fun h=>bQ.trans (zsL h));have bM:=Ai (fun(h:(rdU l k0 1024).2.2≠0)=>show R=([],(rdU l k0 1024).2.1,(rdU l k0 1024).2.2)from by rw[bQ];unfold btRd;rw[Ab h]);obtain⟨K,bk⟩:=nm_ cs.length;rw[<-bk]at dV;have eF:K<=8:=by rw[bk];exact hK rfl
  have ck:=Ai bk;have dB:=Ai bt;have aI:=Ai bj;have dC:=Ai bR;have dq:=Ai cQ;have D:=Ai hM;have ac:=Ai c3;have ex:=Ai hC;have cF:=Ai (fun q(N:q<l.length)=>hM.rd.block N);clear hR bQ bk bt bj bR cQ hM c3 hC hK;go_enter func132,ntmps132;go_wp2_with fail;refine aI.mono ?_;rintro e w1⟨rfl,hb⟩;have bb:=Ai (below_grown hb (some m));have bc:=Ai (D.later hb (AK _));clear hb aI D;go_wp2_with fail;refine(zcR m v l k0 w1 bc.o 1024 (by decide)).mono ?_;rintro e w2⟨rfl,aT,av⟩;rcases hr:rdU l k0 1024 with⟨n,k1,x1⟩
  rw[hr]at av br bL bM;dsimp only at av br bL bM ⊢;have aL:=Ai (bb.trans aT);have bd:=Ai av;have dX:=zxX n br;have dA:=Ai aL.size;clear aT av hr bb bc;have bH:=Ai (OwnM.made w2 w.heap.size n dA.o br);have bB:=Ai (show Lz w2 (w2.alloc (.cells (List.replicate n (triV (.slice none 0 0,([],0)))).flatten.toArray 69))from(Ac _ _).alloc (AK _) _);have cg:=Ai (aL.trans (below_grown bB.o (some m)));have cq:=Ai (bd.later bB.o (AK _));go_wp2;generalize w2.alloc (.cells (List.replicate n (triV (.slice none 0 0,([],0)))).flatten.toArray 69)=w3 at *;generalize w2.heap.size=gP at *;clear bB aL bd dX;have Q:=Ai (show w.heap.size<=gP from bH.lo);obtain⟨v7,b3⟩:=nm_ (Value.slice (some ⟨gP,0,none⟩) n n);rw[<-b3];have U:=Ai b3;clear b3;have aM:=Ai (show x1≠0->R.2.1=k1/\R.2.2=x1 from fun h=>by rw[bM.o h];exact⟨rfl,rfl⟩);have aN:=Ai (show x1=0->∃d,d.length=0/\zi3 (List.replicate n ((.slice none 0 0,([],0)):TriB)) d/\R=zcO (fun a b=>decide (cmp a b<0)) l n d ((kindsL cs).drop 0) k1 from fun h=>⟨[],rfl,fun i t M=>by
    have:=BO (AZ M);subst this;exact⟨rfl,rfl,CES.nil9⟩,by rw[Bz];exact bL.o h⟩)
  have cl:=Ai (show(List.replicate n ((.slice none 0 0,([],0)):TriB)).length=n by simp);have cG:=Ai (show ∀t∈List.replicate n ((.slice none 0 0,([],0)):TriB),t.2.1.length<=0 from fun t ht=>by
    have:=BO ht;subst this;simp)
  go_loopw [8] (fun i wr=> ∃(k x kk:Nat)(ts:List TriB),k<=K/\i=.int .i64 k/\Hid (Mdl wr m v l kk x)/\Hid (w.grownBy wr (some m))/\Hid (OwnM wr w.heap.size gP ts)/\Hid (ts.length=n)/\Hid (∀t∈ts,t.2.1.length<=k)/\Hid (x≠0->R.2.1=kk/\R.2.2=x) /\
    Hid (x=0->∃d,d.length=k/\zi3 ts d/\R=zcO (fun a b=>decide (cmp a b<0)) l n d ((kindsL cs).drop k) kk)) (fun i _=>K-(intOf i).toNat)
  case atStart=>exact⟨0,x1,k1,_,by omega,rfl,cq,cg,bH,cl,cG,aM,aN⟩
  clear cq cg bH cl aM aN cG;obtain⟨k,x,kk,ts,hk,rfl,D,J,A,HL,aQ,HI,HJ⟩:=hrel;have c2:=D.cell2;by_cases c1:k<K
  .have d1:decide ((k:Int)<(K:Int))=true:=Ah (by omega);by_cases I:x=0
   .subst I;have c2:wr.cell? ⟨m,2,none⟩=some (.int .i64 0):=c2;have bq:k<cs.length:=(by rw[<-ck.o];exact c1);have b2:=dB.o wr J.o;have dw:=Ai D.le;obtain⟨b,o,aU,Y,_⟩:=b2.get bq;obtain⟨e0,e1⟩:=Y _ b2;rcases hcg:cs.getD k default with⟨nm,kd⟩
    rw[hcg]at e0 e1;dsimp only at e0 e1;have dp:=Ai hcg;have TK:=Ai (dC.o wr kk kd (n:Int) D.o);clear b2 Y hcg;go_wp2_with fail;refine TK.mono ?_;rintro e w4⟨lv,rfl,bV,cT,ax,bn,cP,bZ,cY⟩;have dW:=(bn.rd (by rw[Aw]at bZ;omega)).len;obtain⟨bl,bS⟩:=nm_ wr.heap.size;rw[<-bS]at bn;have ae:=Ai bn;have ce:=Ai cP;have ch:=Ai (J.trans bV);have cr:=Ai cT;have cu:=Ai (A.aside bV (fun q N=>by
      injection N with N
      subst N;refine⟨by have:=ac.o;have:=Q.o;omega,fun t ht e=> ?_⟩;obtain⟨i,M⟩:=AW ht;have:=(OwnE.lt (A.rows i t M) e).1;have:=ac.o;have:=Q.o;omega))
    have dn:=Ai (show ∀t∈ts, ∀q,t.1.ownBlock=some q->q<bl from fun t ht q e=>by
      obtain⟨i,M⟩:=AW ht;have:=(OwnE.lt (A.rows i t M) e).2;omega)
    have dt:=Ai (show gP<bl by rw[bS];exact A.lt);obtain⟨p,hp⟩:=nm_ ax.length;rw[<-hp]at dW;have bK:=Ai hp;rw[Aw]at bZ;have c4:p<=n:=(by rw[hp];exact bZ);clear bV cT bn cP TK D J A c2 aU e0 e1 bS hp;go_wp2;go_loopw [10] (fun i wi=> ∃(j:Nat)(us:List TriB),j<=p/\i=.int .i64 j/\Hid (Mdl wi m v l (rdK l kd n kk).2.1 (rdK l kd n kk).2.2)/\Hid (w.grownBy wi (some m))/\Hid (OwnM wi w.heap.size gP us)/\Hid (us.length=n)/\Hid (OwnE wi bl lv ax) /\
      Hid (∀(i:Nat)(t:TriB),ts[i]? = some t->∃u,us[i]? = some u/\u.2.2=t.2.2/\u.2.1=if i<j then t.2.1++[ax.getD i default]else t.2.1)/\Hid (∀u∈us, ∀q,u.1.ownBlock=some q->lv.ownBlock≠some q)) (fun i _=>p-(intOf i).toNat)
    case atStart=>exact⟨0,ts,by omega,rfl,cr,ch,cu,HL,ae,Ai (fun i t M=>⟨t,M,rfl,by rw[Aa (by omega)]⟩),Ai (fun t ht q g H=>by have h3:=dn.o t ht q g;have:=(OwnE.lt ae.o H).1;omega)⟩
    clear cr ch cu;obtain⟨j,us,hj,rfl,D,J,A,f,ae,aB,aH⟩:=hrel;by_cases bp:j<p/\j<n
    .obtain⟨bp,aE⟩:=bp;have d2:decide ((j:Int)<(p:Int))=true:=Ah (by omega);have d3:decide ((j:Int)<(n:Int))=true:=Ah (by omega);obtain⟨u,hu⟩:∃u,us[j]?=some u:=⟨us[j]'(by rw[f.o];exact aE),by simp[f.o,aE]⟩;have bX:∀u9,(Instr.indexAt 33 v7 (.int .i64 (j:Int))).run prog u9=.ok (.pointer (some ⟨gP,2*j,none⟩)) u9:=by
      have:=A.idx (i:=j) (by rw[f.o];exact aE);rw[f.o,<-U.o]at this;exact this
     obtain⟨k9,_,f9,_⟩:=A.cell hu;have aX:=A.rows j u hu;have d0:=A.wide u (AZ hu);have b0:=ae.rd (by rw[<-bK.o];omega);obtain⟨b,o,aU,Y,_⟩:=b0.get (i:=j) (by rw[<-bK.o];exact bp);obtain⟨e0,e1⟩:=Y _ b0;rcases hcg:ax.getD j default with⟨x,t⟩;rw[hcg]at e0 e1;dsimp only at e0 e1;have bw:Lz wr (wr.alloc (.cells #[.int .u64 (x:Int),.string t] 65)):=(Ac _ _).alloc (AK _) _;have b5:(wr.alloc (.cells #[.int .u64 (x:Int),.string t] 65)).cell? ⟨gP,2*j,none⟩=some u.1:=((A.later bw).cell hu).1;have bv:=Ai (show OwnG zeR ((wr.alloc (.cells #[.int .u64 (x:Int),.string t] 65)).drew) (gP+1) u.1 (u.2.1.map cellVs)from(aX.alloc _).drew);obtain⟨rv,bs⟩:=nm_ u.1;rw[<-bs]at k9 b5 bv;have bg:=Ai bs;have em:=Ai (show ∀q,rv.ownBlock=some q->q≠gP from fun q N=>by have:=(OwnE.lt aX (by rw[<-bs];exact N)).1;omega);have dm:=Ai (zcI wr (x,t));have cE:=Ai (show gP+1<=wr.heap.size from by have:=A.lt;omega);clear aX b0 Y bw bs;go_wp2_with fail;go_region_law (first
       | (refine zqD zd5 (gP+1) rv (cellVs (x,t)) ⟨wr.heap.size,0,none⟩ (by rfl) (by rfl) bv.o (by rfl) rfl (by intro z hz;simp[cellVs]at hz;rcases hz with rfl|rfl<;>rfl) dm.o (by simp;show _*24<=_;omega) (by simp;omega) (by show gP+1<=(wr.alloc _).heap.size;rw[Az];have:=cE.o;omega) (gP+1) _ (Ac _ _) (AK _) ?_;intro v9 w9 q1 q2 q3 q4;obtain⟨ar,ay,V,dZ⟩:=zxO q1;subst dZ;have c9:w9.cell? ⟨gP,2*j,none⟩=some rv:=(Bi (q2.block gP (by omega))).trans b5;have dK:w9.frozen? ⟨gP,2*j,none⟩=false:=(World.frozen?_of_block ((q2.block gP (by omega)).trans (AS wr _ _ (by have:=cE.o;omega)))).trans f9;have Q1:=Ai q1;have Q3:=Ai q3;have Q4:=Ai q4;have Q2:=Ai q2;clear q1 q2 q3 q4))
     all_goals(
       have eK:u.2.1.length<=k:=by
         have g:∃t,ts[j]? = some t:=⟨ts[j]'(by rw[HL.o];exact aE),by simp[HL.o,aE]⟩;obtain⟨t9,c6⟩:=g;obtain⟨u9,H,_,h3⟩:=aB.o j t9 c6;rw[hu]at H;injection H with H
         subst H;rw[Aa (by omega)]at h3;rw[h3];exact aQ.o t9 (AZ c6)
       have S:Lz wr ((wr.alloc (.cells #[.int .u64 (x:Int), .string t] 65)).drew):=((Ac _ _).alloc (AK _) _).drew;have G:w9.grownBy (w9.setCell ⟨gP,2*j,none⟩ (.slice ar ay V)) (some gP):=za0 (World.grownBy.refl _ _) _;have dN:=A.lt;have dz:=Ai ((A.later S).grow hu (rv:= .slice ar ay V) (c:=(x,t)) (w':=w9) (by
         have:=Q1.o;show OwnG zeR w9 (gP+1) _ ((u.2.1++[(x,t)]).map cellVs);rw[AC];exact this) (by rw[<-bg.o];exact Q3.o) (by rw[<-bg.o];exact Q4.o) (by omega))
       have dx:=Ai (show Mdl (w9.setCell ⟨gP,2*j,none⟩ (.slice ar ay V)) m v l (rdK l kd n kk).2.1 (rdK l kd n kk).2.2 from by
         have g:=D.later S (AK _);have hm:=ac.o;have hp:=Q.o;exact g.same ((G.block m (by have:=Q2.size;have:=g.lt;omega) (fun e=>by injection e with e;omega)).trans (Q2.block m (by omega))) (fun q N=>by
           have hv:=cF.o q N;exact(G.block _ (by have:=Q2.size;have:=S.size;omega) (fun e=>by injection e with e;omega)).trans (Q2.block _ (by omega))))
       have ds:=Ai (show w.grownBy (w9.setCell ⟨gP,2*j,none⟩ (.slice ar ay V)) (some m)from by
         have h0:=J.o;have hp:=Q.o;exact⟨G.os.trans (Q2.os.trans (S.os.trans h0.os)),G.tape.trans (Q2.tape.trans (S.tape.trans h0.tape)),G.output.trans (Q2.output.trans (S.output.trans h0.output)),Ar h0.size (Ar S.size (Ar Q2.size G.size)),fun q g H=>by
           exact(G.block q (by have:=Q2.size;have:=S.size;omega) (fun e=>by injection e with e;omega)).trans ((Q2.block q (by omega)).trans ((S.block q (by have:=h0.size;omega)).trans (h0.block q g H)))⟩)
       have cv:=Ai (((ae.later S (AK _)).grown Q3.o (fun q g H=>by
         exact aH.o u (AZ hu) q (by rw[<-bg.o];exact H.symm) g)).grown G (fun q g H=>by injection H with H;have:=(OwnE.lt ae.o g).1;have:=dt.o;omega))
       have cB:=Ai (show ∀(i:Nat)(t':TriB),ts[i]? = some t'->∃Z,(us.set j ((.slice ar ay V,(u.2.1++[(x,t)],u.2.2)):TriB))[i]? = some Z/\Z.2.2=t'.2.2/\Z.2.1=if i<j+1 then t'.2.1++[ax.getD i default]else t'.2.1 from fun i t' M=>by
         obtain⟨Z,g,H,h3⟩:=aB.o i t' M;by_cases dR:i=j
         · subst dR
           rw[hu]at g;injection g with g
           subst g;rw[Aa (by omega)]at h3;refine⟨_,CF (by rw[f.o];exact aE),H, ?_⟩;rw[Ab (by omega),hcg];show u.2.1++_=_;rw[h3]
         · refine⟨Z,by rw[BW (by omega)];exact g,H, ?_⟩
           rw[h3];by_cases h5:i<j
           · rw[Ab h5,Ab (by omega)]
           · rw[Aa h5,Aa (by omega)])
       have cd:=Ai (show ∀Z∈us.set j ((.slice ar ay V,(u.2.1++[(x,t)],u.2.2)):TriB), ∀q,Z.1.ownBlock=some q->lv.ownBlock≠some q from fun Z dY q g H=>by
         rcases Bu dY with h3|rfl
         · exact aH.o Z h3 q g H
         · rcases Q4.o with h4|h4
           · exact aH.o u (AZ hu) q (by rw[<-bg.o, <-h4];exact g) H
           · have h5:=h4 q g
             have h6:=(OwnE.lt ae.o H).2;have h7:=S.size;omega)
       have cp:=Ai (show(us.set j ((.slice ar ay V,(u.2.1++[(x,t)],u.2.2)):TriB)).length=n by rw[Be];exact f.o);clear Q1 Q2 Q3 Q4 S G dN A D J ae aB aH f k9 b5 c9 f9 dK e0 e1 bX aU hcg hu d0;go_wp2;go_roundw
       case rel=>exact⟨j+1,_,by omega,by go_num,dx,ds,dz,cp,cv,cB,cd⟩
       case measure=>simp[intOf];omega)
    obtain rfl:j=p:=(by omega);have d2:decide ((j:Int)<(j:Int))=false:=Af (by omega);have c0:(kindsL cs).drop k=kd::(kindsL cs).drop (k+1):=by
     have dU:k<(kindsL cs).length:=(by unfold kindsL;rw[Ad];exact bq);have he:(kindsL cs)[k]?=some kd:=by
      have:=dp.o;simp[List.getD,bq]at this;unfold kindsL;rw[List.getElem?_map,AJ bq,this];rfl
     rw[Bf dU,(AG.1 he).2]
    obtain⟨d,bU,an,al⟩:=HJ.o (by first|trivial|rfl);rw[c0]at al;have cH:=Ai (show ∀u∈us,u.2.1.length<=k+1 from fun u hu=>by
      obtain⟨i,M⟩:=AW hu;have r:i<n:=by rw[<-f.o];exact(AG.1 M).1
      obtain⟨Z,g,_,h3⟩:=aB.o i (ts[i]'(by rw[HL.o];exact r)) (by simp[HL.o,r]);rw[M]at g;injection g with g;subst g;have h4:=aQ.o (ts[i]'(by rw[HL.o];exact r)) (AM _);rw[h3];split
      · rw[Ae,AN];omega
      · omega)
    have du:=Ai (show(rdK l kd n kk).2.2≠0->R.2.1=(rdK l kd n kk).2.1/\R.2.2=(rdK l kd n kk).2.2 from fun h=>by
      rw[al,zo1 h];exact⟨rfl,rfl⟩)
    have dv:=Ai (show(rdK l kd n kk).2.2=0->∃d,d.length=k+1/\zi3 us d/\R=zcO (fun a b=>decide (cmp a b<0)) l n d ((kindsL cs).drop (k+1)) (rdK l kd n kk).2.1 from fun h=>by
      refine⟨d++[(rdK l kd n kk).1],by rw[Ae,AN,bU], ?_,by rw[al,zm4 h]⟩;have cX:=cY h;obtain⟨_,_,_,_,ek,_⟩:=zoU dw.o h;intro i u M;have r:i<n:=by rw[<-f.o];exact(AG.1 M).1
      obtain⟨Z,g,H,h3⟩:=aB.o i (ts[i]'(by rw[HL.o];exact r)) (by simp[HL.o,r]);rw[M]at g;injection g with g;subst g;obtain⟨r1,r2,r3⟩:=an i (ts[i]'(by rw[HL.o];exact r)) (by simp[HL.o,r]);have b1:ax.length=n:=by
        have:(cesL ax).length=n:=by rw[cX];omega
        rw[za8]at this;exact this
      rw[Ab (by rw[bK.o,b1];exact r)]at h3;refine⟨?_,by rw[H];exact r2,by rw[h3];exact r3.snoc9 (ce.get (by rw[b1];exact r))⟩;rw[h3,zlS,r1,AC,C7, <-cX,znR (by rw[b1];exact r)])
    clear al an c0 HI HJ aB aH ae ce cY bp;go_wp2;go_roundw
    case rel=>exact⟨k+1,_,_,us,by omega,by go_num,D,J,A,f,cH,du,dv⟩
    simp[intOf];omega
   have N:((x:Int)==0)=false:=(by rw[As];omega);obtain⟨r1,r2⟩:=HI.o I;have HF:=Ai (show TakeR10 w m v l R (.returned v7) wr from⟨v7,rfl,⟨_,_,_,U.o⟩,J.o,by rw[r1,r2];exact D.o,fun h=>absurd (r2.symm.trans h) I⟩);clear r1 r2 I D J A HL aQ HI HJ;generalize wr=wo at *;go_wp2;go_loopw [11] (fun i wi=>i=.int .i64 0/\wi=wo) (fun _ _=>0)
   case atStart=>exact⟨rfl,rfl⟩
   obtain⟨rfl,rfl⟩:=hrel;have aW:(0<n/\decide (0<n)=true/\decide ((0:Int)<(n:Int))=true)\/(¬0<n/\decide (0<n)=false/\decide ((0:Int)<(n:Int))=false):=by
    by_cases h:0<n
    .exact .inl ⟨h,Ah h,Ah (by omega)⟩
    exact .inr ⟨h,Af h,Af (by omega)⟩
   have am:(1<n/\decide (1<n)=true/\decide ((1:Int)<(n:Int))=true)\/(¬1<n/\decide (1<n)=false/\decide ((1:Int)<(n:Int))=false):=by
    by_cases h:1<n
    .exact .inl ⟨h,Ah h,Ah (by omega)⟩
    exact .inr ⟨h,Af h,Af (by omega)⟩
   rcases aW with⟨d4,d5,d7⟩|⟨d4,d5,d7⟩
   all_goals(
     go_wp2;generalize wr=wo at *;go_loopw [12] (fun i wi=>i=.int .i64 1/\wi=wo) (fun _ _=>0)
     case atStart=>exact⟨rfl,rfl⟩
     case round=>
       obtain⟨rfl,rfl⟩:=hrel;rcases am with⟨d8,d6,d9⟩|⟨d8,d6,d9⟩
       all_goals(first|(exfalso;omega)|(
         go_wp2;go_ret;exact HF.o)))
  obtain rfl:k=K:=by omega
  have d1:decide ((k:Int)<(k:Int))=false:=Af (by omega);by_cases I:x=0
  .subst I;obtain⟨d,bU,an,al⟩:=HJ.o (by first|trivial|rfl);rw[Bj (by unfold kindsL;rw[Ad,<-ck.o];exact AK _),zo0]at al;have cA:=Ai (show R=zcL (fun a b=>decide (cmp a b<0)) l n d [] n kk from al);have cy:=Ai an;have aM:=Ai (show(0:Nat)≠0->R.2.1=kk/\R.2.2=0 from fun h=>absurd rfl h);have aN:=Ai (show(0:Nat)=0->∃T:List Int,T.length=0/\(∀x∈T,inW x)/\(∀(j:Nat)(u:TriB),ts[j]?=some u->j<0->u.2.2=T.getD j 0)/\R=zcL (fun a b=>decide (cmp a b<0)) l n d T (n-0) kk from fun _=>⟨[],rfl,fun x I=>absurd I (by simp),fun j u _ h=>absurd h (by omega),cA.o⟩);have cC:=Ai (show ∀(j:Nat)(t:TriB),ts[j]?=some t->∃u,ts[j]?=some u/\u.2.1=t.2.1 from fun j t h=>⟨t,h,rfl⟩);clear al an HI HJ cA c1;go_wp2
   go_loopw [11] (fun i wi=> ∃(s x q:Nat)(us:List TriB),s<=n/\i=.int .i64 s/\Hid (Mdl wi m v l q x)/\Hid (w.grownBy wi (some m))/\Hid (OwnM wi w.heap.size gP us)/\Hid (us.length=n)/\Hid (∀(j:Nat)(t:TriB),ts[j]? = some t->∃u,us[j]? = some u/\u.2.1=t.2.1)/\Hid (x≠0->R.2.1=q/\R.2.2=x) /\
     Hid (x=0->∃T:List Int,T.length=s/\(∀x∈T,inW x)/\(∀(j:Nat)(u:TriB),us[j]? = some u->j<s->u.2.2=T.getD j 0)/\R=zcL (fun a b=>decide (cmp a b<0)) l n d T (n-s) q)) (fun i _=>n-(intOf i).toNat)
   case atStart=>exact⟨0,0,kk,ts,by omega,rfl,D,J,A,HL,cC,aM,Ai (fun _=>aN.o (by first|trivial|rfl))⟩
   clear D J A aM aN cC;obtain⟨s,x,q,us,dO,rfl,D,J,A,f,aP,HI,HJ⟩:=hrel;have c2:=D.cell2;by_cases I:x=0
   .subst I;have c2:wr.cell? ⟨m,2,none⟩=some (.int .i64 0):=c2;by_cases r:s<n
    .have d5:decide ((s:Int)<(n:Int))=true:=Ah (by omega);obtain⟨u,hu⟩:∃u,us[s]?=some u:=⟨us[s]'(by rw[f.o];exact r),by simp[f.o,r]⟩;have bX:∀u9,(Instr.indexAt 33 v7 (.int .i64 (s:Int))).run prog u9=.ok (.pointer (some ⟨gP,2*s,none⟩)) u9:=by
      have:=A.idx (i:=s) (by rw[f.o];exact r);rw[f.o,<-U.o]at this;exact this
     go_wp2_with fail;refine(zrB m v l q wr D.o).mono ?_;rintro e w5⟨rfl,bW,cU⟩;have bI:=Ai (A.aside bW (fun q9 N=>by
       injection N with N
       subst N;refine⟨by have:=ac.o;have:=Q.o;omega,fun t ht e=> ?_⟩;obtain⟨i,M⟩:=AW ht;have:=(OwnE.lt (A.rows i t M) e).1;have:=ac.o;have:=Q.o;omega))
     have ci:=Ai (J.trans bW);have be:=Ai cU;obtain⟨T,a5,a6,a0,O⟩:=HJ.o (by first|trivial|rfl);have cJ:=Ai a6;rw[show n-s=(n-(s+1))+1 from by omega]at O;have a9:=Ai (fun h=>O.trans (znZ h));have aJ:=Ai (fun h H=>O.trans (zm3 h H));have aK:=Ai (fun h H=>O.trans (zsM h H));have bh:=Ai a5;have cI:=Ai a0;have b4:=zAI (l:=l) (k:=q) (most:=18446744073709551615);rcases hr:rdU l q 18446744073709551615 with⟨y,k5,x5⟩
     rw[hr]at be a9 aJ aK b4;dsimp only at be a9 aJ aK b4 ⊢;obtain⟨z,hz⟩:=nm_ (zag y);have cK:=Ai (show inW z from by rw[hz];exact zjP (by omega));clear b4;rw[<-hz]at aJ aK ⊢;obtain⟨_,c9,_,f9⟩:=bI.cell hu;have bf:=Ai (bI.put hu z);have G:w5.grownBy (w5.setCell ⟨gP,2*s+1,none⟩ (.int .i64 z)) (some gP):=za0 (World.grownBy.refl _ _) _;have bu:(us.set s (u.1,(u.2.1,z)))[s]?=some (u.1,(u.2.1,z)):=CF (by rw[f.o];exact r);obtain⟨_,dJ,_,_⟩:=bf.cell bu;have ct:=Ai (show Mdl (w5.setCell ⟨gP,2*s+1,none⟩ (.int .i64 z)) m v l k5 x5 from by
       have g:=be.o;have hm:=ac.o;have hp:=Q.o;exact g.same (G.block m g.lt (fun e=>by injection e with e;omega)) (fun q N=>by
         have hv:=cF.o q N;exact G.block _ (g.rd.block N) (fun e=>by injection e with e;omega)))
     have cj:=Ai (show w.grownBy (w5.setCell ⟨gP,2*s+1,none⟩ (.int .i64 z)) (some m)from by
       have h0:=ci.o;have hp:=Q.o;exact⟨G.os.trans h0.os,G.tape.trans h0.tape,G.output.trans h0.output,Ar h0.size G.size,fun q g H=>(G.block q (by have:=h0.size;omega) (fun e=>by injection e with e;omega)).trans (h0.block q g H)⟩)
     obtain⟨ok,aF⟩:∃ok:Bool,(z !=0)=ok:=⟨_,rfl⟩;have MM:=Ai (zc2 m v l k5 x5 (w5.setCell ⟨gP,2*s+1,none⟩ (.int .i64 z)) ct.o ok 2);have aO:=Ai aF;clear bW cU O a5 a0 a6 hr D J A HI HJ hz c2;go_wp2_with fail;refine MM.mono ?_;rintro e w8⟨rfl,aw,X⟩;have bJ:=Ai (bf.aside aw (fun q9 N=>by
       injection N with N
       subst N;refine⟨by have:=ac.o;have:=Q.o;omega,fun t ht e=> ?_⟩;obtain⟨i,M⟩:=AW ht;have:=(OwnE.lt (bf.rows i t M) e).1;have:=ac.o;have:=Q.o;omega))
     have bC:=Ai (cj.trans aw);have co:=Ai (show(us.set s ((u.1,(u.2.1,z)):TriB)).length=n by rw[Be];exact f.o);have cD:=Ai (show ∀(j:Nat)(t:TriB),ts[j]? = some t->∃Z,(us.set s ((u.1,(u.2.1,z)):TriB))[j]? = some Z/\Z.2.1=t.2.1 from fun j t hj=>by
       obtain⟨Z,g,H⟩:=aP.o j t hj;by_cases bY:j=s
       · subst bY
         rw[hu]at g;injection g with g
         subst g;exact⟨_,bu,H⟩
       · exact⟨Z,by rw[BW (by omega)];exact g,H⟩)
     have aV:ok=true↔z≠0:=(by rw[<-aO.o,Ao]);obtain⟨x',C⟩:=nm_ ((if x5=0 then(if ok=true then 0 else 2)else x5));rw[<-C]at X;have bG:=Ai X;have bD:=Ai (show x'≠0->R.2.1=k5/\R.2.2=x' from fun h=>by
       by_cases h5:x5=0
       · rw[Ab h5]at C
         by_cases h6:ok=true
         · rw[Ab h6]at C;exact absurd C h
         · rw[Aa h6]at C
           rw[aJ.o h5 (Av (fun h7=>h6 (aV.2 h7))),C];exact⟨rfl,rfl⟩
       · rw[Aa h5]at C
         rw[a9.o h5,C];exact⟨rfl,rfl⟩)
     have bE:=Ai (show x'=0->∃T:List Int,T.length=s+1/\(∀x∈T,inW x)/\(∀(j:Nat)(Z:TriB),(us.set s ((u.1,(u.2.1,z)):TriB))[j]? = some Z->j<s+1->Z.2.2=T.getD j 0)/\R=zcL (fun a b=>decide (cmp a b<0)) l n d T (n-(s+1)) k5 from fun h=>by
       have h5:x5=0:=by
         by_cases h5:x5=0
         · exact h5
         · rw[Aa h5]at C;omega
       have h6:ok=true:=by
         rw[Ab h5]at C;by_cases h6:ok=true
         · exact h6
         · rw[Aa h6]at C;omega
       refine⟨T++[z],by rw[Ae,AN,bh.o],fun x I=>by
         rcases AD.1 I with I|I
         · exact cJ.o x I
         · rw[AH.1 I];exact cK.o,fun j Z hj el=> ?_,aK.o h5 (aV.1 h6)⟩
       by_cases bY:j=s
       · subst bY
         rw[bu]at hj;injection hj with hj
         subst hj;have:=bh.o;simp[List.getD, <-this]
       · rw[BW (by omega)]at hj
         rw[cI.o j Z hj (by omega)];have:=bh.o;unfold List.getD;rw[Cs (by omega)])
     clear aw X C aV G bu hu c9 dJ f9 bI ci be bf ct cj a9 aJ aK bh cI cJ cK aP f bX MM aF;go_wp2;go_roundw
     case rel=>exact⟨s+1,x',k5,_,by omega,by go_num,bG,bC,bJ,co,cD,bD,bE⟩
     simp[intOf];omega
    obtain rfl:s=n:=(by omega);have d5:decide ((s:Int)<(s:Int))=false:=Af (by omega);obtain⟨T,a5,a6,a0,O⟩:=HJ.o (by first|trivial|rfl);rw[BT,znY]at O;have hL:∀(i:Nat)(u:TriB),us[i]?=some u->i<s/\cesL u.2.1=(btRows s d).getD i []/\CES u.2.1/\u.2.2=T.getD i 0:=fun i u M=>by
     have r:i<s:=(by rw[<-f.o];exact(AG.1 M).1);obtain⟨Z,g,H⟩:=aP.o i (ts[i]'(by rw[HL.o];exact r)) (by simp[HL.o,r]);rw[M]at g;injection g with g
     subst g;obtain⟨r1,r2,r3⟩:=cy.o i (ts[i]'(by rw[HL.o];exact r)) (by simp[HL.o,r]);refine⟨r,?_,by rw[H];exact r3,a0 i u M r⟩;rw[H,r1];unfold btRows;simp[List.getD,r]
    have bm:=zcQ s d;obtain⟨L,cS⟩:=nm_ (btRows s d);rw[<-cS]at hL bm O;have cf:=Ai (show btAsc (fun a b=>decide (cmp a b<0)) L=true->∀wz,w.grownBy wz (some m)->Mdl wz m v l q 0->OwnM wz w.heap.size gP us->TakeR10 w m v l R (.returned v7) wz from fun ha wz g1 g2 g3=>by
      rw[Aa (by rw[ha];simp)]at O;refine⟨v7,rfl,⟨_,_,_,U.o⟩,g1,by rw[O];exact g2,fun _=>⟨us.map (·.2), ?_, ?_, ?_⟩⟩
      · have:=g3.new
        rw[f.o, <-U.o]at this;exact this
      · intro p hp
        obtain⟨u,hu,rfl⟩:=Au.1 hp;obtain⟨i,M⟩:=AW hu;obtain⟨a1,a2,a3,a4⟩:=hL i u M;refine⟨a3, ?_⟩;rw[a4];have cZ:i<T.length :=by omega
        have e:T.getD i 0=T[i]:=by simp[List.getD,cZ]
        rw[e];exact a6 _ (AM cZ)
      · rw[O]
        show psL (us.map (·.2))=L.zip T;unfold psL;rw[A6];apply List.ext_getElem
        · rw[Ad,Bd,f.o,bm,a5,Nat.min_self]
        · intro i g H
          have M:i<us.length :=by simpa using g
          obtain⟨a1,a2,a3,a4⟩:=hL i us[i] (by simp[M]);rw[List.getElem_map,List.getElem_zip];have e1:L.getD i []=L[i]'(by omega):=by
            have:i<L.length :=by omega
            simp[List.getD,this]
          have e2:T.getD i 0=T[i]'(by omega):=by
            have:i<T.length :=by omega
            simp[List.getD,this]
          rw[<-e1, <-e2, <-a2, <-a4];rfl)
    have dy:=Ai (show btAsc (fun a b=>decide (cmp a b<0)) L=false->R.2.1=q/\R.2.2=9 from fun ha=>by
      rw[O,Ab ha];exact⟨rfl,rfl⟩)
    have cm:=Ai hL;have cn:=Ai bm;have cx:=Ai (show(0:Nat)≠0->R.2.1=q/\R.2.2=0 from fun h=>absurd rfl h);have cw:=Ai (show(0:Nat)=0->∀j,j+1<1->(fun a b=>decide (cmp a b<0)) (L.getD j []) (L.getD (j+1) [])=true from fun _ j hj=>absurd hj (by omega));clear O a5 a6 a0 hL bm cS r HI HJ c2 aP cy HL aQ dO bU;go_wp2;go_loopw [12] (fun i wi=> ∃(p x:Nat),1<=p/\i=.int .i64 p/\Hid (Mdl wi m v l q x)/\Hid (w.grownBy wi (some m))/\Hid (OwnM wi w.heap.size gP us)/\Hid (x≠0->R.2.1=q/\R.2.2=x) /\
      Hid (x=0->∀j,j+1<p->(fun a b=>decide (cmp a b<0)) (L.getD j []) (L.getD (j+1) [])=true)) (fun i _=>s-(intOf i).toNat)
    case atStart=>exact⟨1,0,by omega,rfl,D,J,A,cx,Ai (fun _=>cw.o (by first|trivial|rfl))⟩
    clear D J A cx cw;obtain⟨p,x,eI,rfl,D,J,A,HI,HJ⟩:=hrel;have c2:=D.cell2;by_cases c4:p<s
    .have d8:decide ((p:Int)<(s:Int))=true:=Ah (by omega);by_cases I:x=0
     .subst I;have c2:wr.cell? ⟨m,2,none⟩=some (.int .i64 0):=c2;obtain⟨j,hj⟩:∃j,p=j+1:=⟨p-1,by omega⟩;have dT:IntKind.i64.wrap ((p:Int)-1)=(j:Int):=(by rw[IntKind.wrap_i64];have:=A.few;have:=f.o;omega);obtain⟨ua,aY⟩:∃u,us[j]?=some u:=⟨us[j]'(by rw[f.o];omega),AJ (by rw[f.o];omega)⟩;obtain⟨ub,aZ⟩:∃u,us[p]?=some u:=⟨us[p]'(by rw[f.o];omega),AJ (by rw[f.o];omega)⟩;have dP:∀u9,(Instr.indexAt 33 v7 (.int .i64 (j:Int))).run prog u9=.ok (.pointer (some ⟨gP,2*j,none⟩)) u9:=by
       have:=A.idx (i:=j) (by rw[f.o];omega);rw[f.o,<-U.o]at this;exact this
      have dQ:∀u9,(Instr.indexAt 33 v7 (.int .i64 (p:Int))).run prog u9=.ok (.pointer (some ⟨gP,2*p,none⟩)) u9:=by
       have:=A.idx (i:=p) (by rw[f.o];omega);rw[f.o,<-U.o]at this;exact this
      obtain⟨ka,_,_,_⟩:=A.cell aY;obtain⟨kb,_,_,_⟩:=A.cell aZ;obtain⟨_,da,db,_⟩:=cm.o j ua aY;obtain⟨_,dc,dd,_⟩:=cm.o p ub aZ;have an:=(A.rows j ua aY).rd (by have:=A.wide ua (AZ aY);omega);have c5:=(A.rows p ub aZ).rd (by have:=A.wide ub (AZ aZ);omega);obtain⟨z,hz⟩:=nm_ (cmp (cesL ua.2.1) (cesL ub.2.1));have CP:=Ai (fun wz(hb:Lz wr wz)=>dq.o wz ua.1 ub.1 ua.2.1 ub.2.1 (J.trans (below_grown hb _)) (an.later hb (AK _)) (c5.later hb (AK _)) db dd);rw[<-hz]at CP;obtain⟨ra,bx⟩:=nm_ ua.1;obtain⟨rb,bz⟩:=nm_ ub.1;rw[<-bx]at ka CP;rw[<-bz]at kb CP;have c7:(fun a b=>decide (cmp a b<0)) (L.getD j []) (L.getD (j+1) [])=decide (z<0):=by
       show decide (cmp (L.getD j []) (L.getD (j+1) [])<0)=_;rw[<-da,<-hj,<-dc,hz]
      have HZ:=Ai c7;have bF:=Ai hj;obtain⟨ok,aF⟩:∃ok:Bool,decide (z<0)=ok:=⟨_,rfl⟩;have aO:=Ai aF;clear hj hz da db dc dd an c5 bx bz aY aZ c7;go_wp2_with fail;go_region_with (first
        | (go_at_call 81
           refine(CP.o _ ?hcp).mono ?_
           case hcp=>exact(Ac _ _).drew
           rintro e w7⟨rfl,bo⟩;have cV:=(D.drew).later bo (AK _))
        | (go_at_call 177
           try rw[aF]
           refine(zc2 m v l q 0 w7 cV ok 9).mono ?_;rintro e w8⟨rfl,aw,X⟩))
      all_goals(
        have bJ:=Ai ((A.later (((Ac _ _).drew).trans bo)).aside aw (fun q9 N=>by
          injection N with N
          subst N;refine⟨by have:=ac.o;have:=Q.o;omega,fun t ht e=> ?_⟩;obtain⟨i,M⟩:=AW ht;have:=(OwnE.lt (A.rows i t M) e).1;have:=ac.o;have:=Q.o;omega))
        have bC:=Ai (((J.trans_drew).trans (below_grown bo _)).trans aw);have X:Mdl w8 m v l q (if ok=true then 0 else 9):=by first|exact X|simpa using X
        obtain⟨x',C⟩:∃x',x'=(if ok=true then 0 else 9):=⟨_,rfl⟩;rw[<-C]at X;have bG:=Ai X;have bD:=Ai (show x'≠0->R.2.1=q/\R.2.2=x' from fun h=>by
          by_cases h6:ok=true
          · rw[Ab h6]at C;exact absurd C h
          · rw[Aa h6]at C
            rw[C];refine dy.o ?_;cases ha:btAsc (fun a b=>decide (cmp a b<0)) L with
            | false=>rfl
            | true=>
              have h7:=(zfA _ L).1 ha j (by rw[cn.o, <-bF.o];exact c4)
              try dsimp only at h7
              rw[HZ.o,aO.o]at h7;exact absurd h7 h6)
        have bE:=Ai (show x'=0->∀j',j'+1<p+1->(fun a b=>decide (cmp a b<0)) (L.getD j' []) (L.getD (j'+1) [])=true from fun h j' eH=>by
          have h6:ok=true:=by
            by_cases h6:ok=true
            · exact h6
            · rw[Aa h6]at C;omega
          by_cases dS:j'=j
          · rw[dS];dsimp only;rw[HZ.o,aO.o];exact h6
          · exact HJ.o (by first|trivial|rfl) j' (by have:=bF.o;omega))
        clear X;clear aw X C bo cV D J A HI HJ CP ka kb dP dQ c2 HZ bF dT aF aO;go_wp2;go_roundw
        case rel=>exact⟨p+1,x',by omega,by go_num,bG,bC,bJ,bD,bE⟩
        case measure=>simp[intOf];omega)
     have N:((x:Int)==0)=false:=(by rw[As];omega);obtain⟨r1,r2⟩:=HI.o I;have HF:=Ai (show TakeR10 w m v l R (.returned v7) wr from⟨v7,rfl,⟨_,_,_,U.o⟩,J.o,by rw[r1,r2];exact D.o,fun h=>absurd (r2.symm.trans h) I⟩);clear r1 r2 I D J A HI HJ;go_wp2;go_ret;exact HF.o
    have d8:decide ((p:Int)<(s:Int))=false:=Af (by omega);have HF:=Ai (show TakeR10 w m v l R (.returned v7) wr from by
      by_cases I:x=0
      · subst I
        refine cf.o ((zfA _ L).2 (fun j hj=>HJ.o rfl j (by have:=cn.o;omega))) wr J.o D.o A.o
      · obtain⟨r1,r2⟩:=HI.o I
        exact⟨v7,rfl,⟨_,_,_,U.o⟩,J.o,by rw[r1,r2];exact D.o,fun h=>absurd (r2.symm.trans h) I⟩)
    clear D J A HI HJ c2;go_wp2;go_ret;exact HF.o
   have N:((x:Int)==0)=false:=(by rw[As];omega);obtain⟨r1,r2⟩:=HI.o I;have HF:=Ai (show TakeR10 w m v l R (.returned v7) wr from⟨v7,rfl,⟨_,_,_,U.o⟩,J.o,by rw[r1,r2];exact D.o,fun h=>absurd (r2.symm.trans h) I⟩);clear r1 r2 I D J A HI HJ aP;generalize wr=wo at *;have aW:(s<n/\decide (s<n)=true/\decide ((s:Int)<(n:Int))=true)\/(¬s<n/\decide (s<n)=false/\decide ((s:Int)<(n:Int))=false):=by
    by_cases h:s<n
    .exact .inl ⟨h,Ah h,Ah (by omega)⟩
    exact .inr ⟨h,Af h,Af (by omega)⟩
   have am:(1<n/\decide (1<n)=true/\decide ((1:Int)<(n:Int))=true)\/(¬1<n/\decide (1<n)=false/\decide ((1:Int)<(n:Int))=false):=by
    by_cases h:1<n
    .exact .inl ⟨h,Ah h,Ah (by omega)⟩
    exact .inr ⟨h,Af h,Af (by omega)⟩
   rcases aW with⟨d4,d5,d7⟩|⟨d4,d5,d7⟩
   all_goals(
     go_wp2;go_loopw [12] (fun i wi=>i=.int .i64 1/\wi=wo) (fun _ _=>0)
     case atStart=>exact⟨rfl,rfl⟩
     case round=>
       obtain⟨rfl,rfl⟩:=hrel;rcases am with⟨d8,d6,d9⟩|⟨d8,d6,d9⟩
       all_goals(
         go_wp2;go_ret;exact HF.o))
  have N:((x:Int)==0)=false:=by rw[As];omega
  obtain⟨r1,r2⟩:=HI.o I;have HF:=Ai (show TakeR10 w m v l R (.returned v7) wr from⟨v7,rfl,⟨_,_,_,U.o⟩,J.o,by rw[r1,r2];exact D.o,fun h=>absurd (r2.symm.trans h) I⟩);clear r1 r2 I D J A HL aQ HI HJ;generalize wr=wo at *;go_wp2;go_loopw [11] (fun i wi=>i=.int .i64 0/\wi=wo) (fun _ _=>0)
  case atStart=>exact⟨rfl,rfl⟩
  obtain⟨rfl,rfl⟩:=hrel;have aW:(0<n/\decide (0<n)=true/\decide ((0:Int)<(n:Int))=true)\/(¬0<n/\decide (0<n)=false/\decide ((0:Int)<(n:Int))=false):=by
   by_cases h:0<n
   .exact .inl ⟨h,Ah h,Ah (by omega)⟩
   exact .inr ⟨h,Af h,Af (by omega)⟩
  have am:(1<n/\decide (1<n)=true/\decide ((1:Int)<(n:Int))=true)\/(¬1<n/\decide (1<n)=false/\decide ((1:Int)<(n:Int))=false):=by
   by_cases h:1<n
   .exact .inl ⟨h,Ah h,Ah (by omega)⟩
   exact .inr ⟨h,Af h,Af (by omega)⟩
  rcases aW with⟨d4,d5,d7⟩|⟨d4,d5,d7⟩
  all_goals(
    go_wp2;generalize wr=wo at *;go_loopw [12] (fun i wi=>i=.int .i64 1/\wi=wo) (fun _ _=>0)
    case atStart=>exact⟨rfl,rfl⟩
    case round=>
      obtain⟨rfl,rfl⟩:=hrel;rcases am with⟨d8,d6,d9⟩|⟨d8,d6,d9⟩
      all_goals(first|(exfalso;omega)|(
        go_wp2;go_ret;exact HF.o)))
 have cz:=Ai (show bat (fun a b=>decide (cmp a b<0)) E l (kindsL cs) k0=([],k0,E)from by unfold bat;rw[Ab hE]);have N:((E:Int)!=0)=true:=by rw[Ao];omega
 have dr:=Ai hE;have D:=Ai hM;have aI:=Ai bj;clear hM bj bt bR hC hK hE;go_enter func132,ntmps132;go_wp2_with fail;refine aI.mono ?_;rintro e w1⟨rfl,hb⟩;have bb:=Ai (below_grown hb (some m));have bc:=Ai (D.later hb (AK _));clear hb aI D;go_wp2_with fail;refine(zcS m v l k0 w1 bc.o false E).mono ?_;rintro e w2⟨rfl,aT,av⟩;have aL:=Ai (bb.trans aT);have bd:=Ai (show Mdl w2 m v l k0 E from av);clear aT av;go_wp2;go_ret;exact⟨_,rfl,⟨_,_,_,rfl⟩,aL.o,by rw[cz.o];exact bd.o,fun h=>by rw[cz.o]at h;exact absurd h dr.o⟩
/- -/
open Go.Shelf
def zu1 {d:Value}(f:Mdl w m v l k x)(h:RdC w d cs):∀i,i<cs.length->(adr d (i*2)).block≠m:=by
 intro i g e;obtain⟨r,cap,p,_⟩:=f.rd.shape;obtain⟨b,o,j,n⟩:=RdG.at h (i:=i) (by rw[Ad];exact g);have a:=n 0 (.string (cs.getD i default).1) (by rw[getD_map colV cs i g default];rfl);have c:adr d (i*2)=⟨b,o,none⟩:=j;rw[c]at e;have e:b=m:=e;subst e;rw[CJ,Ag _ _ _ _ _ _ f.blk,p]at a;rcases o with _|_|_|o
 .simp at a
 .simp at a
 .simp at a
 simp at a
def RdC.aside {w':World} {b:Value}(c:Mdl w m v l k x)(h:RdC w b cs)(d:w.grownBy w' (some m)):RdC w' b cs :=
 RdG.same h fun i a=>d.block _ (RdG.block h zbK a) (fun e=>by
  injection e with e
  exact zu1 c h i (by rw[Ad]at a;exact a) e)
def zqO(d c:Value)(cs:List ColB)(ps:List PairB)(w:World)(i:RdC w d cs)(g:RdP w c ps)(f:CS cs)(a:PSO ps) :Calls prog 120 #[d,c] w fun e w'=>∃b,e=.returned (.tuple #[b,.int .i64 (chkZ cs ps:Nat)])/\Own w' w.heap.size b (if chkZ cs ps=0 then btWr (kindsL cs) (psL ps)else[])/\Lz w w' :=
 ztH d c cs ps w i g f a (chkZ cs ps) (fun k j=>zcZ d c cs ps k (i.later j l_) (g.later j l_) f a) (fun h=>(zvK a h).1)
end
