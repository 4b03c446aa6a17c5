/- -/
import Derived.Test.YtgboedffaangeaaGreatDoorVEntR
set_option maxHeartbeats 16000000
set_option linter.all false
set_option maxRecDepth 1000000
namespace Go.Proofs.YtgboedffaangeaaGreatDoor
open _root_.Go.Proofs.Tryz Go.RowKit Go.Shelf
section
def zzD{cs:List ColB}:∀(es:List EntB)(a:Nat)(s:Int)(v:List PairB),(trM cs a s v es).length=es.length
 | [],_,_,_=>by rw[trM];rfl
 | x::t,a,s,v=>by rw[trM,Ap,zzD t,Ap]
def zzE{cs:List ColB}:∀(es:List EntB)(a n:Nat)(s:Int)(v:List PairB)(k:Nat),(trW cs n s v es).2.2.2.2=0->k<es.length ->(trM cs a s v es).getD k (0,0)=((trW cs n s v (es.take (k+1))).2.1,a+(trW cs n s v (es.take (k+1))).1.length)
 | [],a,n,s,v,k,h,hk=>absurd hk (by simp)
 | x::t,a,n,s,v,0,h,hk=>by
  obtain⟨b,c,d,e,f⟩:=zeW h;rw[BC,AU,zjZ b c d (by rw[trW]),trM,trW];simp
 | x::t,a,n,s,v,k+1,h,hk=>by
  obtain⟨b,c,d,e,f⟩:=zeW h;rw[Ap]at hk;obtain⟨g,_,_⟩:=zoD t (k+1) (n+1) (apN cs s v x) (apV cs s v x) e (by omega);rw[BC,zjZ b c d g,trM,BK,zzE t _ (n+1) _ _ k e (by omega)];dsimp only;rw[Ae,BD]
def zk1{cs:List ColB}:∀(es:List EntB)(a n:Nat)(s:Int)(v:List PairB),(∀x∈es,EnO x)->(trW cs n s v es).2.2.2.2=0 ->(∀m∈trM cs a s v es,a<m.2)/\(trM cs a s v es).Pairwise (fun x y=>x.2<y.2)
 | [],a,n,s,v,_,h=>by rw[trM];simp
 | x::t,a,n,s,v,hO,h=>by
  obtain⟨z,A,e,f,C⟩:=zeW h;obtain⟨k,p,d,j,l,r,u⟩:=zf4 (hO x (by simp)) e;have b:=zb5 k p;rw[<-d]at b;obtain⟨c,i⟩:=zk1 t (a+(entW cs x).1.length) (n+1) (apN cs s v x) (apV cs s v x) (fun y g=>hO y (by simp[g])) f;rw[trM];refine⟨fun m hm=>?_,BQ.2 ⟨fun m hm=>c m hm,i⟩⟩;rcases Ba.1 hm with rfl|hm
  .dsimp only;omega
  .have:=c m hm;omega
variable {b r:Bs} {cs:List ColB} {es:List EntB} {gd gl gw i k:Nat} {w w':World}
def zu3(a:Nat)(b:∀x∈es,EnO x)(h:(trW cs 0 0 [] es).2.2.2.2=0) :((0,a)::trM cs a 0 [] es).Pairwise (fun x y=>x.2<y.2):=by
 obtain⟨c,d⟩:=zk1 es a 0 0 [] b h;exact BQ.2 ⟨fun m hm=>c m hm,d⟩
def zzH(f:errS (colsL cs)=0)(h:i<(hdB (colsL cs)).length):(trD ((hdB (colsL cs)++r).take i)).2.2.2.2≠0:=by
 have a:=zbO f;have j:=zbJ (colsL cs);have e:(hdB (colsL cs)++r).take i=(hdB (colsL cs)).take i:=BH (by omega);rw[e];have b:((hdB (colsL cs)).take i).length=i:=by rw[Aq];omega
 unfold trD;by_cases g:i<4
 .rw[Ab (.inl (by omega))];show(6:Nat)≠0;decide
 have c:((hdB (colsL cs)).take i).take 4=magicL:=by
  rw[Cf,A7 (by omega)];unfold hdB;exact BR rfl
 have d:((hdB (colsL cs)).take i).drop 4=(frB 0 (wrS (colsL cs))).take (i-4):=by
  rw[List.drop_take];unfold hdB;rw[B4 (show magicL.length=4 from rfl)]
 rw[Aa (by rw[c];simp;omega),d,zBG 0 (by omega) (wrS (colsL cs)) a (i-4) (by omega),Ab (by simp)];show(5:Nat)≠0;decide
def trD_cut(e:errS (colsL cs)=0)(p:∀x∈es,EnO x)(h:(trW cs 0 0 [] es).2.2.2.2=0)(r:i<=(hdB (colsL cs)++(trW cs 0 0 [] es).1).length) :((trD ((hdB (colsL cs)++(trW cs 0 0 [] es).1).take i)).2.2.2.2≠0/\∀m∈(0,(hdB (colsL cs)).length)::trM cs (hdB (colsL cs)).length 0 [] es,m.2≠i) \/ (∃k,k<=es.length/\trD ((hdB (colsL cs)++(trW cs 0 0 [] es).1).take i)=(cs,es.take k,((0,(hdB (colsL cs)).length)::trM cs (hdB (colsL cs)).length 0 [] es).take (k+1),i,0) /\(((0,(hdB (colsL cs)).length)::trM cs (hdB (colsL cs)).length 0 [] es).getD k (0,0)).2=i):=by
 have j:=zbO e;have A:=zbJ (colsL cs);by_cases f:i<(hdB (colsL cs)).length
 .refine .inl ⟨zzH e f,fun m hm=>?_⟩;rcases Ba.1 hm with rfl|hm
  .dsimp only;omega
  have:=(zk1 es (hdB (colsL cs)).length 0 0 [] p h).1 m hm;omega
 obtain⟨C,D,_⟩:=zoR e;obtain⟨b,d⟩:=nm_ (hdB (colsL cs)++(trW cs 0 0 [] es).1);rw[<-d]at r ⊢;have z:b.drop (hdB (colsL cs)).length=(trW cs 0 0 [] es).1:=by rw[d,B9]
 have g:(b.take i).length=i:=by rw[Aq];omega
 have u:(b.take i).take 4=magicL:=by
  rw[Cf,A7 (by omega),d];unfold hdB;rw[An];exact BR rfl
 have v:(b.take i).drop 4=frB 0 (wrS (colsL cs))++((trW cs 0 0 [] es).1).take (i-(hdB (colsL cs)).length):=by
  rw[List.drop_take,d];unfold hdB;rw[An,B4 (show magicL.length=4 from rfl),Cd,Am (by unfold hdB at f;rw[Ae]at f;have:magicL.length=4:=rfl;omega)];congr 2;rw[Ae];have:magicL.length=4:=rfl;omega
 have s:=zhQ 0 (by omega) (wrS (colsL cs)) (((trW cs 0 0 [] es).1).take (i-(hdB (colsL cs)).length)) j;rw[<-v]at s;have n:∀R,trR cs (b.take i) i (hdB (colsL cs)).length 0 0 []=R->trD (b.take i)=if R.2.2.2≠0 then([],[],[],R.2.2)else(cs,R.1,(0,(hdB (colsL cs)).length)::R.2.1,R.2.2):=by
  intro R y;unfold trD;rw[Aa (by rw[u];simp;omega),s];dsimp only;rw[Aa (by simp),Aa (by simp),Aa (fun h=>h C),D,zd3,<-A,g,y]
 rcases trR_cut (cs:=cs) r es i (hdB (colsL cs)).length 0 0 [] p h (by omega) z (by omega)with⟨c,l,a⟩|⟨k,c,l,a⟩
 .refine .inl ⟨?_,fun m hm=>?_⟩
  .rw[n _ rfl,Ab c];exact c
  rcases Ba.1 hm with rfl|hm
  .dsimp only;omega
  exact a m hm
 refine .inr ⟨k,c,?_,?_⟩
 .rw[n _ l,Aa (by simp)];rfl
 rcases a with⟨rfl,a⟩|⟨E,G,t⟩
 .rw[BJ];exact a.symm
 obtain⟨q,rfl⟩:∃q,k=q+1:=⟨k-1,by omega⟩;rw[BK];exact t
/- -/
def zoF{cs:List ColB}{b:Bs}:∀(f at_ n:Nat)(s:Int)(v:List PairB),at_<=b.length->b.length<=at_+f ->∃es,(∀x∈es,EnO x)/\(trW cs n s v es).2.2.2.2=0/\(trW cs n s v es).1=(b.drop at_).take ((trR cs b f at_ n s v).2.2.1-at_)/\at_<=(trR cs b f at_ n s v).2.2.1/\(trR cs b f at_ n s v).2.2.1<=b.length
 | 0,at_,n,s,v,ha,hf=>by
  rw[trR];dsimp only;exact⟨[],by simp,by rw[trW],by rw[trW];simp,l_,ha⟩
 | f+1,at_,n,s,v,ha,hf=>by
  have a:∀T:List EntB×List (Int×Nat)×Nat×Nat,T.2.2.1=at_->∃es,(∀x∈es,EnO x)/\(trW cs n s v es).2.2.2.2=0/\(trW cs n s v es).1=(b.drop at_).take (T.2.2.1-at_)/\at_<=T.2.2.1/\T.2.2.1<=b.length:=fun T I=>by
   rw[I];exact⟨[],by simp,by rw[trW],by rw[trW];simp,l_,ha⟩
  by_cases c:b.length<=at_
  .exact a _ (by rw[zhI _ c])
  .by_cases e:4096<=n
   .exact a _ (by rw[trR,Aa c,Ab e])
   .by_cases g:(nxF (b.drop at_)).2.2.2=0
    .obtain⟨E,G,u,V,H⟩:=zd0 g
     obtain⟨k,d⟩:=nm_ ((nxF (b.drop at_)).1);obtain⟨p,hp⟩:=nm_ ((nxF (b.drop at_)).2.1);obtain⟨m,hm⟩:=nm_ ((nxF (b.drop at_)).2.2.1);rw[<-d,<-hp,<-hm]at E;rw[<-d,<-hp,<-hm]at G;rw[<-hm]at u;rw[<-d]at V;rw[<-hp]at H;rw[Ay]at u;have A:=zb5 k p;by_cases i:entRE cs (k:Int) p=0
     .obtain⟨X,y,Y,Z,y5⟩:=zh6 H i
      have J:m=(frB k p).length:=G;have L:m<=b.length-at_:=u;by_cases j:apE cs s v (entX cs k p)=0
      .obtain⟨es,O,t,C,U,D⟩:=zoF (cs:=cs) (b:=b) f (at_+m) (n+1) (apN cs s v (entX cs k p)) (apV cs s v (entX cs k p)) (by omega) (by omega)
       have l:(trR cs b (f+1) at_ n s v).2.2.1=(trR cs b f (at_+m) (n+1) (apN cs s v (entX cs k p)) (apV cs s v (entX cs k p))).2.2.1:=by
        rw[trR,Aa c,Aa e,Aa (fun h=>h g),<-d,<-hp,<-hm,Aa (fun h=>h i),Aa (fun h=>h j)];split<;>rfl
       rw[l];obtain⟨q,M⟩:=nm_ ((trR cs b f (at_+m) (n+1) (apN cs s v (entX cs k p)) (apV cs s v (entX cs k p))).2.2.1);rw[<-M]at C U D ⊢;refine⟨entX cs k p::es,fun z r=>?_,?_,?_,by omega,D⟩
       .rcases Ba.1 r with rfl|r
        .exact X
        .exact O z r
       .rw[zjZ (by omega) j (by rw[y]) t];exact t
       .rw[zjZ (by omega) j (by rw[y]) t]
        dsimp only;rw[y,C,<-B0];dsimp only;rw[show q-at_=m+(q-(at_+m))from by omega,Cy,E]
      .exact a _ (by rw[trR,Aa c,Aa e,Aa (fun h=>h g),<-d,<-hp,Aa (fun h=>h i),Ab j])
     .exact a _ (by rw[trR,Aa c,Aa e,Aa (fun h=>h g),<-d,<-hp,Ab i])
    .exact a _ (by rw[trR,Aa c,Aa e,Ab g])
def zoI(h:4<(trD b).2.2.2.1) :∃cs es,errS (colsL cs)=0/\(∀x∈es,EnO x)/\(trW cs 0 0 [] es).2.2.2.2=0/\b.take (trD b).2.2.2.1=hdB (colsL cs)++(trW cs 0 0 [] es).1/\(trD b).2.2.2.1<=b.length:=by
 by_cases c:b.length<4\/b.take 4≠magicL
 .unfold trD at h;rw[Ab c]at h;simp at h
 by_cases d:(nxF (b.drop 4)).2.2.2=0
 .by_cases f:(nxF (b.drop 4)).1=0
  .by_cases i:readE (nxF (b.drop 4)).2.1=0
   .obtain⟨g,l,n,G,H⟩:=zd0 d;obtain⟨t,u,_⟩:=zjE i;rw[f]at g l;rw[Ay]at n;obtain⟨a,p⟩:=nm_ (readC (nxF (b.drop 4)).2.1);obtain⟨m,hm⟩:=nm_ ((nxF (b.drop 4)).2.2.1);have e:(trD b).2.2.2.1=(trR (colsB a) b b.length (4+m) 0 0 []).2.2.1:=by
     unfold trD;rw[Aa c,Aa (fun h=>h d),Aa (fun h=>h f),Aa (fun h=>h i),<-p,<-hm];split<;>rfl
    rw[e];rw[<-p]at t u;rw[<-u]at g l;rw[<-hm]at g l n;have z:m<=b.length-4:=n;have v:4<=b.length:=(by omega);obtain⟨es,C,D,r,E,s⟩:=zoF (cs:=colsB a) (b:=b) b.length (4+m) 0 0 [] (by omega) (by omega);obtain⟨q,A⟩:=nm_ ((trR (colsB a) b b.length (4+m) 0 0 []).2.2.1);rw[<-A]at r E s ⊢;refine⟨colsB a,es,by rw[zcC];exact t,C,D,?_,s⟩;have j:magicL=b.take 4:=by
     apply Av;intro y;exact c (.inr (fun e=>y e.symm))
    rw[r,zcC];unfold hdB;rw[<-g,j,show q=4+(m+(q-(4+m)))from by omega,Cy,Cy,B0,show 4+(m+(q-(4+m)))-(4+m)=q-(4+m)from by omega,An]
   unfold trD at h;rw[Aa c,Aa (fun h=>h d),Aa (fun h=>h f),Ab i]at h;simp at h
  unfold trD at h;rw[Aa c,Aa (fun h=>h d),Ab f]at h;simp at h
 unfold trD at h;rw[Aa c,Ab d]at h;simp at h
def zvB{cs:List ColB}{b:Bs}:∀(es:List EntB)(f at_ n:Nat)(s:Int)(v:List PairB)(r:Bs),(∀x∈es,EnO x)->(trW cs n s v es).2.2.2.2=0->at_<=b.length->b.drop at_=(trW cs n s v es).1++r->b.length<=at_+f ->at_+(trW cs n s v es).1.length<=(trR cs b f at_ n s v).2.2.1
 | [],f,at_,n,s,v,r,_,_,ha,_,hf=>by
  obtain⟨_,_,_,_,h,_⟩:=zoF (cs:=cs) (b:=b) f at_ n s v ha hf;rw[trW];exact h
 | x::t,f,at_,n,s,v,r,hO,h,ha,hd,hf=>by
  obtain⟨G,z,A,C,D⟩:=zeW h;obtain⟨k,p,g,j,l,m,u⟩:=zf4 (hO x (by simp)) A;rw[D]at hd ⊢;dsimp only at hd ⊢;rw[An]at hd;have i:=zhQ k j p ((trW cs (n+1) (apN cs s v x) (apV cs s v x) t).1++r) l;rw[<-g,<-hd]at i;have c:=zb5 k p;rw[<-g]at c;have a:=congrArg List.length hd;rw[Ay,Ae]at a;have d:b.drop (at_+(entW cs x).1.length)=(trW cs (n+1) (apN cs s v x) (apV cs s v x) t).1++r:=by
   rw[<-B0,hd,B9]
  match f,hf with
  | 0,hf=>omega
  | f+1,hf=>
   have ih:=zvB t f (at_+(entW cs x).1.length) (n+1) (apN cs s v x) (apV cs s v x) r (fun y E=>hO y (by simp[E])) C (by omega) d (by omega);have e:(trR cs b (f+1) at_ n s v).2.2.1=(trR cs b f (at_+(entW cs x).1.length) (n+1) (apN cs s v x) (apV cs s v x)).2.2.1:=by
    rw[trR,Aa (by omega),Aa (by omega),i];dsimp only;rw[Aa (by simp),Aa (fun h=>h m),u,Aa (fun h=>h z)];split<;>rfl
   rw[e,Ae];omega
def zDO(g:errS (colsL cs)=0)(l:∀x∈es,EnO x)(h:(trW cs 0 0 [] es).2.2.2.2=0) :(hdB (colsL cs)++(trW cs 0 0 [] es).1).length<=(trD ((hdB (colsL cs)++(trW cs 0 0 [] es).1)++r)).2.2.2.1:=by
 have f:=zbO g;have n:=zbJ (colsL cs);obtain⟨s,t,_⟩:=zoR g;obtain⟨b,a⟩:=nm_ ((hdB (colsL cs)++(trW cs 0 0 [] es).1)++r);rw[<-a];have d:=congrArg List.length a;rw[Ae,Ae]at d;have j:b.take 4=magicL:=by rw[a];unfold hdB;rw[An,An];exact BR rfl
 have c:b.drop 4=frB 0 (wrS (colsL cs))++((trW cs 0 0 [] es).1++r):=by rw[a];unfold hdB;rw[An,An,B4 (show magicL.length=4 from rfl)]
 have i:=zhQ 0 (by omega) (wrS (colsL cs)) ((trW cs 0 0 [] es).1++r) f;rw[<-c]at i;have m:b.drop (hdB (colsL cs)).length=(trW cs 0 0 [] es).1++r:=by rw[a,An,B9]
 have p:=zvB es b.length (hdB (colsL cs)).length 0 0 [] r l h (by omega) m (by omega);have e:(trD b).2.2.2.1=(trR cs b b.length (hdB (colsL cs)).length 0 0 []).2.2.1:=by
  unfold trD;rw[Aa (by rw[j];simp;omega),i];dsimp only;rw[Aa (by simp),Aa (by simp),Aa (fun h=>h s),t,zd3,<-n];split<;>rfl
 rw[e,Ae];exact p
def zzJ(u:errS (colsL cs)=0)(t:∀x∈es,EnO x)(h:(trW cs 0 0 [] es).2.2.2.2=0)(v:b=(hdB (colsL cs)++(trW cs 0 0 [] es).1)++r) :∃es',(∀x∈es',EnO x)/\(trW cs 0 0 [] es').2.2.2.2=0/\b.take (trD b).2.2.2.1=hdB (colsL cs)++(trW cs 0 0 [] es').1/\(trD b).2.2.2.1<=b.length/\es.length<=es'.length/\es'.take es.length=es/\(hdB (colsL cs)++(trW cs 0 0 [] es).1).length<=(trD b).2.2.2.1:=by
 have hm:=zDO (r:=r) u t h;rw[<-v]at hm;have y:4<(hdB (colsL cs)++(trW cs 0 0 [] es).1).length:=by
  rw[Ae,zbJ];have:=zb5 0 (wrS (colsL cs));omega
 obtain⟨a,es',l,c,p,n,f⟩:=zoI (b:=b) (by omega);have j:(hdB (colsL a)++(trW a 0 0 [] es').1).take (hdB (colsL cs)++(trW cs 0 0 [] es).1).length=hdB (colsL cs)++(trW cs 0 0 [] es).1:=by
  rw[<-n,Cf,A7 hm,v];exact BR rfl
 have g:=congrArg List.length n;rw[Aq,A7 f]at g;have d:=ze6 u t h;rcases trD_cut l c p (i:=(hdB (colsL cs)++(trW cs 0 0 [] es).1).length) (by omega)with⟨s,_⟩|⟨k,z,e,_⟩
 .rw[j,d]at s;exact absurd rfl s
 rw[j,d]at e;injection e with e1 e
 injection e with e2 e
 subst e1;have m:es.length=k:=by rw[e2,Aq];omega
 exact⟨es',c,p,n,f,by omega,by rw[m];exact e2.symm,hm⟩
def rvD(b:Bs):Nat×List ColB×List EntB×Nat :=
 if(trD b).2.2.2.2≠0/\(trD b).2.2.2.1<=4 then(0,[],[],(trD b).2.2.2.2)
 else((trD b).2.2.2.1,(trD (b.take (trD b).2.2.2.1)).1,(trD (b.take (trD b).2.2.2.1)).2.1,0)
def zFY(h:(rvD b).2.2.2=0) :(rvD b).1<=b.length/\4<(rvD b).1/\errS (colsL (rvD b).2.1)=0/\(∀x∈(rvD b).2.2.1,EnO x)/\(trW (rvD b).2.1 0 0 [] (rvD b).2.2.1).2.2.2.2=0/\b.take (rvD b).1=hdB (colsL (rvD b).2.1)++(trW (rvD b).2.1 0 0 [] (rvD b).2.2.1).1/\(rvD b).1=(trD b).2.2.2.1:=by
 unfold rvD at h ⊢;by_cases a:(trD b).2.2.2.2≠0/\(trD b).2.2.2.1<=4
 .rw[Ab a]at h;exact absurd h a.1
 rw[Aa a];dsimp only;have e:4<(trD b).2.2.2.1:=by
  by_cases d:(trD b).2.2.2.2=0
  .obtain⟨_,_,_,p,r,_⟩:=zoH d;have n:=congrArg List.length p;rw[Ae,zbJ]at n;have:=zb5 0 (wrS (colsL (trD b).1));omega
  exact Nat.lt_of_not_le fun m=>a ⟨d,m⟩
 obtain⟨cs,es,g,f,i,l,c⟩:=zoI e;have j:=ze6 g f i;rw[<-l]at j;rw[j];exact⟨c,e,g,f,i,l,rfl⟩
/- -/
def RvO(w:World)(b:Bs)(e:Ending)(w':World):Prop :=
 ∃v,e=.returned (.tuple #[.int .i64 ((rvD b).1:Nat),v,.int .i64 ((rvD b).2.2.2:Nat)])/\zi4 w' v (rvD b).2.1 (rvD b).2.2.1/\CS (rvD b).2.1/\Lz w w'
def zA1(h:(trD b).2.2.2.2=0):rvD b=((trD b).2.2.2.1,(trD b).1,(trD b).2.1,0):=by
 obtain⟨_,_,_,_,a,_⟩:=zoH h;unfold rvD;rw[Aa (fun k=>k.1 h)];rw[show b.take (trD b).2.2.2.1=b from by rw[a];exact Bo]
def zvM(h:(trD b).2.2.2.2≠0)(a:(trD b).2.2.2.1<=4):rvD b=(0,[],[],(trD b).2.2.2.2):=Ab ⟨h,a⟩
def zvL(a:¬(trD b).2.2.2.1<=4):rvD b=((trD b).2.2.2.1,(trD (b.take (trD b).2.2.2.1)).1,(trD (b.take (trD b).2.2.2.1)).2.1,0):=Aa fun k=>a k.2
def zA0(w:World):zi4 w (.agg #[.slice none 0 0,.slice none 0 0]) [] []:=⟨_,_,rfl,RdG.nil colE w,[],rfl,RdG.nil zaV w,fun _ h=>absurd h (by simp)⟩
def zmV {e w1 w2 b w9:World}{a:Nat}{d c:Value}(f:Lz w e)(A:a=w.heap.size)(g:a<e.heap.size)(r:Lz e w1)(m:Lz w1 w2)(n:∀v,Only (fun j=>j<e.heap.size) w1 v->zi4 v (.agg #[d,c]) cs es)(x:b=w2\/b=w2.drew)(z:Tbox b a (.slice none 0 0) (.slice none 0 0))(y:w9=((b.setCell ⟨a,0,none⟩ d).setCell ⟨a,1,none⟩ c)\/w9=((b.setCell ⟨a,0,none⟩ d).setCell ⟨a,1,none⟩ c).drew) :w9.cell? ⟨a,0,none⟩=some d/\w9.cell? ⟨a,1,none⟩=some c/\zi4 w9 (.agg #[d,c]) cs es/\Lz w w9:=by
 have l:Lz w1 b:=by
  rcases x with rfl|rfl
  .exact m
  exact m.drew
 have s:w.heap.size<=a:=by omega
 have i:Lz w b:=f.trans ((r.trans (l.mono r.size)).mono f.size);have h:=(z.both d c).cells;have t:Lz w ((b.setCell ⟨a,0,none⟩ d).setCell ⟨a,1,none⟩ c):=(i.setCell (p:=⟨a,0,none⟩) s _).setCell (p:=⟨a,1,none⟩) s _;have u:Only (fun j=>j<e.heap.size) w1 ((b.setCell ⟨a,0,none⟩ d).setCell ⟨a,1,none⟩ c):=(((Only.refl _ _).below l l_).setCell (p:=⟨a,0,none⟩) g _).setCell (p:=⟨a,1,none⟩) g _;rcases y with rfl|rfl
 .exact⟨h.1,h.2,n _ u,t⟩
 exact⟨h.1,h.2,n _ u.drew,t.drew⟩
/- -/
def TrS.bytes(h:TrS cs es):(trE cs es).1=hdB (colsL cs)++(trW cs 0 0 [] es).1:=by rw[h.parts.2.2]
def zFP(a:CS cs)(c:errS (colsL cs)=0)(b:∀x∈es,EnO x)(h:(trW cs 0 0 [] es).2.2.2.2=0):TrS cs es :=
 ⟨a,b,by rw[trE,Aa (by rw[c];simp),Aa (by rw[h];simp)];exact h⟩
def zIH(e:TrS cs es)(l:b=(trE cs es).1++r) :∃es',TrS cs es'/\rvD b=((trE cs es').1.length,cs,es',0)/\b.take (trE cs es').1.length=(trE cs es').1/\(trE cs es').1.length<=b.length/\es.length<=es'.length/\es'.take es.length=es/\(trE cs es).1.length<=(trE cs es').1.length:=by
 obtain⟨f,n,_⟩:=e.parts;rw[e.bytes]at l;obtain⟨es',d,j,c,g,p,i,hm⟩:=zzJ f e.en n l;have a:=zFP e.sch f d j;have hp:(trD b).2.2.2.1=(trE cs es').1.length:=by
  rw[a.bytes,<-c,Aq,A7 g]
 have s:4<(hdB (colsL cs)++(trW cs 0 0 [] es).1).length:=by
  rw[Ae,zbJ];have:=zb5 0 (wrS (colsL cs));omega
 have m:=ze6 f d j;rw[<-c]at m;refine⟨es',a,?_,?_,by omega,p,i,by rw[e.bytes];omega⟩
 .unfold rvD;rw[Aa (fun h=>by omega),m,hp]
 rw[<-hp,a.bytes];exact c
def zcX(h:TrS cs es)(k:Nat):TrS cs (es.take k)/\(trE cs (es.take k)).1=(trE cs es).1.take (trE cs (es.take k)).1.length/\(trE cs (es.take k)).1.length<=(trE cs es).1.length:=by
 obtain⟨d,e,_⟩:=h.parts;have f:es.take k=es.take (min k es.length):=by
  by_cases g:k<=es.length
  .rw[A7 g]
  rw[Nat.min_eq_right (by omega),Am (by omega),Am l_]
 rw[f];obtain⟨j,_,c⟩:=zoD es (min k es.length) 0 0 [] e (Nat.min_le_right _ _);have a:=zFP h.sch d (fun x i=>h.en x (A9 i)) j;have b:(trW cs 0 0 [] (es.take (min k es.length))).1.length<=(trW cs 0 0 [] es).1.length:=by
  have:=congrArg List.length c;rw[Aq]at this;omega
 refine⟨a,?_,by rw[a.bytes,h.bytes,Ae,Ae];omega⟩;rw[a.bytes,h.bytes,Ae,List.take_length_add_append,<-c]
def zoG(h:TrS cs es)(k n:Nat)(j:Bs) :(trE cs es).1.take ((trE cs (es.take k)).1.length+n)++j=(trE cs (es.take k)).1++(((trE cs es).1.drop (trE cs (es.take k)).1.length).take n++j):=by
 obtain⟨_,a,_⟩:=zcX h k;rw[<-An];congr 1;rw[Cy,<-a]
def zvD(h:TrS cs es)(d:k<es.length):(trE cs (es.take k)).1.length+6<=(trE cs es).1.length:=by
 obtain⟨n,c,_⟩:=h.parts;obtain⟨e,_,_⟩:=zcX h k;obtain⟨_,b,_⟩:=e.parts;have l:es=es.take k++(es[k]::es.drop (k+1)):=by rw[<-Bf d,A0]
 have a:=zoE (es.take k) (es[k]::es.drop (k+1)) 0 0 [] b;rw[<-l]at a;split at a
 .rename_i hne;rw[a]at c;exact absurd c hne
 rename_i hok;obtain⟨_,_,f,_,g⟩:=zeW (Decidable.not_not.1 hok);obtain⟨i,p,j,_⟩:=zf4 (h.en _ (AM d)) f;have m:=zb5 i p;rw[g]at a;dsimp only at a;rw[h.bytes,e.bytes,a];simp only[Ae];rw[j];omega
def zpO(cs:List ColB)(a:ActB)(b:k<=es.length):(actS cs es a).take k=es.take k:=by
 unfold actS;split
 ·exact BH b
 rfl
def LgS(gl gw gd:Nat)(bv dv:Value)(j:Nat):Prop:=j=gl\/(j=gw\/bv.ownBlock=some j)\/DskQ gd dv j
def Lbx(w:World)(gl gw gd k:Nat):Prop:=w.heap[gl]?=some (.cells #[.pointer (some ⟨gw,0,none⟩),.pointer (some ⟨gd,0,none⟩),.int .i64 (k:Int)] 79 (0,0))
def Lbx.cells{w:World}{gl gw gd k:Nat}(h:Lbx w gl gw gd k):w.cell? ⟨gl,0,none⟩=some (.pointer (some ⟨gw,0,none⟩))/\w.cell? ⟨gl,1,none⟩=some (.pointer (some ⟨gd,0,none⟩))/\w.cell? ⟨gl,2,none⟩=some (.int .i64 (k:Int)) :=
 ⟨Ag _ _ 0 _ _ _ h,Ag _ _ 1 _ _ _ h,Ag _ _ 2 _ _ _ h⟩
def Lbx.free(h:Lbx w gl gw gd k)(i:Nat):w.frozen? ⟨gl,i,none⟩=false:=At _ _ _ _ _ h
def Lbx.later(h:Lbx w gl gw gd k)(a:Lz w w'):Lbx w' gl gw gd k:=(a.block gl (Aj.1 h).1).trans h
structure Lgp(w:World)(N gl gw gd:Nat)(bv dv:Value)(cs:List ColB)(es:List EntB)(k:Nat)(Q:Nat->Prop):Prop where
 from_:N<=gl
 le:k<=es.length
 box:Lbx w gl gw gd k
 dsk:Dsk w N gd dv (trE cs es).1 (trE cs (es.take k)).1.length 0
 wrt:Wr w N gw bv cs es (fun j=>Q j\/j=gl\/DskQ gd dv j)
 apart:∀j,Q j->j≠gl/\¬DskQ gd dv j
 off:¬DskQ gd dv gl
section
variable{w w':World}{N gl gw gd k:Nat}{bv dv:Value}{cs:List ColB}{es es':List EntB}{Q Q' S:Nat->Prop}
def Lgp.lt(h:Lgp w N gl gw gd bv dv cs es k Q):gl<w.heap.size:=(Aj.1 h.box).1
def Lgp.ne(h:Lgp w N gl gw gd bv dv cs es k Q):∀j,(j=gw\/bv.ownBlock=some j)->¬Q j/\j≠gl/\¬DskQ gd dv j:=fun j b=>
 have f:(Q j\/j=gl\/DskQ gd dv j)->False:=fun a=>b.elim (h.wrt.free j a).1 (h.wrt.free j a).2
 ⟨fun a=>f (.inl a),fun a=>f (.inr (.inl a)),fun a=>f (.inr (.inr a))⟩
def Lgp.at_(h:Lgp w N gl gw gd bv dv cs es k Q){j:Nat}(a:LgS gl gw gd bv dv j):N<=j/\j<w.heap.size/\¬Q j:=by
 rcases a with rfl|a|a
 .exact⟨h.from_,h.lt,fun b=>(h.apart _ b).1 rfl⟩
 .refine⟨?_,?_,(h.ne _ a).1⟩
  .rcases a with rfl|a
   .exact h.wrt.from_
   exact(h.wrt.own.lt14 a).1
  rcases a with rfl|a
  .exact h.wrt.lt
  exact(h.wrt.own.lt14 a).2
 exact⟨(h.dsk.q a).1,(h.dsk.q a).2,fun b=>(h.apart _ b).2 a⟩
def Lgp.only(h:Lgp w N gl gw gd bv dv cs es k Q)(b:Only S w w')(c:∀j,S j->Q j):Lgp w' N gl gw gd bv dv cs es k Q :=
 ⟨h.from_,h.le,b.keep h.box fun a=>(h.apart _ (c _ a)).1 rfl,h.dsk.only b fun q d a=>(h.apart _ (c _ a)).2 d,h.wrt.only b fun j _ a=>.inl (c j a),h.apart,h.off⟩
def Lgp.later(h:Lgp w N gl gw gd bv dv cs es k Q)(a:Lz w w'):Lgp w' N gl gw gd bv dv cs es k Q:=h.only (S:=fun _=>False) (Only.later15 a) fun _ h=>h.elim
def Lgp.more(h:Lgp w N gl gw gd bv dv cs es k Q)(c:∀j,j<w.heap.size->Q' j->Q j):Lgp w N gl gw gd bv dv cs es k Q':=by
 refine⟨h.from_,h.le,h.box,h.dsk,h.wrt.fresh.less fun j b=>?_,fun j b=>?_,h.off⟩
 .rcases Cu j w.heap.size with a|a
  .exact .inl (b.imp_left (c j a))
  exact .inr a
 rcases Cu j w.heap.size with a|a
 .exact h.apart j (c j a b)
 refine⟨fun e=>?_,fun d=>?_⟩
 .have:=h.lt;omega
 have:=(h.dsk.q d).2;omega
def Lgp.lower{N':Nat}(h:Lgp w N gl gw gd bv dv cs es k Q)(a:N'<=N):Lgp w N' gl gw gd bv dv cs es k Q :=
 ⟨Ar a h.from_,h.le,h.box,h.dsk.base_le15 a,h.wrt.lower a,h.apart,h.off⟩
def Lgp.below(h:Lgp w N gl gw gd bv dv cs es k Q)(a:Only (LgS gl gw gd bv dv) w w'):Below N w w' :=
 a.toBelow (fun j b=>(h.at_ b).1) (Ar h.from_ (Nat.le_of_lt h.lt))
end
def zy0 {N:Nat}{bv dv:Value}{Q Q' S:Nat->Prop}(h:Lgp w N gl gw gd bv dv cs es k Q)(c:Only S w w')(f:∀j,S j->Q j)(d:∀j,Q' j->Q j\/w.heap.size<=j):Lgp w' N gl gw gd bv dv cs es k Q' :=
 ((h.more (Q':=fun j=>Q j\/Q' j) fun j a b=>b.elim id fun q=>(d j q).elim id fun e=>absurd a (by omega)).only c fun j a=>.inl (f j a)).more fun j _ b=>.inr b
def Lgx(w:World)(N gl:Nat)(cs:List ColB)(es:List EntB)(k:Nat)(Q T:Nat->Prop):Prop:=∃gw gd bv dv,Lgp w N gl gw gd bv dv cs es k Q/\T=LgS gl gw gd bv dv
def LpO(w:World)(N gl:Nat)(cs:List ColB)(Q T:Nat->Prop)(E:Nat)(es':List EntB)(k':Nat)(e:Ending)(w':World):Prop :=
 e=.returned (.int .i64 (E:Int))/\∃T',Lgx w' N gl cs es' k' Q T'/\Only T w w'/\∀j,T' j->T j\/w.heap.size<=j
section
variable{w w1 w2 w3:World}{N gl gw gd k:Nat}{bv bn dv dn xv:Value}{cs:List ColB}{es es':List EntB}{Q:Nat->Prop}
def zoY{B:Bs}{E:Nat}(h:Lgp w N gl gw gd bv dv cs es k Q)(u:∀j,Q j->j<w.heap.size)(f:Lz w w1)(v:Wr w2 N gw bn cs es' (fun j=>(Q j\/j=gl\/DskQ gd dv j)\/xv.ownBlock=some j))(c:Only (fun j=>j=gw\/bv.ownBlock=some j) w1 w2)(hp:Place w1 bv bn)(t:Dsk w3 N gd dn ((trE cs es).1++B) (trE cs (es.take k)).1.length 0)(d:Only (DskQ gd dv) w2 w3)(A:Plc w2 dv dn)(s:(trE cs es').1=(trE cs es).1++B)(y:k<=es'.length)(n:es'.take k=es.take k) :LpO w N gl cs Q (LgS gl gw gd bv dv) E es' k (.returned (.int .i64 (E:Int))) w3:=by
 have p:=h.later f;have r:=f.size;have C:=c.size;have z:=h.lt;have b:∀j,DskQ gd dn j->DskQ gd dv j\/w2.heap.size<=j:=fun j a=>a.elim (fun e=>.inl (.inl e)) fun e=>(A j e).imp_left .inr;have m:¬DskQ gd dn gl:=fun a=>(b _ a).elim h.off fun e=>by omega
 have g:Only (LgS gl gw gd bv dv) w w1:=Only.later15 f;have i:Only (LgS gl gw gd bv dv) w w2:=g.trans (c.mono fun j a=>.inr (.inl a));have l:Only (LgS gl gw gd bv dv) w w3:=i.trans (d.mono fun j a=>.inr (.inr a));refine⟨rfl,_,⟨gw,gd,bn,dn,⟨h.from_,y,?_,by rw[s,n];exact t,?_,fun j a=>⟨(h.apart j a).1,fun x=>?_⟩,m⟩,rfl⟩,l,fun j a=>?_⟩
 .exact d.keep (c.keep p.box fun a=>(p.ne _ a).2.1 rfl) h.off
 .refine(v.fresh.only d fun j _ a=>.inl (.inl (.inr (.inr a)))).less fun j a=>?_;rcases a with a|a|a
  .exact .inl (.inl (.inl a))
  .exact .inl (.inl (.inr (.inl a)))
  exact(b j a).imp_left fun h=>.inl (.inr (.inr h))
 .have:=u j a;exact(b j x).elim (h.apart j a).2 fun e=>by omega
 rcases a with a|(a|a)|a
 .exact .inl (.inl a)
 .exact .inl (.inr (.inl (.inl a)))
 .rcases hp with e|e
  .exact .inl (.inr (.inl (.inr (by rw[<-e];exact a))))
  exact .inr (Ar r (e _ a))
 exact(b j a).imp (fun h=>.inr (.inr h)) fun e=>Ar (Ar r C) e
def zvY(h:Lgp w N gl gw gd bv dv cs es k Q)(d:∀j,Q j->j<w.heap.size)(c:Only (DskQ gd dv) w w1)(i:Plc w dv dn) :Wr w1 N gw bv cs es (fun j=>Q j\/j=gl\/DskQ gd dn j)/\Lbx w1 gl gw gd k/\(∀j,Q j->j≠gl/\¬DskQ gd dn j)/\¬DskQ gd dn gl/\∀j,LgS gl gw gd bv dn j->LgS gl gw gd bv dv j\/w.heap.size<=j:=by
 have g:=h.lt;have b:∀j,DskQ gd dn j->DskQ gd dv j\/w.heap.size<=j:=fun j a=>a.elim (fun e=>.inl (.inl e)) fun e=>(i j e).imp_left .inr;refine⟨(h.wrt.fresh.only c fun j _ a=>.inl (.inr (.inr a))).less fun j a=>?_,c.keep h.box h.off,fun j a=>⟨(h.apart j a).1,fun f=>?_⟩,fun a=>(b _ a).elim h.off fun e=>by omega,fun j a=>?_⟩
 .rcases a with a|a|a
  .exact .inl (.inl a)
  .exact .inl (.inr (.inl a))
  exact(b j a).imp_left fun h=>.inr (.inr h)
 .have:=d j a;exact(b j f).elim (h.apart j a).2 fun e=>by omega
 rcases a with a|a|a
 .exact .inl (.inl a)
 .exact .inl (.inr (.inl a))
 exact(b j a).imp_left fun h=>.inr (.inr h)
end
/- -/
section
variable{w:World}{N gl gw gd k:Nat}{bv dv:Value}{cs:List ColB}{es:List EntB}{Q:Nat->Prop}
def zb2(h:Lbx w gl gw gd k):Calls prog 32 #[.pointer (some ⟨gl,0,none⟩)] w fun e w'=>e=.returned (.agg #[.pointer (some ⟨gw,0,none⟩),.pointer (some ⟨gd,0,none⟩),.int .i64 (k:Int)])/\Lz w w':=by
 obtain⟨c,i⟩:=za5 w (.cells #[.pointer none,.pointer none,.int .i64 0] 77);obtain⟨r,s,t⟩:=(h.later i).cells;have u:(w.alloc (.cells #[.pointer none,.pointer none,.int .i64 0] 77)).frozen? ⟨w.heap.size,0,none⟩=false:=At _ _ _ _ _ c;have v:(w.alloc (.cells #[.pointer none,.pointer none,.int .i64 0] 77)).frozen? ⟨w.heap.size,1,none⟩=false:=At _ _ _ _ _ c;have x:(w.alloc (.cells #[.pointer none,.pointer none,.int .i64 0] 77)).frozen? ⟨w.heap.size,2,none⟩=false:=At _ _ _ _ _ c;have j:=h_ c;have p:=h_ i;clear h c i;go_enter func32,ntmps32;go_wp2;obtain⟨g,d⟩:=za5 w (.cells #[.pointer (some ⟨gw,0,none⟩),.pointer (some ⟨gd,0,none⟩),.int .i64 (k:Int)] 77);obtain⟨w9,f⟩:=nm_ (w.alloc (.cells #[.pointer (some ⟨gw,0,none⟩),.pointer (some ⟨gd,0,none⟩),.int .i64 (k:Int)] 77));obtain⟨b,a⟩:=nm_ w.heap.size;rw[<-f]at g d;rw[<-a]at g;rw[<-f,<-a];have l:w9.cell? ⟨b,0,none⟩=some (.pointer (some ⟨gw,0,none⟩)):=Ag _ _ 0 _ _ _ g;have m:w9.cell? ⟨b,1,none⟩=some (.pointer (some ⟨gd,0,none⟩)):=Ag _ _ 1 _ _ _ g;have n:w9.cell? ⟨b,2,none⟩=some (.int .i64 (k:Int)):=Ag _ _ 2 _ _ _ g;refine bodyPost_ret (by simp[results,results32,go_sem,l,m,n];try rfl) rfl ?_;exact⟨rfl,by first|exact d|(rw[a];exact d)⟩
def zmW(h:Lgp w N gl gw gd bv dv cs es k Q):Calls prog 19 #[.pointer (some ⟨gl,0,none⟩)] w fun e w'=>e=.returned (.int .i64 (trE cs es).2.1)/\Lz w w':=by
 have f:=h_ h;have c:=h_ (zb2 h.box);obtain⟨x,b⟩:=nm_ ((trE cs es).2.1);rw[<-b];have g:=h_ b;clear h b;have i:∀u,(Instr.field 77 (.agg #[.pointer (some ⟨gw,0,none⟩),.pointer (some ⟨gd,0,none⟩),.int .i64 (k:Int)]) 0).run prog u=.ok (.pointer (some ⟨gw,0,none⟩)) u:=fun _=>by kernel_rfl
 go_enter func19,ntmps19;go_wp2_with fail;refine c.mono ?_;rintro e w1⟨rfl,a⟩;have W:=h_ (zwJ (f.later a).wrt);rw[<-g.o]at W;have d:=h_ a;clear a c;go_wp2_with fail;refine W.mono ?_;rintro e w2⟨rfl,rfl⟩;go_wp2;go_ret;exact⟨rfl,d.o⟩
def zcY(h:Lbx w gl gw gd k)(d:Wr w N gw bv cs es Q):Calls prog 22 #[.pointer (some ⟨gl,0,none⟩)] w fun e w'=>e=.returned (.int .i64 (es.length:Int))/\Lz w w':=by
 have g:=h_ d;have c:=h_ (zb2 h);obtain⟨x,b⟩:=nm_ es.length;rw[<-b];have i:=h_ b;clear h d b;have j:∀u,(Instr.field 77 (.agg #[.pointer (some ⟨gw,0,none⟩),.pointer (some ⟨gd,0,none⟩),.int .i64 (k:Int)]) 0).run prog u=.ok (.pointer (some ⟨gw,0,none⟩)) u:=fun _=>by kernel_rfl
 go_enter func22,ntmps22;go_wp2_with fail;refine c.mono ?_;rintro e w1⟨rfl,a⟩;have W:=h_ (zt1 (g.later a));rw[<-i.o]at W;have f:=h_ a;clear a c;go_wp2_with fail;refine W.mono ?_;rintro e w2⟨rfl,rfl⟩;go_wp2;go_ret;exact⟨rfl,f.o⟩
def zkB(h:Lgp w N gl gw gd bv dv cs es k Q):Calls prog 23 #[.pointer (some ⟨gl,0,none⟩)] w fun e w'=>e=.returned (.int .i64 (k:Int))/\Lz w w':=by
 have a:=h_ (zb2 h.box);clear h;have d:∀u,(Instr.field 77 (.agg #[.pointer (some ⟨gw,0,none⟩),.pointer (some ⟨gd,0,none⟩),.int .i64 (k:Int)]) 2).run prog u=.ok (.int .i64 (k:Int)) u:=fun _=>by kernel_rfl
 go_enter func23,ntmps23;go_wp2_with fail;refine a.mono ?_;rintro e w1⟨rfl,b⟩;have c:=h_ b;clear b a;go_wp2;go_ret;exact⟨rfl,c.o⟩
def zqL(h:Lgp w N gl gw gd bv dv cs es k Q):Calls prog 17 #[.pointer (some ⟨gl,0,none⟩)] w (RetB w (trE cs es).1):=by
 have g:=h_ h;have f:=h_ (zb2 h.box);obtain⟨l,c⟩:=nm_ ((trE cs es).1);rw[<-c];have j:=h_ c;clear h c;have m:∀u,(Instr.field 77 (.agg #[.pointer (some ⟨gw,0,none⟩),.pointer (some ⟨gd,0,none⟩),.int .i64 (k:Int)]) 1).run prog u=.ok (.pointer (some ⟨gd,0,none⟩)) u:=fun _=>by kernel_rfl
 go_enter func17,ntmps17;go_wp2_with fail;refine f.mono ?_;rintro e w1⟨rfl,a⟩;have W:=h_ (znN _ _ _ _ _ _ w1 (g.later a).dsk);rw[<-j.o]at W;have b:=h_ a;clear a f;go_wp2_with fail;refine W.mono ?_;rintro e w2⟨v,rfl,d,a⟩;obtain⟨n,r,p,rfl⟩:=d.lit13;have i:=h_ (Al (d.base b.size) (b.trans (a.mono b.size)));clear d a W;go_wp2;go_ret;exact⟨_,rfl,i.o⟩
def zk9(h:Lgp w N gl gw gd bv dv cs es k Q):Calls prog 21 #[.pointer (some ⟨gl,0,none⟩)] w fun e w'=>∃v,e=.returned v/\NewP w' w.heap.size v (trE cs es).2.2.1/\Lz w w':=by
 have i:=h_ h;have g:=h_ (zb2 h.box);have b:=h.wrt.trs.pso;obtain⟨l,d⟩:=nm_ ((trE cs es).2.2.1);rw[<-d];have j:=h_ d;clear h d b;have r:∀u,(Instr.field 77 (.agg #[.pointer (some ⟨gw,0,none⟩),.pointer (some ⟨gd,0,none⟩),.int .i64 (k:Int)]) 0).run prog u=.ok (.pointer (some ⟨gw,0,none⟩)) u:=fun _=>by kernel_rfl
 go_enter func21,ntmps21;go_wp2_with fail;refine g.mono ?_;rintro e w1⟨rfl,a⟩;have W:=h_ (zsZ (i.later a).wrt);rw[<-j.o]at W;have c:=h_ a;clear a g;go_wp2_with fail;refine W.mono ?_;rintro e w2⟨v,rfl,m,a⟩;have f:=(m.new (by rw[j.o];obtain⟨_,_,_,_,p⟩:=i.wrt.box;exact p.rd.small)).lower c.size;obtain⟨s,x,t,rfl⟩:=f.rd.lit12;have n:=h_ (Al f (c.trans (a.mono c.size)));clear m f a W;go_wp2;go_ret;exact⟨_,rfl,n.o⟩
end
def NlP(w:World)(cs:List ColB)(e:Ending)(w':World):Prop :=
 ∃v,e=.returned (.tuple #[v,.int .i64 (errS (colsL cs):Nat)])/\Lz w w' /\
  ((errS (colsL cs)≠0/\v=.pointer none)\/(errS (colsL cs)=0/\∃gl gw gd bv dv,v=.pointer (some ⟨gl,0,none⟩)/\∀Q:Nat->Prop,(∀j,Q j->j<w.heap.size)->Lgp w' w.heap.size gl gw gd bv dv cs [] 0 Q))
def zmX(v:Value)(cs:List ColB)(w:World)(C:RdC w v cs)(z:CS cs)(O:Tabs w):Calls prog 6 #[v] w (NlP w cs):=by
 obtain⟨ac,nc,cc,rfl⟩:=C.lit12;have t:=h_ (zwK (.slice ac nc cc) cs w C z O);unfold NwO at t;have V:=h_ z;obtain⟨x,I⟩:=nm_ (errS (colsL cs));rw[<-I]at t;have s:=h_ I;clear C z O I;go_enter func6,ntmps6;go_wp2_with fail;refine t.mono ?_;rintro e w1⟨wv,rfl,i,p⟩;have c:=h_ i;clear i t;rcases p with⟨L,rfl⟩|⟨rfl,gw,bv,rfl,p⟩
 .have q:((x:Int)!=0)=true:=by rw[Ao];omega
  have Y:=h_ L;clear L;go_wp2;go_ret2;unfold NlP;rw[<-s.o];exact⟨_,rfl,c.o,.inl ⟨Y.o,rfl⟩⟩
 have Z:=h_ p;have G:=TrS.nil V.o s.symm;have d:=h_ (zpT (p (fun _=>False) (fun j h=>h.elim)));have X:=h_ G;have n:=zcJ s.symm;rw[G.2]at d;dsimp only at d;obtain⟨H,A⟩:=nm_ (hdB (colsL cs));rw[<-A]at d n;have u:=h_ A;clear p G A;go_wp2_with fail;refine d.mono ?_;rintro e w2⟨yv,rfl,D,l⟩;have U:=D.rd (by omega);obtain⟨ay,ny,cy,rfl⟩:=D.lit13;have J:=h_ (zwB _ H w2 U (by omega));have f:=h_ l;clear D l U d n;go_wp2_with fail;refine J.mono ?_;rintro e w3⟨gd,dv,rfl,T,m⟩;have r:=h_ T;have g:=h_ m;clear T m J;go_wp2;go_ret2;obtain⟨N1,y⟩:=za5 w3 (.cells #[.pointer (some ⟨gw,0,none⟩),.pointer (some ⟨gd,0,none⟩),.int .i64 0] 79);have s1:=c.size;have s2:=f.size;have s3:=g.size;have a:=f.trans (g.mono s2);unfold NlP;rw[<-s.o];refine⟨_,rfl,(c.trans (a.mono s1)).trans (y.mono (by omega)),.inr ⟨rfl,w3.heap.size,gw,gd,bv,dv,rfl,fun Q M=>⟨by omega,Bg _,N1,?_,?_,fun j b=>?_,fun E=>?_⟩⟩⟩
 .rw[List.take_nil,X.2];dsimp only;rw[<-u.o];exact(r.later y).base_le15 (by omega)
 .refine(((Z.o Q M).fresh.later a).later y).less fun j b=>?_;rcases b with b|b|b
  .exact .inl b
  .exact .inr (by omega)
  exact .inr (by have:=(r.q b).1;omega)
 .have:=M j b;exact⟨by omega,fun E=>by have:=(r.q E).1;omega⟩
 have:=(r.q E).2;omega
def ze7(N gl gw gd:Nat)(bv dv lv:Value)(cs:List ColB)(es:List EntB)(ps:List PairB)(k:Nat)(Q:Nat->Prop)(w:World)(h:Lgp w N gl gw gd bv dv cs es k Q)(hQ:∀j,Q j->j<w.heap.size)(U:RdP w lv ps)(V:PSO ps)(hl:ps.length<=4000)(hT:Tabs w)(hF:Frs w)(m:(trE cs es).1.length+(actB cs es (0,ps)).length<=100000000) :Calls prog 8 #[.pointer (some ⟨gl,0,none⟩),lv] w (LpO w N gl cs Q (LgS gl gw gd bv dv) (actE cs es (0,ps)) (actS cs es (0,ps)) k):=by
 have M:=h_ h;have Y:=h_ (zb2 h.box);have O:=h_ hQ;have g:=h_ (Al U (Al V hl));have HT:=h_ hT;have HF:=h_ hF;have x:=h_ (ze1 (a:=(0,ps)) h.wrt.trs V);have L:=h_ (zpO cs (0,ps) h.le);have f:=h_ (show k<=(actS cs es (0,ps)).length from Ar h.le zD4.2);obtain⟨al,nl,cl,rfl⟩:=U.lit12;obtain⟨E,y⟩:=nm_ (actE cs es (0,ps));obtain⟨B,d⟩:=nm_ (actB cs es (0,ps));obtain⟨S,A⟩:=nm_ (actS cs es (0,ps));have G:=h_ (show E≠0->B=[]from fun h=>by rw[d];unfold actB;rw[Aa (by rw[<-y];exact h)]);have HE:=h_ y;have H:=h_ d;have HS:=h_ A;rw[<-d]at m x;rw[<-A]at x L f;rw[<-y,<-A];have r:=h_ m;clear h hQ U V hl hT hF y d A m;have aq:∀u,(Instr.field 77 (.agg #[.pointer (some ⟨gw,0,none⟩),.pointer (some ⟨gd,0,none⟩),.int .i64 (k:Int)]) 0).run prog u=.ok (.pointer (some ⟨gw,0,none⟩)) u:=fun _=>by kernel_rfl
 go_enter func8,ntmps8;go_wp2_with fail;refine Y.mono ?_;rintro e w1⟨rfl,i⟩;have s:=M.later i;have W:=h_ (zo6 N gw bv (.slice al nl cl) cs es ps _ w1 s.wrt (fun j b=>by
  rcases b with b|b|b
  .exact AE (O.o j b) i.size
  .rw[b];exact s.lt
  .exact(s.dsk.q b).2) (g.1.later i l_) g.2.1 g.2.2 (HT.later i) (HF.later i))
 rw[<-HE.o,<-H.o,<-HS.o]at W;have c:=h_ s;have p:=h_ i;clear s i Y;go_wp2_with fail;refine W.mono ?_;rintro e w2⟨xv,bn,rfl,X,hw,z,hp⟩;have v:=X.rd (by have:=r.o;omega);obtain⟨ax,nx,cx,rfl⟩:=X.lit13;have Z:=z.keep c.box fun b=>(c.ne _ b).2.1 rfl;have l:=c.dsk.only z fun q C b=>(c.ne _ b).2.2 C;have D:=h_ (zlH N gd dv _ _ 0 _ B w2 l v r.o);have g0:w2.cell? ⟨gl,1,none⟩=some (.pointer (some ⟨gd,0,none⟩)):=(show Lbx w2 gl gw gd k from Z).cells.2.1;have n:=h_ (Al hw (Al z hp));have J:=h_ l;clear X hw z hp v Z l W;by_cases T:E=0
 .subst T;go_wp2_with fail;refine D.mono ?_;rintro e w3⟨rfl,dn,hd,t,C⟩;have I:=h_ (Al hd (Al t C));clear hd t C D g0;go_wp2;go_ret;exact zoY M.o O.o p.o n.1 n.2.1 n.2.2 I.1 I.2.1 I.2.2 x.o f.o L.o
 have q:((E:Int)!=0)=true:=by rw[Ao];omega
 have HN:=h_ T;clear T D;go_wp2;go_ret;exact zoY M.o O.o p.o n.1 n.2.1 n.2.2 (by rw[G.o HN.o,AV];exact J.o) (Only.refl _ _) (Plc.refl _ _) x.o f.o L.o
def ztG(N gl gw gd:Nat)(bv dv:Value)(cs:List ColB)(es:List EntB)(qs:List PairB)(a:Int)(k:Nat)(Q:Nat->Prop)(w:World)(h:Lgp w N gl gw gd bv dv cs es k Q)(hQ:∀j,Q j->j<w.heap.size)(U:PSO qs)(ha:a≠0)(hT:Tabs w)(Z:Frs w)(i:(trE cs es).1.length+(actB cs es (a,qs)).length<=100000000) :Calls prog 10 #[.pointer (some ⟨gl,0,none⟩)] w (LpO w N gl cs Q (LgS gl gw gd bv dv) (actE cs es (a,qs)) (actS cs es (a,qs)) k):=by
 have M:=h_ h;have X:=h_ (zb2 h.box);have O:=h_ hQ;have p:=h_ (Al U ha);have HT:=h_ hT;have HF:=h_ Z;have x:=h_ (ze1 (a:=(a,qs)) h.wrt.trs U);have L:=h_ (zpO cs (a,qs) h.le);have f:=h_ (show k<=(actS cs es (a,qs)).length from Ar h.le zD4.2);obtain⟨E,y⟩:=nm_ (actE cs es (a,qs));obtain⟨B,d⟩:=nm_ (actB cs es (a,qs));obtain⟨S,A⟩:=nm_ (actS cs es (a,qs));have G:=h_ (show E≠0->B=[]from fun h=>by rw[d];unfold actB;rw[Aa (by rw[<-y];exact h)]);have HE:=h_ y;have H:=h_ d;have HS:=h_ A;rw[<-d]at i x;rw[<-A]at x L f;rw[<-y,<-A];have r:=h_ i;clear h hQ U ha hT Z y d A i;have al:∀u,(Instr.field 77 (.agg #[.pointer (some ⟨gw,0,none⟩),.pointer (some ⟨gd,0,none⟩),.int .i64 (k:Int)]) 0).run prog u=.ok (.pointer (some ⟨gw,0,none⟩)) u:=fun _=>by kernel_rfl
 go_enter func10,ntmps10;go_wp2_with fail;refine X.mono ?_;rintro e w1⟨rfl,m⟩;have s:=M.later m;have W:=h_ (zt0 N gw bv cs es qs _ w1 s.wrt (fun j b=>by
  rcases b with b|b|b
  .exact AE (O.o j b) m.size
  .rw[b];exact s.lt
  .exact(s.dsk.q b).2) p.1 a p.2 (HT.later m) (HF.later m))
 rw[<-HE.o,<-H.o,<-HS.o]at W;have c:=h_ s;have n:=h_ m;clear s m X;go_wp2_with fail;refine W.mono ?_;rintro e w2⟨xv,bn,rfl,V,hw,z,hp⟩;have v:=V.rd (by have:=r.o;omega);obtain⟨ax,nx,cx,rfl⟩:=V.lit13;have Y:=z.keep c.box fun b=>(c.ne _ b).2.1 rfl;have g:=c.dsk.only z fun q C b=>(c.ne _ b).2.2 C;have D:=h_ (zlH N gd dv _ _ 0 _ B w2 g v r.o);have g0:w2.cell? ⟨gl,1,none⟩=some (.pointer (some ⟨gd,0,none⟩)):=(show Lbx w2 gl gw gd k from Y).cells.2.1;have l:=h_ (Al hw (Al z hp));have J:=h_ g;clear V hw z hp v Y g W;by_cases T:E=0
 .subst T;go_wp2_with fail;refine D.mono ?_;rintro e w3⟨rfl,dn,hd,t,C⟩;have I:=h_ (Al hd (Al t C));clear hd t C D g0;go_wp2;go_ret;exact zoY M.o O.o n.o l.1 l.2.1 l.2.2 I.1 I.2.1 I.2.2 x.o f.o L.o
 have q:((E:Int)!=0)=true:=by rw[Ao];omega
 have HN:=h_ T;clear T D;go_wp2;go_ret;exact zoY M.o O.o n.o l.1 l.2.1 l.2.2 (by rw[G.o HN.o,AV];exact J.o) (Only.refl _ _) (Plc.refl _ _) x.o f.o L.o
def zkA(N gl gw gd:Nat)(bv dv:Value)(cs:List ColB)(es:List EntB)(k:Nat)(Q:Nat->Prop)(w:World)(h:Lgp w N gl gw gd bv dv cs es k Q)(D:∀j,Q j->j<w.heap.size) :Calls prog 12 #[.pointer (some ⟨gl,0,none⟩)] w (LpO w N gl cs Q (LgS gl gw gd bv dv) 0 es es.length):=by
 have H:=h_ h;have A:=h_ (zb2 h.box);have I:=h_ D;have X:=h_ (h.wrt.trs.few);obtain⟨m,hm⟩:=nm_ es.length;have C:=h_ hm;clear h D hm;have O:∀u,(Instr.field 77 (.agg #[.pointer (some ⟨gw,0,none⟩),.pointer (some ⟨gd,0,none⟩),.int .i64 (k:Int)]) 1).run prog u=.ok (.pointer (some ⟨gd,0,none⟩)) u:=fun _=>by kernel_rfl
 go_enter func12,ntmps12;go_wp2_with fail;refine A.mono ?_;rintro e w1⟨rfl,f⟩;have x:=H.later f;have W:=h_ (zCJ _ _ _ _ _ _ w1 x.dsk);have g:=h_ x;have b:=h_ f;clear x f A;go_wp2_with fail;refine W.mono ?_;rintro e w2⟨rfl,dn,E,y,n⟩;have i:=h_ (zvY g.o (fun j a=>AE (I.o j a) b.size) y n);have s:=h_ y;have r:=h_ E;clear E n y W;have v:=h_ (zcY i.2.1 i.1);rw[<-C.o]at v;go_wp2_with fail;refine v.mono ?_;rintro e w3⟨rfl,f⟩;have l:=i.2.1.later f;have Z:=l.free 2;have Y:=l.cells.2.2;have t:=h_ l;have c:=h_ f;clear l f v;go_wp2;go_ret;obtain⟨T,x2,U,G,V⟩:=i.o;have z:=block_setCell (k:=2) t.o (.int .i64 (m:Int));have d:Only (fun j=>j=gl) w3 (w3.setCell ⟨gl,2,none⟩ (.int .i64 (m:Int))):=(Only.refl (fun j=>j=gl) _).setCell (p:=⟨gl,2,none⟩) rfl _;refine⟨rfl,_,⟨gw,gd,bv,dn,⟨g.from_,l_,?_,?_,(T.later c.o).only d fun j _ a=>.inr (.inl a),U,G⟩,rfl⟩,?_,fun j a=>(V j a).imp_right fun e=>Ar b.size e⟩
 .rw[<-C.o];unfold Lbx;simpa using z
 .rw[Am l_];exact(r.later c.o).only d fun q n a=>G (by rw[<-a];exact n)
 have J:Only (LgS gl gw gd bv dv) w w1:=Only.later15 b.o;have L:Only (LgS gl gw gd bv dv) w w2:=J.trans (s.mono fun j a=>.inr (.inr a));have M:Only (LgS gl gw gd bv dv) w w3:=L.trans (Only.later15 c.o);exact M.trans (d.mono fun j a=>.inl a)
end
section
variable {B:Bs} {cs:List ColB} {es:List EntB} {C M k l:Nat} {i w9:World}
def zE3(w:World)(ts:List TriB)(h:∀t∈ts,RdE w t.1 t.2.1)(f:ts.length<=100){b:Nat}(d:w.heap[b]?=some (.cells (ts.map triV).flatten.toArray 69 (0,0))) :RdP w (.slice (some ⟨b,0,none⟩) ts.length ts.length) (ts.map (·.2)):=by
 have c:(ts.map triV).flatten.length=ts.length*2:=by
  rw[zbN (n:=2) _ (fun x a=>by obtain⟨t,_,rfl⟩:=Au.1 a;rfl),Ad]
 have e:OwnG pairE w b (.slice (some ⟨b,0,none⟩) ts.length ts.length) (ts.map triV):=by
  refine⟨⟨by rw[c,Ad];rfl,.inr ⟨b,ts.length,(ts.map triV).flatten.toArray,by rw[Ad],l_,d,?_⟩⟩,fun x a=>?_,fun x a u i=>?_⟩
  .refine⟨by rw[Ad];exact l_,Ar f (by decide),by rw[Br,c];rfl,?_⟩;rw[Ad];exact Am (by show(ts.map triV).flatten.length<=ts.length*2;rw[c];exact l_)
  .obtain⟨t,_,rfl⟩:=Au.1 a;rfl
  obtain⟨t,g,rfl⟩:=Au.1 a;exact zcP (h t g) u i
 exact⟨ts,rfl,e.rd (by rw[Ad];omega),h⟩
/- -/
def zGR{b:Bs}:(trD (b.take (trD b).2.2.2.1)).2.2.2.2=0↔4<(trD b).2.2.2.1:=by
 refine⟨fun h=>?_,fun h=>?_⟩
 .obtain⟨_,_,_,g,_⟩:=zoH h;have e:=congrArg List.length g;rw[Ae,zbJ,Aq]at e;have:=zb5 0 (wrS (colsL (trD (b.take (trD b).2.2.2.1)).1));omega
 obtain⟨cs,es,c,a,d,f,_⟩:=zoI h;rw[f,ze6 c a d]
def zoN(v:Value)(b:Bs)(w:World)(h:Rd w v b)(aA:Tabs w)(hF:Frs w):Calls prog 41 #[v] w (RvO w b):=by
 obtain⟨N1,N2⟩:=za5 w (.cells #[.slice none 0 0,.slice none 0 0] 55);obtain⟨s,ag⟩:=nm_ (w.alloc (.cells #[.slice none 0 0,.slice none 0 0] 55));rw[<-ag]at N1 N2;obtain⟨O,af⟩:=nm_ w.heap.size;rw[<-af]at N1;have aw:=h_ (show Tbox s O (.slice none 0 0) (.slice none 0 0)from N1);have d:=h_ N2;have aN:=h_ ag;have z:=h_ af;have aM:=h_ (h.later N2 l_);have am:=h_ (fun Q(hz:Lz w Q)=>aA.later hz);have aK:=h_ (fun Q(hz:Lz w Q)=>hF.later hz);have DC:=h_ (ze5 v b s aM.o (am.o _ d.o) (aK.o _ d.o));obtain⟨ao,cap,rfl,_⟩:=id h.shape;have l:=h_ aw.lt;unfold zmL at DC;unfold RvO;obtain⟨p,hp⟩:=nm_ ((trD b).2.2.2.1);obtain⟨x,hx⟩:=nm_ ((trD b).2.2.2.2);have A1:=fun h=>zA1 (b:=b) h;have A2:=fun h h4=>zvM (b:=b) h h4;have A3:=fun h4=>zvL (b:=b) h4;have A4:=fun h=>(zFQ (b:=b) h).2.2;rw[<-hp,<-hx]at DC A1 A2 A4;rw[<-hp]at A3;obtain⟨cs,aB⟩:=nm_ ((trD b).1);obtain⟨es,aC⟩:=nm_ ((trD b).2.1);rw[<-aB,<-aC]at DC A1;by_cases h0:x=0
 .have E:=A1 h0;rw[E];subst h0;clear N1 N2 ag af h aA hF A1 A2 A3 A4 E hp hx aB aC;go_enter func41,ntmps41;go_wp2_with fail;rw[<-aN.o,<-z.o];refine DC.mono ?_;rintro e T⟨tv,rfl,S,hC,k⟩;obtain⟨sv,ev,rfl,hR,hZ⟩:=S T (Only.refl _ _);obtain⟨Y,ne,ce,rfl⟩:=hZ.lit;obtain⟨X,nc,Z,rfl⟩:=hR.lit12;obtain⟨M1,M2⟩:=za5 T (.cells #[.slice X nc Z,.slice Y ne ce] 55);have HT:=h_ S;have HC:=h_ hC;have t:=h_ k;have m:=h_ ((aw.later k).later M2);obtain⟨r0,r1⟩:=m.cells;have f0:=m.free 0;have f1:=m.free 1;obtain⟨c0,c1⟩:=(show Tbox (T.alloc (.cells #[.slice X nc Z,.slice Y ne ce] 55)) T.heap.size (.slice X nc Z) (.slice Y ne ce)from M1).cells;have a8:=h_ M2;clear S hR hZ hC k DC M1 M2;go_wp2;go_region
  all_goals(try clear c0 c1)
  go_wp2;obtain⟨w9,f⟩:=nm_ ((((T.alloc (.cells #[.slice X nc Z,.slice Y ne ce] 55)).setCell ⟨O,0,none⟩ (.slice X nc Z)).setCell ⟨O,1,none⟩ (.slice Y ne ce)).drew);rw[<-f];obtain⟨e0,e1,L,J⟩:=zmV d.o z.o l.o t.o a8.o HT.o (.inl rfl) m.o (.inr f);refine bodyPost_ret (by simp[results,results41,go_sem,e0,e1];try rfl) rfl ?_;exact⟨_,rfl,L,HC.o,J⟩
 have q0:((x:Int)==0)=false:=by rw[As];omega
 have aZ:=A4 h0;obtain⟨pv,bf,ad⟩:=h.upto p aZ;have ar:(b.take p).length=p:=by rw[Aq];omega
 obtain⟨pa,pc,rfl,_⟩:=(ad w h).shape;rw[ar]at bf ad;have a9:=h_ ad;have TN:=zGR (b:=b);rw[<-hp]at TN;obtain⟨y,hy⟩:=nm_ ((trD (b.take p)).2.2.2.2);rw[<-hy]at TN;obtain⟨q,hq⟩:=nm_ ((trD (b.take p)).2.2.2.1);have aH:=h_ (fun h:y≠0=>A2 h0 (Nat.le_of_not_lt fun h4=>h (TN.2 h4)));have aI:=h_ (fun h:y=0=>A3 (Nat.not_le_of_lt (TN.1 h)));have HY:=h_ (Al hy hq);generalize rvD b=D at aH aI ⊢;obtain⟨n0,aR,aU,x0⟩:=D;dsimp only;clear N1 N2 ag af h aA hF A1 A2 A3 A4 hp hx aB aC h0 aZ ad ar TN hy hq;go_enter func41,ntmps41;go_wp2_with fail;rw[<-aN.o,<-z.o];refine DC.mono ?_;rintro e T⟨tv,rfl,S,hC,k⟩;obtain⟨sv,ev,rfl,hR,hZ⟩:=S T (Only.refl _ _);obtain⟨Y,ne,ce,rfl⟩:=hZ.lit;obtain⟨X,nc,Z,rfl⟩:=hR.lit12;obtain⟨M1,M2⟩:=za5 T (.cells #[.slice X nc Z,.slice Y ne ce] 55);obtain⟨w2,ah⟩:=nm_ (T.alloc (.cells #[.slice X nc Z,.slice Y ne ce] 55));obtain⟨a,r⟩:=nm_ T.heap.size;rw[<-ah,<-r]at M1;rw[<-ah]at M2;have t:=h_ k;have g:=h_ (k.trans (M2.mono k.size));have m:=h_ ((aw.later k).later M2);have n:=h_ (show Tbox w2 a (.slice X nc Z) (.slice Y ne ce)from M1);have U:=h_ (ze5 _ (b.take p) w2 (a9.o w2 (aM.later g.o l_)) (am.o _ (d.trans (g.mono d.size))) (aK.o _ (d.trans (g.mono d.size))));have ba:=h_ ah;have V:=h_ r;have al:=h_ (show a<w2.heap.size from n.lt);obtain⟨t0,t1⟩:=n.cells;have g0:=n.free 0;have g1:=n.free 1;clear S hR hZ hC k DC M1 M2 ah r;unfold zmL at U;rw[<-HY.1,<-HY.2]at U;go_wp2_with fail;rw[<-ba.o,<-V.o];go_wp2_with fail;refine U.mono ?_;rintro e w3⟨tv,rfl,S,hC,k⟩;obtain⟨sv,ev,rfl,hR,hZ⟩:=S w3 (Only.refl _ _);obtain⟨G,N,I,rfl⟩:=hZ.lit;obtain⟨C,M,H,rfl⟩:=hR.lit12;have HT:=h_ S;have HC:=h_ hC;have aJ:=h_ k;have u:=h_ (m.later k);have A:=h_ (n.later k);obtain⟨r0,r1⟩:=A.cells;have k0:=A.free 0;have k1:=A.free 1;clear t0 t1 g0 g1 S hC k hR hZ U n;by_cases ai:y=0
 .obtain⟨rfl,rfl,rfl,rfl⟩:n0=p/\aR=_/\aU=_/\x0=0:=by simpa using aI.o ai
  subst ai;go_wp2;obtain⟨w4,c⟩:=nm_ ((w3.setCell ⟨a,0,none⟩ (.slice C M H)).setCell ⟨a,1,none⟩ (.slice G N I));rw[<-c];have aY:=l.o;have a0:=t.size;have aj:=g.size;have r:=V.o;have aX:=al.o;have hO:Only (fun j=>j=a) w3 w4:=by rw[c];exact((Only.refl (fun j=>j=a) _).setCell (p:=⟨a,0,none⟩) rfl _).setCell (p:=⟨a,1,none⟩) rfl _
  have az:Tbox w4 a (.slice C M H) (.slice G N I):=by rw[c];exact A.both _ _
  have i:Tbox w4 O (.slice none 0 0) (.slice none 0 0):=hO.keep u.o (by omega);have ab:Lz s w4:=by rw[c];exact((g.trans (aJ.mono aj)).setCell (p:=⟨a,0,none⟩) (by show s.heap.size<=a;omega) _).setCell (p:=⟨a,1,none⟩) (by show s.heap.size<=a;omega) _
  have aL:=h_ (fun Q(hz:Only (fun j=>j<s.heap.size) w4 Q)=>HT.o Q ((hO.mono fun j h=>by omega).trans (hz.mono fun j h=>by omega)));obtain⟨c0,c1⟩:=az.cells;obtain⟨d0,d1⟩:=i.cells;have f0:=i.free 0;have f1:=i.free 1;have av:=h_ ab;have ax:=h_ i;clear hO az i ab c r0 r1 k0 k1 aY a0 aj r aX;go_region
  all_goals(try clear c0 c1)
  go_wp2;obtain⟨w9,f⟩:=nm_ (((w4.setCell ⟨O,0,none⟩ (.slice C M H)).setCell ⟨O,1,none⟩ (.slice G N I)).drew);rw[<-f];obtain⟨e0,e1,L,J⟩:=zmV d.o z.o l.o av.o (Ac _ _) aL.o (.inl rfl) ax.o (.inr f);refine bodyPost_ret (by simp[results,results41,go_sem,e0,e1];try rfl) rfl ?_;exact⟨_,rfl,L,HC.o,J⟩
 obtain⟨rfl,rfl,rfl,rfl⟩:n0=0/\aR=[]/\aU=[]/\x0=x:=by simpa using aH.o ai
 have qy:((y:Int)!=0)=true:=by rw[Ao];omega
 clear ai;have be:O≠a:=by have:=l.o;have:=t.size;have:=V.o;omega
 have bx:a≠O:=be.symm;obtain⟨d0,d1⟩:=u.cells;have f0:=u.free 0;have f1:=u.free 1;go_wp2;obtain⟨w4,c⟩:=nm_ ((w3.setCell ⟨a,0,none⟩ (.slice C M H)).setCell ⟨a,1,none⟩ (.slice G N I));rw[<-c];have aY:=l.o;have a0:=t.size;have aj:=g.size;have r:=V.o;have aX:=al.o;have hO:Only (fun j=>j=a) w3 w4:=by rw[c];exact((Only.refl (fun j=>j=a) _).setCell (p:=⟨a,0,none⟩) rfl _).setCell (p:=⟨a,1,none⟩) rfl _
 have az:Tbox w4 a (.slice C M H) (.slice G N I):=by rw[c];exact A.both _ _
 have i:Tbox w4 O (.slice none 0 0) (.slice none 0 0):=hO.keep u.o (by omega);have ab:Lz s w4:=by rw[c];exact((g.trans (aJ.mono aj)).setCell (p:=⟨a,0,none⟩) (by show s.heap.size<=a;omega) _).setCell (p:=⟨a,1,none⟩) (by show s.heap.size<=a;omega) _
 have aL:=h_ (fun Q(hz:Only (fun j=>j<s.heap.size) w4 Q)=>HT.o Q ((hO.mono fun j h=>by omega).trans (hz.mono fun j h=>by omega)));have av:=h_ ab;have ax:=h_ i;obtain⟨w9,f⟩:=nm_ (((w4.setCell ⟨O,0,none⟩ (.slice none 0 0)).setCell ⟨O,1,none⟩ (.slice none 0 0)));rw[<-f];obtain⟨e0,e1,L,J⟩:=zmV (w9:=w9) d.o z.o l.o av.o (Ac _ _) (fun Q _=>zA0 Q) (.inl rfl) ax.o (.inl f);refine bodyPost_ret (by simp[results,results41,go_sem,e0,e1];try rfl) rfl ?_;exact⟨_,rfl,L,fun _ h=>absurd h (by simp),J⟩
/- -/
def rvB(cs:List ColB)(es:List EntB)(k:Nat)(kp:Int)(j:Bs):Bs:=(trE cs es).1.take ((trE cs (es.take k)).1.length+kp.toNat)++j
def rvR(cs:List ColB)(es:List EntB)(k:Nat):Nat:=(trE cs es).1.length-(trE cs (es.take k)).1.length
structure Left(cs:List ColB)(B:Bs)(es':List EntB):Prop where
 trs:TrS cs es'
 rv:rvD B=((trE cs es').1.length,cs,es',0)
 take:B.take (trE cs es').1.length=(trE cs es').1
 le:(trE cs es').1.length<=B.length
def Left.dec{a:List EntB}(h:Left cs B a):(trD (trE cs a).1).1=cs/\(trD (trE cs a).1).2.1=a/\(trD (trE cs a).1).2.2.2.2=0 :=
 ⟨h.trs.back.1,h.trs.back.2.1,h.trs.back.2.2.2⟩
def zBU(h:TrS cs es)(k:Nat)(b:Int)(j:Bs):∃a,Left cs (rvB cs es k b j) a/\(es.take k).length<=a.length/\a.take (es.take k).length=es.take k/\(trE cs (es.take k)).1.length<=(trE cs a).1.length:=by
 obtain⟨a,c,d,e,f,g,i,l⟩:=zIH (zcX h k).1 (zoG h k b.toNat j);exact⟨a,⟨c,d,e,f⟩,g,i,l⟩
def CpO(w:World)(N gl:Nat)(cs:List ColB)(es es':List EntB)(k:Nat)(Q T:Nat->Prop)(E:Nat)(e:Ending)(w':World):Prop :=
 e=.returned (.int .i64 (E:Int))/\∃T',Only T w w'/\(∀j,T' j->T j\/w.heap.size<=j)/\((E≠0/\Lgx w' N gl cs es k Q T')\/(E=0/\Lgx w' N gl cs es' es'.length Q T'))
def zHQ {m f r:World} {a x g:Nat}{w v:Value}{n:List EntB}(A:Lbx i a x C k)(c:Lz i m)(J:i.heap.size<=M)(D:M<=m.heap.size)(z:Dsk m M g v B B.length 0)(s:f=m.setCell ⟨a,1,none⟩ (.pointer (some ⟨g,0,none⟩)))(d:Lz f r)(E:Wr r f.heap.size l w cs n fun j=>j<f.heap.size)(y:w9=r.setCell ⟨a,0,none⟩ (.pointer (some ⟨l,0,none⟩))) :Lbx w9 a l g k/\Wr w9 f.heap.size l w cs n (fun j=>j<f.heap.size)/\Dsk w9 M g v B B.length 0/\Only (fun j=>j=a) i w9:=by
 have G:a<i.heap.size:=(Aj.1 A).1;have N:=c.size;have I:f.heap.size=m.heap.size:=by rw[s];simp[World.setCell]
 have h:Only (fun j=>j=a) m f:=by rw[s];exact(Only.refl (fun j=>j=a) _).setCell (p:=⟨a,1,none⟩) rfl _
 have b:Only (fun j=>j=a) r w9:=by rw[y];exact(Only.refl (fun j=>j=a) _).setCell (p:=⟨a,0,none⟩) rfl _
 have t:Lbx f a x g k:=by
  have:=block_setCell (k:=1) (A.later c) (.pointer (some ⟨g,0,none⟩));rw[s];unfold Lbx;simpa using this
 have u:Lbx w9 a l g k:=by
  have:=block_setCell (k:=0) (t.later d) (.pointer (some ⟨l,0,none⟩));rw[y];unfold Lbx;simpa using this
 have nq:∀q,DskQ g v q->¬q=a:=fun q H e=>by have:=(z.q H).1;omega
 refine⟨u,E.only b fun j _ L=>by omega,((z.only h nq).later d).only b nq,?_⟩;exact((((Only.refl (fun j=>j=a) i).below c l_).trans h).below d (by omega)).trans b
def zHR {w L H g:World} {N d A v P m:Nat}{z u I y:Value} {c:List EntB}{Q:Nat->Prop}(h:Lgp w N d A v z u cs es k Q)(J:∀j,Q j->j<w.heap.size)(t:Lz w L)(r:Only (DskQ v u) L H)(Y:H.heap.size<=M)(O:M<=P)(X:Lbx w9 d C l k)(E:Wr w9 P C I cs c fun j=>j<P)(x:Dsk w9 M l y (trE cs c).1 (trE cs c).1.length 0)(D:∀q,DskQ l y q->q<P)(T:Only (fun j=>j=d) H w9)(b:Lz w9 i)(hm:m=c.length)(n:g=i.setCell ⟨d,2,none⟩ (.int .i64 (m:Int))):CpO w N d cs es c k Q (LgS d A v z u) 0 (.returned (.int .i64 0)) g:=by
 have U:=h.lt;have S:=h.from_;have Z:=t.size;have s2:=r.size;have f:Only (fun j=>j=d) i g:=by rw[n];exact(Only.refl (fun j=>j=d) _).setCell (p:=⟨d,2,none⟩) rfl _
 have nq:∀q,DskQ l y q->¬q=d:=fun q V e=>by have:=(x.q V).1;omega
 have s:Only (LgS d A v z u) w g:=(((Only.later15 t).trans (r.mono fun j a=>.inr (.inr a))).trans ((T.below b l_).mono fun j a=>.inl a)).trans (f.mono fun j a=>.inl a);refine⟨rfl,_,s,fun j a=>?_,.inr ⟨rfl,C,l,I,y,⟨S,l_,?_,?_,?_,fun j a=>⟨(h.apart j a).1,fun G=>?_⟩,fun G=>nq _ G rfl⟩,rfl⟩⟩
 .rcases a with a|(a|a)|a
  .exact .inl (.inl a)
  .exact .inr (by rw[a];have:=E.from_;omega)
  .exact .inr (by have:=(E.own.lt14 a).1;omega)
  exact .inr (by have:=(x.q a).1;omega)
 .have:=block_setCell (k:=2) (X.later b) (.int .i64 (m:Int));rw[n,<-hm];unfold Lbx;simpa using this
 .rw[Am l_];exact((x.later b).only f nq).base_le15 (by omega)
 .refine(((E.later b).only f fun j _ a=>by omega).less fun j a=>?_).lower (by omega);rcases a with a|a|a
  .have:=J j a;omega
  .omega
  exact D j a
 have:=J j a;have:=(x.q G).1;omega
def zeX(N i gw S:Nat)(bv dv jv:Value)(cs:List ColB)(es H:List EntB)(k:Nat)(a:Int)(j:Bs)(Q:Nat->Prop)(w:World)(h:Lgp w N i gw S bv dv cs es k Q)(hQ:∀j,Q j->j<w.heap.size)(v:OffB w jv j (DskQ S dv))(hk:-9223372036854775808<=a/\a<=9223372036854775807)(aK:crE (rvR cs es k) a j.length=0->Left cs (rvB cs es k a j) H)(hT:∀wz,Below N w wz->Tabs wz/\Frs wz) :Calls prog 15 #[.pointer (some ⟨i,0,none⟩),.int .i64 a,jv] w (CpO w N i cs es H k Q (LgS i gw S bv dv) (crE (rvR cs es k) a j.length)):=by
 have HL:=h_ h;have HH:=h_ (zb2 h.box);have HQ:=h_ hQ;have HJ:=h_ v;have HK:=h_ hk;have HT:=h_ hT;obtain⟨aj,cj,rfl,_⟩:=v.1.shape;have C0:=h_ (show crE (rvR cs es k) a j.length=0->crL (trE cs es).1 (trE cs (es.take k)).1.length a j=rvB cs es k a j from fun h=>Ab h);have C1:=h_ (show crE (rvR cs es k) a j.length≠0->crL (trE cs es).1 (trE cs (es.take k)).1.length a j=(trE cs es).1/\crS (trE cs es).1 (trE cs (es.take k)).1.length a j=(trE cs (es.take k)).1.length/\crC (trE cs es).1 (trE cs (es.take k)).1.length a j 0=0 from fun h=>⟨Aa h,Aa h,Aa h⟩);have CR:=h_ (fun w1(h1:Lgp w1 N i gw S bv dv cs es k Q)(hb:Lz w w1)=>zyB N S dv _ _ 0 a (.slice aj j.length cj) j w1 h1.dsk (v.later hb) hk (by decide));have Y:=h_ aK;obtain⟨B,hB⟩:=nm_ (rvB cs es k a j);obtain⟨E,hE⟩:=nm_ (crE (rvR cs es k) a j.length);rw[<-hB,<-hE]at C0 Y;rw[<-hE]at C1;rw[<-hE];have a2:=h_ (show crE ((trE cs es).1.length-(trE cs (es.take k)).1.length) a j.length=E from hE.symm);clear h hQ v hk aK hT hB hE;have cn:∀u,(Instr.field 77 (.agg #[.pointer (some ⟨gw,0,none⟩),.pointer (some ⟨S,0,none⟩),.int .i64 (k:Int)]) 1).run prog u=.ok (.pointer (some ⟨S,0,none⟩)) u:=fun _=>by kernel_rfl
 go_enter func15,ntmps15;go_wp2_with fail;refine HH.mono ?_;rintro e w1⟨rfl,I⟩;have h1:=HL.later I;have C:=h_ (CR.o w1 h1 I);rw[a2.o]at C;have n:=h_ h1;have b:=h_ I;clear h1 I HH CR;go_wp2_with fail;refine C.mono ?_;rintro e w2⟨rfl,dn,U,hO,hq⟩;have r:=h_ hO;have HP:=h_ (zvY n.o (fun j v=>AE (HQ.o j v) b.size) hO hq);have az:=h_ U;clear U hO hq C;by_cases h0:E=0
 .subst h0;have HE:=h_ (Y.o rfl);have J:=az.o;rw[C0.o rfl]at J;have BY:=h_ (znN _ _ _ _ _ _ w2 J);have G:=h_ J.small;obtain⟨x1,x2,x3,x4,x5⟩:=HP.o;have g0:=x2.cells.2.1;have af:=h_ x2;clear J x1 x2 x3 x4 x5 Y C0 C1;go_wp2_with fail;refine BY.mono ?_;rintro e w3⟨lv,rfl,ho,al⟩;have ak:N<=w.heap.size:=Ar HL.from_ (Nat.le_of_lt HL.lt);have aP:=b.size;have aQ:=r.size;have T:Below N w w2:=(b.mono ak).trans (n.dsk.below r.o);have d:Below N w w3:=T.trans (al.mono (by omega));have z:=ho.rd (by have:=G.o;omega);have RV:=h_ (zoN lv B w3 z (HT.o _ d).1 (HT.o _ d).2);unfold RvO at RV;rw[HE.rv]at RV;obtain⟨D,hD⟩:=nm_ ((trE cs H).1);have b1:=h_ HE.o;obtain⟨t1,t2,t3⟩:=HE.dec;have L:=HE.le;have ap:=HE.take;rw[<-hD]at RV t1 t2 t3 L ap;obtain⟨pv,bj,x⟩:=z.upto D.length L;rw[ap]at x;obtain⟨ab,cb,rfl,_⟩:=z.shape;obtain⟨pa,pc,rfl,_⟩:=(x w3 z).shape;have aI:D.length<=100000000:=Ar L G.o;obtain⟨p,hp⟩:=nm_ D.length;rw[<-hp]at RV bj x;have b3:=h_ hp;have a5:=h_ hD;have aa:=h_ (Al t1 (Al t2 t3));have aB:=h_ aI;have a6:=h_ ho;have A:=h_ al;have bD:=h_ d;have aD:=h_ x;have HZ:=h_ (Al ak (Al aP aQ));clear ho al T d z x hp hD t1 t2 t3 L ap aI ak aP aQ BY g0 HE;go_wp2_with fail;refine RV.mono ?_;rintro e w4⟨tv,rfl,hT,hC,am⟩;obtain⟨sv,ev,rfl,hR,hZ⟩:=hT;obtain⟨ae,ne,ce,rfl⟩:=hZ.lit;obtain⟨ac,nc,cc,rfl⟩:=hR.lit12;obtain⟨M1,M2⟩:=za5 w4 (.cells #[.slice ac nc cc,.slice ae ne ce] 55);have g:=h_ (am.trans (M2.mono am.size));clear RV hC am hR hZ M1 M2;go_wp2_with fail;obtain⟨w5,aO⟩:=nm_ (w4.alloc (.cells #[.slice ac nc cc,.slice ae ne ce] 55));rw[<-aO]at g ⊢;have Z:=h_ (a6.later g.o l_);have DN:=h_ (zwB _ D w5 (aD.o w5 (Z.rd (by have:=G.o;omega))) aB.o);clear aO;refine DN.mono ?_;rintro e w6⟨gx,vx,rfl,U,an⟩;have aR:=A.size;have bk:=g.size;have t:Lz w2 w6:=(A.trans (g.mono aR)).trans (an.mono (by omega));have ag:=h_ (af.later t);have f1:=ag.free 1;have c1:=ag.cells.2.1;have l:=h_ t;have aA:=h_ U;have X:=h_ an;clear U an t DN;go_wp2_with fail;obtain⟨V,O⟩:=nm_ (w6.setCell ⟨i,1,none⟩ (.pointer (some ⟨gx,0,none⟩)));rw[<-O];have bg:i<w2.heap.size:=(Aj.1 af.o).1;have s:Only (fun j=>j=i) w6 V:=by rw[O];exact(Only.refl (fun j=>j=i) _).setCell (p:=⟨i,1,none⟩) rfl _
  have aL:Own V w2.heap.size (.slice ab B.length cb) B:=(Z.later X.o l_).stay s fun q hq e=>by
   have:=(Z.lt14 hq).1;omega
  have f:Below N w V:=by
   have bf:=HL.from_;have cp:=l.size;have hz:=HZ.o;have b6:Below N w w6:=(((b.mono hz.1).trans (n.dsk.below r.o))).trans (l.mono (by omega));exact b6.trans (s.toBelow (fun j v=>by omega) (by omega))
  have OP:=h_ (zpS _ D V (aD.o V (aL.rd (by have:=G.o;omega))) (by have:=aB.o;omega) (HT.o _ f).1 (HT.o _ f).2);unfold OpN at OP;rw[aa.1,aa.2.1,aa.2.2]at OP;obtain⟨y,hy⟩:=nm_ ((trD D).2.2.2.1);rw[<-hy]at OP;have ad:=h_ O;have bE:=h_ f;clear O bg s aL f hy aR bk f1 c1;refine OP.mono ?_;rintro e w8⟨ov,rfl,ao,hw⟩;rcases hw with⟨h0,_⟩|⟨_,gy,bx,rfl,hw⟩
  .exact absurd rfl h0
  have ar:Lbx w8 i gw gx k:=by
   have:=block_setCell (k:=1) ag.o (.pointer (some ⟨gx,0,none⟩));rw[<-ad.o]at this;exact(show Lbx V i gw gx k from by unfold Lbx;simpa using this).later ao
  have f0:=ar.free 0;have c0:=ar.cells.1;have a3:=h_ ao;have a8:=h_ hw;clear ao hw ar OP;go_wp2_with fail;obtain⟨w9,aq⟩:=nm_ (w8.setCell ⟨i,0,none⟩ (.pointer (some ⟨gy,0,none⟩)));rw[<-aq];have aM:=aA.o;obtain⟨z1,z2,z3,z4⟩:=zHQ af.o l.o (M:=w5.heap.size) (Ar A.size g.size) X.size aM ad.o a3.o a8.o aq;have MN:=h_ (zcY z1 z2);obtain⟨m,hm⟩:=nm_ H.length;rw[<-hm]at MN;have ah:=h_ z1;have a9:=h_ z2;have a4:=h_ z3;have a7:=h_ z4;have HM:=h_ hm;clear aq aM z1 z2 z3 z4 hm f0 c0;refine MN.mono ?_;rintro e cr⟨rfl,c⟩;have f2:=(ah.later c).free 2;have c2:=(ah.later c).cells.2.2;have ay:=h_ c;clear c MN;go_wp2;go_ret;have aN:=a4.o;rw[a5.o]at aN;have e7:V.heap.size=w6.heap.size:=by rw[ad.o];simp[World.setCell]
  exact zHR HL.o HQ.o b.o r.o (Ar A.size g.size) (P:=V.heap.size) (by rw[e7];exact X.size) ah.o a9.o aN (fun q hq=>by rw[e7];exact(aA.q hq).2) a7.o ay.o HM.o rfl
 have q:((E:Int)!=0)=true:=by rw[Ao];omega
 have HN:=h_ h0;clear h0;go_wp2;go_ret;obtain⟨x1,x2,x3,x4,x5⟩:=HP.o;obtain⟨c0,c1,c2⟩:=C1.o HN.o;have U:=az.o;rw[c0,c1,c2]at U;exact⟨rfl,_,(Only.later15 b.o).trans (r.mono fun j v=>.inr (.inr v)),fun j v=>(x5 j v).imp_right fun e=>Ar b.size e,.inl ⟨HN.o,gw,S,bv,dn,⟨n.from_,n.le,x2,U,x1,x3,x4⟩,rfl⟩⟩
/- -/
/- -/
def zaW:List ColB:=[(⟨#[105,100]⟩,0)]
def zaP(n:Nat):List PairB:=[([(n,⟨#[]⟩)],1)]
def zw9:CS zaW:=by
 intro c a;unfold zaW at a;simp at a;subst a;exact⟨by decide,by decide,by decide⟩
def zh4{n:Nat}(b:n<=2):PSO (zaP n):=by
 intro p hp;simp[zaP]at hp;subst hp;refine⟨fun c a=>?_,by dsimp only;decide,by dsimp only;decide⟩;simp at a;subst a;exact⟨by dsimp only;omega,by show(0:Nat)<=140737488351232;decide⟩
def zh3:errS (colsL zaW)=0:=by decide +kernel
def zrT:clcE zaW (zaP 1)=0/\clcO zaW (zaP 1)=zaP 1:=by decide +kernel
def zrS:clcE zaW (zaP 2)=0/\clcO zaW (zaP 2)=zaP 2:=by decide +kernel
def zuC:apE zaW 0 [] (0,1,zaP 1)=0/\apN zaW 0 [] (0,1,zaP 1)=1/\apV zaW 0 [] (0,1,zaP 1)=zaP 1:=by decide +kernel
def zHL:apE zaW 1 (zaP 1) (0,2,zaP 2)=0:=by decide +kernel
def zHK:(entW zaW (0,1,zaP 1)).2=0:=by decide +kernel
def zHJ:(entW zaW (0,2,zaP 2)).2=0:=by decide +kernel
def zeF:List EntB:=[(0,1,zaP 1)]
def zrU:List EntB:=[(0,1,zaP 1),(0,2,zaP 2)]
def zcB:TrS zaW []/\trE zaW []=(hdB (colsL zaW),0,[],0,0):=TrS.nil zw9 zh3
def zf2:actE zaW [] (0,zaP 1)=0/\actX zaW [] (0,zaP 1)=(0,1,zaP 1):=by
 have a:actX zaW [] (0,zaP 1)=(0,1,zaP 1):=by
  unfold actX;rw[Ab rfl,zcB.2];dsimp only;rw[zrT.2];rfl
 refine⟨?_,a⟩;unfold actE;rw[Aa (by simp),Aa (by rw[zrT.1];simp),a];unfold layE;rw[zcB.2];dsimp only;rw[zuC.1,Aa (by simp)];exact zHK
def zrQ:actS zaW [] (0,zaP 1)=zeF:=by
 unfold actS;rw[zf2.1,zf2.2];exact Ab rfl
def zfG:TrS zaW zeF/\(trE zaW zeF).2.1=1/\(trE zaW zeF).2.2.1=zaP 1:=by
 obtain⟨c,b⟩:=zpP zcB.1 (a:=(0,zaP 1)) (zh4 (by decide)) zf2.1;rw[zf2.2]at c b;rw[zcB.2]at b;dsimp only at b;rw[zuC.2.1,zuC.2.2]at b;refine⟨c,?_,?_⟩
 .show(trE zaW ([]++[(0,1,zaP 1)])).2.1=1;rw[b]
 show(trE zaW ([]++[(0,1,zaP 1)])).2.2.1=zaP 1;rw[b]
def zf1:actE zaW zeF (0,zaP 2)=0/\actX zaW zeF (0,zaP 2)=(0,2,zaP 2):=by
 have a:actX zaW zeF (0,zaP 2)=(0,2,zaP 2):=by
  unfold actX;rw[Ab rfl,zfG.2.1];dsimp only;rw[zrS.2];rfl
 refine⟨?_,a⟩;unfold actE;rw[Aa (by simp[zeF]),Aa (by rw[zrS.1];simp),a];unfold layE;rw[zfG.2.1,zfG.2.2,zHL,Aa (by simp)];exact zHJ
def zCA:actS zaW zeF (0,zaP 2)=zrU:=by
 unfold actS;rw[zf1.1,zf1.2];exact Ab rfl
def zw8:TrS zaW zrU:=by
 obtain⟨b,_⟩:=zpP zfG.1 (a:=(0,zaP 2)) (zh4 (by decide)) zf1.1;rw[zf1.2]at b;exact b
def zrR:crE (rvR zaW zrU 1) 3 ([]:Bs).length=0/\Left zaW (rvB zaW zrU 1 3 []) zeF:=by
 have l:=zvD zw8 (k:=1) (by decide);constructor
 ·unfold crE rvR;rw[Aa (by omega),Aa (by simp;omega)]
 obtain⟨a,d,f,c,j⟩:=zBU zw8 1 3 [];have e:zrU.take 1=zeF:=rfl;rw[e]at f c;have i:zeF.length=1:=rfl;rw[i]at f c;have b:=d.le;unfold rvB at b;rw[e,AV,Aq]at b;have:¬1<a.length:=fun h=>by
  have:=zvD d.trs h;rw[c]at this;have:(3:Int).toNat=3:=rfl;omega
 have g:a=zeF:=by rw[<-c,Am (by omega)]
 rw[<-g];exact d
def zAS(w:World)(a:ColB):RdC (w.alloc (.cells #[.string a.1,.int .i64 a.2] 62)) (.slice (some ⟨w.heap.size,0,none⟩) 1 1) [a]:=by
 have d:=zdS colE w w.heap.size l_ ([a].map colV) (by intro x b;obtain⟨t,_,rfl⟩:=Au.1 b;rfl) (by
  intro x b u c;obtain⟨t,e,rfl⟩:=Au.1 b;simp[colV]at c;rcases c with rfl|rfl<;>rfl) (by simp)
 exact OwnG.rd d (by simp)
def zAP(w:World)(a:CellB):RdE (w.alloc (.cells #[.int .u64 (a.1:Int),.string a.2] 65)) (.slice (some ⟨w.heap.size,0,none⟩) 1 1) [a]:=by
 have b:=zdS zeR w w.heap.size l_ ([a].map cellVs) (zl5 _) (zoV _) (by simp);exact OwnG.rd b (by simp)
def zr2(w:World)(n:Nat):∀b,b=(w.alloc (.cells #[.int .u64 (n:Int),.string ⟨#[]⟩] 65)).alloc (.cells #[.slice (some ⟨w.heap.size,0,none⟩) 1 1,.int .i64 1] 69) ->RdP b (.slice (some ⟨w.heap.size+1,0,none⟩) 1 1) (zaP n)/\Lz w b:=by
 intro b h;have i:=zAP w (n,⟨#[]⟩);have d:=(Ac w.heap.size w).alloc l_ (.cells #[.int .u64 (n:Int),.string ⟨#[]⟩] 65);obtain⟨c,a⟩:=nm_ (w.alloc (.cells #[.int .u64 (n:Int),.string ⟨#[]⟩] 65));have g:c.heap.size=w.heap.size+1:=by rw[a];simp
 rw[<-a]at i d h;have e:=(Ac c.heap.size c).alloc l_ (.cells #[.slice (some ⟨w.heap.size,0,none⟩) 1 1,.int .i64 1] 69);have f:=AB c (.cells #[.slice (some ⟨w.heap.size,0,none⟩) 1 1,.int .i64 1] 69);rw[<-h]at e f;rw[g]at f;refine⟨zE3 b [(.slice (some ⟨w.heap.size,0,none⟩) 1 1,([(n,⟨#[]⟩)],1))] (fun t j=>?_) (by simp) f,d.trans (e.mono d.size)⟩;simp at j;subst j;exact i.later e l_
def zu8(w:World)(hT:Tabs w)(hF:Frs w) :Calls prog 4 #[] w fun e w'=>e=.returned (.bool true)/\Lz w w':=by
 have HT:=h_ (fun M(L:Lz w M)=>hT.later L);have HF:=h_ (fun M(L:Lz w M)=>hF.later L);have b1:=(Ac w.heap.size w).alloc l_ (.cells #[.string ⟨#[105,100]⟩,.int .i64 0] 62);have NW:=h_ (zmX _ zaW _ (zAS w (⟨#[105,100]⟩,0)) zw9 (hT.later b1));have z:=h_ b1;unfold NlP at NW;rw[zh3]at NW;clear hT hF b1;go_enter func4,ntmps4;go_wp2_with fail;refine NW.mono ?_;rintro e w2⟨v,rfl,b,c⟩;rcases c with⟨h0,_⟩|⟨_,gl,gw,gd,bv,dv,rfl,c⟩
 .exact absurd rfl h0
 have HL:=h_ (c (fun _=>False) (fun j h=>h.elim));have Q:=bT z b;obtain⟨N,hN⟩:=nm_ ((w.alloc (.cells #[.string ⟨#[105,100]⟩,.int .i64 0] 62)).heap.size);rw[<-hN]at HL;have I:=h_ (show w.heap.size<=N from by rw[hN];exact z.size);clear b c NW hN z;go_wp2_with fail;refine(znU 1 1 (by decide) _).mono ?_;rintro e w3⟨rfl,b⟩;have S:=bT Q b;have Y:=h_ (HL.later b);clear b HL Q;go_wp2_with fail;obtain⟨w4,G⟩:=nm_ ((w3.alloc (.cells #[.int .u64 1,.string ⟨#[]⟩] 65)).alloc (.cells #[.slice (some ⟨w3.heap.size,0,none⟩) 1 1,.int .i64 1] 69));rw[<-G];obtain⟨ae,D⟩:=zr2 w3 1 w4 G;have A:=h_ (Y.later D);have m:=bT S D;have y:=h_ (ze7 N gl gw gd bv dv _ zaW [] (zaP 1) 0 _ w4 A.o (fun j h=>h.elim) ae (zh4 (by decide)) (by decide) (HT.o w4 m.o) (HF.o w4 m.o) (by
  have h1:=(zcJ zh3);have h2:=zc4 zaW [] (0,zaP 1);rw[zcB.2];dsimp only;omega))
 rw[zf2.1,zrQ]at y;clear G ae D Y S;refine y.mono ?_;rintro e w5⟨rfl,T5,c,l,_⟩;obtain⟨aC,az,ar,aw,c,rfl⟩:=c;have T:=h_ (m.trans ((A.below l).mono I.o));have Z:=h_ c;have SY:=h_ (zkA N gl aC az ar aw zaW zeF 0 _ w5 c (fun j h=>h.elim));clear c l y A m;go_wp2_with fail;refine SY.mono ?_;rintro e w6⟨rfl,T6,c,l,_⟩;obtain⟨aD,aA,au,ax,c,rfl⟩:=c;have U:=h_ (T.trans ((Z.below l).mono I.o));have aa:=h_ c;clear c l SY Z T;go_wp2_with fail;refine(znU 2 2 (by decide) _).mono ?_;rintro e w7⟨rfl,b⟩;have V:=bT U b;have ab:=h_ (aa.later b);clear b aa U;go_wp2_with fail;obtain⟨w8,H⟩:=nm_ ((w7.alloc (.cells #[.int .u64 2,.string ⟨#[]⟩] 65)).alloc (.cells #[.slice (some ⟨w7.heap.size,0,none⟩) 1 1,.int .i64 1] 69));rw[<-H];obtain⟨af,E⟩:=zr2 w7 2 w8 H;have C:=h_ (ab.later E);have n:=bT V E;have y:=h_ (ze7 N gl aD aA au ax _ zaW zeF (zaP 2) _ _ w8 C.o (fun j h=>h.elim) af (zh4 (by decide)) (by decide) (HT.o w8 n.o) (HF.o w8 n.o) (by
  have h1:=(zcJ zh3);have h2:=zc4 zaW [] (0,zaP 1);have h3:=zc4 zaW zeF (0,zaP 2);have h4:=ze1 (a:=(0,zaP 1)) zcB.1 (zh4 (by decide));rw[zrQ,zcB.2]at h4;rw[h4,Ae];dsimp only;omega))
 rw[zf1.1,zCA]at y;clear H af E ab V;refine y.mono ?_;rintro e w9⟨rfl,T9,c,l,_⟩;obtain⟨aE,aB,av,ay,c,rfl⟩:=c;have X:=h_ (n.trans ((C.below l).mono I.o));have ac:=h_ c;have J:=h_ (zcY c.box c.wrt);clear c l y C n;go_wp2_with fail;refine J.mono ?_;rintro e a4⟨rfl,b⟩;have p:=bT X b;have f:=h_ (ac.later b);have SF:=h_ (zkB f.o);clear b J ac X;go_wp2_with fail;refine SF.mono ?_;rintro e ag⟨rfl,b⟩;have d:=bT p b;have g:=h_ (f.later b);have CR:=h_ (zeX N gl aE aB av ay (.slice none 0 0) zaW zrU zeF _ 3 [] _ ag g.o (fun j h=>h.elim) ⟨(zaE ag 0).rd (by simp),fun i hi=>absurd hi (by simp)⟩ (by decide) (fun _=>zrR.2)
  (fun M L=>⟨HT.o M (d.trans (L.mono I.o)),HF.o M (d.trans (L.mono I.o))⟩))
 have e1:crE (rvR zaW zrU zeF.length) 3 ([]:Bs).length=0:=zrR.1;rw[e1]at CR;clear b SF f p e1;go_wp2_with fail;refine CR.mono ?_;rintro e a5⟨rfl,aV,l,_,c⟩;rcases c with⟨h0,_⟩|⟨_,aR,aQ,aN,aO,c,rfl⟩
 .exact absurd rfl h0
 have r:=h_ (d.trans ((g.below l).mono I.o));have u:=h_ c;have J:=h_ (zcY c.box c.wrt);clear c l CR g d;have y1:(zrU.length:Int)=2:=rfl;have y2:(zeF.length:Int)=1:=rfl;rw[y2]at J;rw[y1,y2];go_wp2_with fail;refine J.mono ?_;rintro e a6⟨rfl,b⟩;have s:=bT r b;have k:=h_ (u.later b);have SQ:=h_ (zmW k.o);rw[zfG.2.1]at SQ;clear b J u r;go_wp2_with fail;refine SQ.mono ?_;rintro e a7⟨rfl,b⟩;have t:=bT s b;have x:=h_ (k.later b);have VW:=h_ (zk9 x.o);rw[zfG.2.2]at VW;clear b SQ k s;go_wp2_with fail;refine VW.mono ?_;rintro e a8⟨v,rfl,hv,b⟩;have O:=bT t b;have ad:=hv.rd.len;obtain⟨a1,n1,c1,rfl⟩:=hv.rd.lit12;have y3:((zaP 1).length:Int)=1:=rfl;rw[y3]at ad;clear b hv VW x t;go_wp2;go_ret;exact⟨rfl,O.o⟩
end
section
open Go.ChangeShapes Go.WideShapes Go.ChangeAt Go.Deep
section
variable{H:Type}{enc:TypeId×Value->H}{W:World}
def zFD(d:DataW H):1<=Rows.uptoBulk d:=by
 cases d with
 | lit x=>cases x<;>simp[Rows.uptoBulk]
 | _=>simp[Rows.uptoBulk]
def zm0:∀l:List (DataW H),l.length<=Rows.uptoBulkAll l
 | []=>by simp
 | d::r=>by
  have a:=zm0 r;have e:=zFD d;simp only[Rows.uptoBulkAll,Ap];omega
def zFC{n:Nat}{f:Nat->Nat}{D:Nat->DataW H}(h:∀i,i<n->f i<=Rows.uptoBulk (D i)):((List.range n).map f).sum<=Rows.uptoBulkAll ((List.range n).map D):=by
 have key:∀l:List Nat,(∀i∈l,i<n)->(l.map f).sum<=Rows.uptoBulkAll (l.map D):=by
  intro l
  induction l with
  | nil=>intro _;simp
  | cons i r ih=>
   intro a;have e:=ih fun j d=>a j (by simp[d]);have g:=h i (a i (by simp));simp only[AT,List.sum_cons,Rows.uptoBulkAll];omega
 exact key _ fun i a=>B3.1 a
def zxL{e:Nat}{v:Value}{d:DataW H}{pl:List MemPlace}{ps:List PairB}(p:DataW.trod enc prog W 0 (fun _=>true) true e 33 [v]=some (d,pl))(s:RdP W v ps):ps.length<=Rows.uptoBulk d:=by
 obtain⟨ts,rfl,j,_⟩:=s;obtain⟨u,cap,g,_⟩:=RdG.shape j;rw[Ad]at g ⊢;rcases open_slice underlying33 p with⟨a,_⟩|⟨x,len,c,m,n,D,t,a,_,y,hm,r,h,f⟩
 .rw[g]at a;simp at a;have:ts.length=0:=by simp[a]
  omega
 rw[g]at a;simp at a;simp only[Prod.mk.injEq]at h;obtain⟨rfl,_⟩:=h;have i:=zm0 ((List.range len).map D);rw[Ad,Cn]at i;simp only[Rows.uptoBulk];omega
end
/- -/
abbrev ActR:=Int×List PairB×Nat×Bs
abbrev zFM:=(Value×Value)×ActR
def acR(t:zFM):List Value:=[.int .i64 t.2.1,t.1.1,.int .u8 (t.2.2.2.1:Int),t.1.2]
def zI4:Elt:=⟨23,36,4,64,.agg #[.int .i64 0,.slice none 0 0,.int .u8 0,.slice none 0 0]⟩
def zD6:zI4.Ok:=⟨underlying23,by kernel_rfl,by kernel_rfl,rfl,by decide⟩
def zgJ(w:World)(v:Value)(l:List ActR):Prop:=∃ts:List zFM,l=ts.map (·.2)/\RdG zI4 w v (ts.map acR)/\∀t∈ts,RdP w t.1.1 t.2.2.1/\Rd w t.1.2 t.2.2.2.2
def ACR(l:List ActR):Prop:=∀a∈l,inW a.1/\PSO a.2.1/\a.2.2.1<=255
def flat16(l:List ActR):List PairB:=l.flatMap fun a=>a.2.1
def junk16(l:List ActR):Nat:=(l.map fun a=>a.2.2.2.length).sum
section
variable{w w':World}{v:Value}{l:List ActR}
def zgJ.later(h:zgJ w v l)(a:Lz w w'):zgJ w' v l:=by
 obtain⟨ts,e,g,d⟩:=h;exact⟨ts,e,g.later zD6 a l_,fun t f=>⟨(d t f).1.later a l_,(d t f).2.later a l_⟩⟩
def zgJ.small(h:zgJ w v l):l.length<=140737488351232:=by
 obtain⟨ts,rfl,h,_⟩:=h;have:=h.small;simpa using this
def zgJ.lit(h:zgJ w v l):∃a n cap,v=.slice a n cap:=by
 obtain⟨ts,e,h,_⟩:=h;obtain⟨a,cap,e,_⟩:=RdG.shape h;exact⟨_,_,_,e⟩
def zgJ.len(h:zgJ w v l):∀u,(Builtin.len_ #[23] 3 #[v]).run prog u=.ok (.int .i64 (l.length:Int)) u:=by
 obtain⟨ts,rfl,h,_⟩:=h;have:=RdG.len h zD6;rw[Ad]at this ⊢;exact this
def zgJ.get(h:zgJ w v l){i:Nat}(e:i<l.length):∃b o pv jv,(∀u,(Instr.indexAt 23 v (.int .i64 (i:Int))).run prog u=.ok (.pointer (some ⟨b,o,none⟩)) u) /\w.cell? ⟨b,o,none⟩=some (.int .i64 (l.getD i default).1)/\w.cell? ⟨b,o+1,none⟩=some pv/\w.cell? ⟨b,o+2,none⟩=some (.int .u8 ((l.getD i default).2.2.1:Int))/\w.cell? ⟨b,o+3,none⟩=some jv /\RdP w pv (l.getD i default).2.1/\Rd w jv (l.getD i default).2.2.2/\b<w.heap.size:=by
 obtain⟨ts,rfl,h,f⟩:=h;rw[Ad]at e;have d:i<(ts.map acR).length:=by simpa using e
 have g:=RdG.idx h zD6 i d;obtain⟨b,o,n,a⟩:=RdG.at h d;rw[n]at g;have j:(ts.map acR).getD i []=acR ts[i]:=by simp[List.getD,e]
 have m:(ts.map (·.2)).getD i default=ts[i].2:=by simp[List.getD,e]
 rw[j]at a;rw[m];exact⟨b,o,ts[i].1.1,ts[i].1.2,g,a 0 _ rfl,a 1 _ rfl,a 2 _ rfl,a 3 _ rfl,(f _ (AM _)).1,(f _ (AM _)).2,AI w _ (a 0 _ rfl)⟩
def ACR.get(h:ACR l){i:Nat}(a:i<l.length):inW (l.getD i default).1/\PSO (l.getD i default).2.1/\(l.getD i default).2.2.1<=255:=by
 have e:l.getD i default=l[i]:=by simp[List.getD,a]
 rw[e];exact h _ (AM a)
def zFR{k:Nat}(h:k<l.length):l.take (k+1)=l.take k++[l.getD k default]:=by
 rw[BL,AJ h,Option.toList_some];simp[List.getD,h]
def zlA{k:Nat}(h:k<l.length):flat16 (l.take (k+1))=flat16 (l.take k)++(l.getD k default).2.1:=by
 rw[zFR h];simp[flat16]
def zl0{k:Nat}(h:k<l.length):junk16 (l.take (k+1))=junk16 (l.take k)+(l.getD k default).2.2.2.length:=by
 rw[zFR h];simp[junk16]
def zl9(l:List ActR)(k:Nat):(flat16 (l.take k)).length<=(flat16 l).length:=by
 rw[show flat16 l=flat16 (l.take k)++flat16 (l.drop k)from by unfold flat16;rw[<-List.flatMap_append,A0],Ae];omega
def zkZ(l:List ActR)(k:Nat):junk16 (l.take k)<=junk16 l:=by
 rw[show junk16 l=junk16 (l.take k)+junk16 (l.drop k)from by unfold junk16;rw[<-List.sum_append,<-AC,A0]];omega
def zy7{k:Nat}(h:k<l.length):(l.getD k default).2.1.length<=(flat16 l).length:=by
 have a:=zl9 l (k+1);rw[zlA h,Ae]at a;omega
def zy3{k:Nat}(h:k<l.length):(l.getD k default).2.2.2.length<=junk16 l:=by
 have a:=zkZ l (k+1);rw[zl0 h]at a;omega
end
def zJC(l:List ActR):Prop:=l.length<=20/\(flat16 l).length<=150/\junk16 l<=2000/\fewG (flat16 l)
def Ybox(w:World)(b:Nat)(k:Int)(pv:Value)(c:Nat)(jv:Value):Prop:=w.heap[b]?=some (.cells #[.int .i64 k,pv,.int .u8 (c:Int),jv] 36 (0,0))
section
variable{w w':World}{b:Nat}{k:Int}{pv:Value}{c:Nat}{jv:Value}
def Ybox.cells(h:Ybox w b k pv c jv):w.cell? ⟨b,0,none⟩=some (.int .i64 k)/\w.cell? ⟨b,1,none⟩=some pv/\w.cell? ⟨b,2,none⟩=some (.int .u8 (c:Int))/\w.cell? ⟨b,3,none⟩=some jv :=
 ⟨Ag _ _ 0 _ _ _ h,Ag _ _ 1 _ _ _ h,Ag _ _ 2 _ _ _ h,Ag _ _ 3 _ _ _ h⟩
def Ybox.later(h:Ybox w b k pv c jv)(a:Lz w w'):Ybox w' b k pv c jv:=(a.block b (Aj.1 h).1).trans h
end
def zu6(v:Value)(l:List ActR)(w:World)(hA:zgJ w v l)(hU:(flat16 l).length<=1048576)(hJ:junk16 l<=1048576) :Calls prog 5 #[v] w (zJ5 w (zJC l)):=by
 obtain⟨aa,na,ca,rfl⟩:=hA.lit;have ai:=hA.len;have aI:=hA.small;have HA:=h_ hA;have HU:=h_ (fun k=>Ar (zl9 l k) hU);have HJ:=h_ (fun k=>Ar (zkZ l k) hJ);obtain⟨n,hn⟩:=nm_ l.length;rw[<-hn]at ai aI;have HN:=h_ hn;clear hA hU hn hJ;go_enter func5,ntmps5;go_wp2;go_loopw [3,4,9] (fun al I i wr=>∃k:Nat,k<=n/\i=.int .i64 k/\I=.int .i64 (junk16 (l.take k):Nat)/\Hid (OwnP wr w.heap.size al (flat16 (l.take k)))/\Hid (Lz w wr)) (fun _ _ i _=>n-(intOf i).toNat)
 case atStart=>exact⟨0,by omega,rfl,by simp[junk16],h_ (OwnP.nil _ _),h_ (Ac _ _)⟩
 obtain⟨k,hk,rfl,rfl,T,f⟩:=hrel;by_cases ak:k<n
 .have G:k<l.length:=by rw[<-HN.o];exact ak
  obtain⟨b9,o9,pv,jv,aV,y0,y1,y2,y3,z,u,bb⟩:=HA.get G;have e0:=za6 f.o y0;have e1:=za6 f.o y1;have e2:=za6 f.o y2;have e3:=za6 f.o y3;clear y0 y1 y2 y3;have t:=zlA G;have s:=HU.o (k+1);have j:=zl0 G;have d:=HJ.o (k+1);obtain⟨⟨kd,ps,kc,jl⟩,hx⟩:∃x,x=l.getD k default:=⟨_,rfl⟩;rw[<-hx]at e0 e2 z u t j;dsimp only at e0 e1 e2 e3 z u t j;rw[t,Ae]at s;rw[j]at d;obtain⟨J,a⟩:=nm_ (junk16 (l.take k));rw[<-a]at j d;rw[<-a];have M:=h_ (Al t j);have ad:=h_ (Al s d);have aH:=u.len;obtain⟨V,Z,Y,rfl⟩:=z.lit12;obtain⟨U,X,rfl,_⟩:=u.shape;obtain⟨I,Q⟩:=nm_ jl.length;rw[<-Q]at aH e3 d;rw[<-Q]at M ad;have bd:J+I<=1048576:=d;obtain⟨us,an,ao,aq⟩:=z.app;obtain⟨w7,S⟩:=nm_ (wr.alloc (.cells #[.int .i64 kd,.slice V Z Y,.int .u8 (kc:Int),.slice U I X] 36));have O:=(Ac wr.heap.size wr).alloc l_ (.cells #[.int .i64 kd,.slice V Z Y,.int .u8 (kc:Int),.slice U I X] 36);have E:=AB wr (.cells #[.int .i64 kd,.slice V Z Y,.int .u8 (kc:Int),.slice U I X] 36);have N:=T.alloc (.cells #[.int .i64 kd,.slice V Z Y,.int .u8 (kc:Int),.slice U I X] 36);rw[<-S]at O E N;have D:=f.trans (O.mono f.size);obtain⟨au,av⟩:=aq w7 D;have aw:=av u3 (fun g hg=>(T.lt hg).1);obtain⟨_,q2,_,q3⟩:=(show Ybox w7 wr.heap.size kd (.slice V Z Y) kc (.slice U I X)from E).cells;have aC:=h_ E;have a5:=h_ S;clear hx t s aq av E O z u G j d a Q;subst S;go_wp2_with ((with_reducible show wpList _ _ _ (⟨some 16,_,_,_,_,_⟩::_) _ _);refine Hid.o ?_);refine h_ (zdH w.heap.size u3 ?hs N (.slice V Z Y) ?hx us au aw ?hn ?hbase w.heap.size w D l_ ?_)
  case hs=>rfl
  case hx=>rfl
  case hn=>have:=ad.1;rw[ao];omega
  case hbase=>exact D.size
  intro v8 w8 am af ag _;have aA:=h_ (show OwnP w8 w.heap.size v8 (flat16 (l.take (k+1)))from by rw[M.1,<-an];exact am);have aB:=h_ af;have q8:w8.cell? ⟨wr.heap.size,3,none⟩=some (.slice U I X):=Ag _ _ 3 _ _ _ ((ag.block wr.heap.size (by simp) (fun hq=>by
   have:=(T.lt hq.symm).2;exact absurd this (Nat.lt_irrefl _))).trans aC.o)
  clear am af ag N D au aw an ao q2 q3 e0 e1 e2 e3 T f;go_wp2;go_roundw
  case rel=>exact⟨k+1,by omega,by go_num,by rw[M.2];go_num,aA,aB⟩
  simp[intOf];omega
 obtain rfl:k=n:=by omega
 have ha:OwnP wr w.heap.size u3 (flat16 l):=by
  have:=T.o;rwa[Am (by rw[HN.o];exact l_)]at this
 have s:(flat16 l).length<=1048576:=Ar (by have:=HU.o l.length;rwa[Bo]at this) l_;have d:junk16 l<=1048576:=Ar (by have:=HJ.o l.length;rwa[Bo]at this) l_;have ah:junk16 (l.take k)=junk16 l:=by rw[Am (by rw[HN.o];exact l_)]
 rw[ah];have hr:=ha.rd (by omega);have aG:=hr.len;obtain⟨ar,nr,cr,rfl⟩:=hr.lit12;have GG:=h_ (zuA (.slice ar nr cr) (flat16 l) wr hr);have A:=h_ (f.alloc f.size (.cells #[.slice ar nr cr] 33));obtain⟨m,hm⟩:=nm_ ((flat16 l).length);obtain⟨J,a⟩:=nm_ (junk16 l);rw[<-hm]at aG s;rw[<-a];rw[<-a]at d;have HM:=h_ (Al hm a);clear ha hr T hm ak ah a;by_cases C:20<k
 .have d1:decide ((k:Int)>20)=true:=Ah (by omega);have h3:=f.o;clear C GG A;go_wp2;go_ret;exact⟨1,rfl,.inr rfl,fun h=>absurd h (by decide),f.o⟩
 have d1:decide ((k:Int)>20)=false:=Af (by omega);by_cases p:150<m
 .have d2:decide ((m:Int)>150)=true:=Ah (by omega);clear C p GG A;go_wp2;go_ret;exact⟨1,rfl,.inr rfl,fun h=>absurd h (by decide),f.o⟩
 have d2:decide ((m:Int)>150)=false:=Af (by omega);by_cases r:2000<J
 .have d3:decide ((J:Int)>2000)=true:=Ah (by omega);clear C p r GG A;go_wp2;go_ret;exact⟨1,rfl,.inr rfl,fun h=>absurd h (by decide),f.o⟩
 have d3:decide ((J:Int)>2000)=false:=Af (by omega);have L:=h_ (show l.length<=20/\(flat16 l).length<=150/\junk16 l<=2000 from⟨by rw[<-HN.o];omega,by rw[<-HM.1];omega,by rw[<-HM.2];omega⟩);clear C p r;go_wp2_with fail;refine GG.mono ?_;rintro e w8⟨y,rfl,hy,hf,hb⟩;have HF:=h_ hf;have ac:=bT A hb;have HY:=h_ hy;clear hf hb hy GG;go_wp2;go_ret;exact⟨y,rfl,HY.o,fun h=>⟨L.1,L.2.1,L.2.2,HF.o h⟩,ac.o⟩
def keep16(c rest:Nat):Nat:=c*(rest+1)/256
def zrJ{c rest:Nat}(h:c<=255):keep16 c rest<=rest:=by
 unfold keep16;have:c*(rest+1)<=255*(rest+1):=Cb _ h;omega
def zu7(kd:Int)(z:Option Addr)(G A:Nat)(c:Nat)(p:Option Addr)(r a:Nat)(j:Bs)(rest:Nat)(w:World)(O:c<=255)(g:a=j.length)(y:Rd w (.slice p a r) j)(hr:rest<=100000000) :Calls prog 14 #[.agg #[.int .i64 kd,.slice z G A,.int .u8 (c:Int),.slice p a r],.int .i64 (rest:Int)] w fun e w'=>∃n,e=.returned (.tuple #[.int .i64 (keep16 c rest:Nat),n])/\(∀f,Rd f (.slice p a r) j->Rd f n (j.take (rest-keep16 c rest)))/\Lz w w':=by
 obtain⟨J,L⟩:=za5 w (.cells #[.int .i64 kd,.slice z G A,.int .u8 (c:Int),.slice p a r] 36);obtain⟨_,_,x2,x3⟩:=(show Ybox _ w.heap.size kd (.slice z G A) c (.slice p a r)from J).cells;have E:=y.len;rw[<-g]at E;have D:=zrJ (rest:=rest) O;obtain⟨K,hK⟩:=nm_ (keep16 c rest);rw[<-hK]at D;rw[<-hK];obtain⟨P,x⟩:=nm_ (c*(rest+1));have ab:P<=255*100000001:=by rw[x];exact Nat.mul_le_mul O (by omega)
 have aa:(c:Int)*((rest:Int)+1)=(P:Int):=by rw[x];simp
 have Z:(P:Int).tdiv 256=(K:Int):=by rw[hK];unfold keep16;rw[<-x];rfl
 obtain⟨d,Q⟩:=nm_ (rest-K);have U:(rest:Int)-(K:Int)=(d:Int):=by omega
 rw[<-Q];have HJ:=h_ g;have I:=h_ L;have X:=h_ (fun(f:World) j=>Go.below_drewN (Ac f.heap.size f) j);have C:=y.small;rw[<-g]at C;have t:∀m,m<=a->(m=d\/(m=a/\a<=d))->∃n,(∀u,(Instr.slice 34 (.slice p a r) none (some (.int .i64 (m:Int))) none).run prog u=.ok n u)/\∀f,Rd f (.slice p a r) j->Rd f n (j.take d):=fun m hm h=>by
  obtain⟨n,Y,M⟩:=y.upto m (by omega);refine⟨n,Y,fun f V=>?_⟩;rcases h with rfl|⟨rfl,h⟩
  .exact M f V
  have N:=M f V;rw[Am (by omega)]at N;rw[Am (by omega)];exact N
 clear hK x J L Q g y;go_enter func14,ntmps14;go_wp2;obtain⟨m,hm⟩:=nm_ (min a d);obtain⟨n,ac,i⟩:=t m (by omega) (by omega);have T:min (a:Int) (d:Int)=(m:Int):=by omega
 have S:max 0 (m:Int)=(m:Int):=by omega
 have s:=h_ i;clear t i hm;go_quiet (fail);go_wp2;go_ret2;exact⟨_,rfl,s.o,I.trans ((X.o _ _).mono I.size)⟩
/- -/
open Go.Lib
def zzQ{α:Type}(l:List α)(f g:α->Nat):(l.map f).sum+(l.map g).sum=(l.map fun i=>f i+g i).sum:=by
 induction l with
 | nil=>rfl
 | cons a r ih=>simp only[AT,List.sum_cons];omega
section
variable{H:Type}{enc:TypeId×Value->H}{W:World}
def zlU:prog.cellsOf 36=4:=by kernel_rfl
variable {pl:List MemPlace} {v:Value}
def zyH{e:Nat}{d:DataW H}{l:Bs}(j:DataW.trod enc prog W 0 (fun _=>true) true e 34 [v]=some (d,pl))(r:Rd W v l):l.length<=Rows.uptoBulk d:=by
 obtain⟨t,cap,g,_⟩:=r.shape;rcases open_slice underlying34 j with⟨a,_⟩|⟨x,len,c,m,n,D,s,a,_,u,hm,p,h,f⟩
 .rw[g]at a;simp at a;have:l.length=0:=by simp[a]
  omega
 rw[g]at a;simp at a;simp only[Prod.mk.injEq]at h;obtain⟨rfl,_⟩:=h;have i:=zm0 ((List.range len).map D);rw[Ad,Cn]at i;simp only[Rows.uptoBulk];omega
def zyL{m:Nat}{cs:List Value}{x:DataW H×List MemPlace}(h:DataW.trod enc prog W 0 (fun _=>true) true m 36 cs=some x)(I:∀n∈x.1.weights prog 36,n<=reachBytes) :∃t:zFM,cs=acR t/\(RdP W t.1.1 t.2.2.1/\Rd W t.1.2 t.2.2.2.2)/\(inW t.2.1/\PSO t.2.2.1/\t.2.2.2.1<=255)/\t.2.2.1.length+t.2.2.2.2.length<=Rows.uptoBulk x.1:=by
 obtain⟨U,i,V,j,k,D,A,y,p,z,r⟩:=Go.Joins.trod_struct4 underlying36 h;rw[zlU]at A
 match cs,A with
 | [c0,c1,c2,c3],_=>
  have N:prog.cellsOf 3=1:=by kernel_rfl
  have M:prog.cellsOf 33=1:=by kernel_rfl
  have L:prog.cellsOf 5=1:=by kernel_rfl
  have J:prog.cellsOf 34=1:=by kernel_rfl
  simp[N,M,L,J]at y p z r;obtain⟨a,s,_,O⟩:=DataW.trod_int underlying3 y;obtain⟨b,u,_,Q⟩:=DataW.trod_int underlying5 z;simp at s u;subst s u;have g:∀n,n∈i.1.weights prog 33\/n∈j.1.weights prog 34->n<=reachBytes:=fun n e=>I n (by
   rw[D];simp only[DataW.weights,underlying36];rcases e with e|e<;>simp[DataW.weightsEach,e])
  obtain⟨ps,C,hp,_⟩:=zxK (d:=i.1) (pl:=i.2) p (fun n e=>g n (.inl e));obtain⟨l,f⟩:=zGX (d:=j.1) (ps:=j.2) r (fun n e=>g n (.inr e));have T:=zxL (d:=i.1) (pl:=i.2) p C;have G:=zyH (d:=j.1) (pl:=j.2) r f;obtain⟨E,S⟩:=zJ1 Q;obtain⟨c,rfl⟩:=Bq E;refine⟨((c1,c3),(a,ps,c,l)),rfl,⟨C,f⟩,⟨zCZ O,hp,by dsimp only;omega⟩,?_⟩;rw[D];simp only[Rows.uptoBulk,Rows.uptoBulkAll];show ps.length+l.length<=_;omega
def zsS{C:Nat}{d:DataW H}(hf:DataW.trod enc prog W 0 (fun _=>true) true C 23 [v]=some (d,pl))(M:∀n∈d.weights prog 23,n<=reachBytes):∃l,zgJ W v l/\ACR l/\(flat16 l).length+junk16 l<=Rows.uptoBulk d:=by
 have S:1<=prog.bytesOf 36:=CQ (by kernel_rfl);rcases open_slice underlying23 hf with⟨A,_⟩|⟨x,len,c,m,n,D,Pl,A,_,hl,hm,E,V,r⟩
 .obtain rfl:v=.slice none 0 0:=by simpa using A
  exact⟨[],⟨[],rfl,RdG.nil zI4 W,by simp⟩,fun c Z=>absurd Z (by simp),by simp[flat16,junk16]⟩
 obtain rfl:v=.slice (some x) len c:=by simpa using A
 simp only[Prod.mk.injEq]at V;obtain⟨rfl,_⟩:=V;simp only[if_true]at E;subst E;have hw:∀i,i<len->∀k∈(D i).weights prog 36,k<=reachBytes:=fun i g k hk=>by
  refine M k ?_;rw[DataW.weights];simp only[underlying23];refine Ct _ (AD.2 (.inl (zb6 hk ?_)));exact Au.2 ⟨i,B3.2 g,rfl⟩
 have hs:=M _ (by rw[DataW.weights];simp only[underlying23];exact Cz ..);simp only[Ad,Cn,reachBytes]at hs;have T:len<=140737488351232:=by
  have:(len+(m-len))*1<=(len+(m-len))*prog.bytesOf 36:=Bn _ S;omega
 rw[zlU]at r;obtain⟨L,N⟩:=choose_lt (α:=zFM) (p:=fun i a=>((RdP W a.1.1 a.2.2.1/\Rd W a.1.2 a.2.2.2.2)/\(inW a.2.1/\PSO a.2.2.1/\a.2.2.2.1<=255)/\a.2.2.1.length+a.2.2.2.2.length<=Rows.uptoBulk (D i))/\∀j u,(acR a)[j]?=some u->W.cell? ((x.add (i*4)).add j)=some u) (n:=len) (fun i g=>by
  obtain⟨X,Q,U⟩:=r i (by omega);obtain⟨_,h3,Y⟩:=Dc Q;obtain⟨a,rfl,hr⟩:=zyL U (hw i g);refine⟨a,hr,fun j u J=>?_⟩;have hj:j<4:=by have:=(AG.1 J).1;simpa[acR]using this
  rw[Y j hj,J])
 have f:((List.range len).map L).length=len:=by simp
 have e:∀i,i<len->((List.range len).map L).getD i default=L i:=fun i g=>by simp[List.getD,g]
 have G:0<len->∃b o,x=⟨b,o,none⟩:=by
  intro hp;have O:=(N 0 hp).2 0 _ rfl;obtain⟨b,o,sp⟩:=x;cases sp with
  | none=>exact⟨b,o,rfl⟩
  | some s=>
   exfalso;simp only[Addr.add,if_true,World.cell?]at O;split at O<;>simp at O
 have y:∀t∈(List.range len).map L,(RdP W t.1.1 t.2.2.1/\Rd W t.1.2 t.2.2.2.2)/\inW t.2.1/\PSO t.2.2.1/\t.2.2.2.1<=255:=by
  intro t I;obtain⟨i,g,rfl⟩:=Au.1 I;have:=(N i (B3.1 g)).1;exact⟨this.1,this.2.1⟩
 refine⟨((List.range len).map L).map (·.2),⟨(List.range len).map L,rfl,⟨⟨some x,_,by rw[Ad,f],by rw[Ad,f];omega,(by intro h;cases h),fun hp=>?_⟩,?_,?_,by rw[Ad,f];exact T⟩,fun t I=>(y t I).1⟩,?_,?_⟩
 .rw[Ad,f]at hp;obtain⟨b,o,rfl⟩:=G hp;exact⟨b,o,rfl⟩
 .intro i g j u J;rw[Ad,f]at g;rw[getD_map acR _ i (by rw[f];exact g) default,e i g]at J;have:=(N i g).2 j u J;obtain⟨b,o,rfl⟩:=G (by omega);rw[Addr.add_mid,Addr.add_mid,BD]at this;rw[zaF];exact this
 .intro z hz;obtain⟨t,_,rfl⟩:=Au.1 hz;rfl
 .intro p hp;obtain⟨t,I,rfl⟩:=Au.1 hp;exact(y t I).2
 have Q:(flat16 (((List.range len).map L).map (·.2))).length+junk16 (((List.range len).map L).map (·.2))=((List.range len).map fun i=>(L i).2.2.1.length+(L i).2.2.2.2.length).sum:=by
  unfold flat16 junk16;rw[List.length_flatMap];simp only[A6];exact zzQ _ _ _
 have U:=zFC (D:=D) fun i g=>(N i g).1.2.2;rw[Q];simp only[Rows.uptoBulk];omega
def zsR{base:Nat}{d:DataW H}{ts:List TypeId}{f:List (DataW H)}{j:Nat}(a:Value.okWide prog W .any base 23 v)(h:DataW.Trod enc prog W 0 (fun _=>true) true 23 v d pl)(t:(DataW.weightsEach prog ts f).all (·<=reachBytes)=true)(s:ts[j]?=some 23)(m:f[j]?=some d):∃l,zgJ W v l/\ACR l/\(flat16 l).length+junk16 l<=Rows.uptoBulk d:=by
 have e:∀n∈d.weights prog 23,n<=reachBytes:=fun n r=>by
  have:=CV.1 t _ (DataW.weights_mem_each s m n r);simpa using this
 obtain⟨i,len,cap,rfl⟩:=okWide_slice underlying23 a;obtain⟨g,p⟩:=h;exact zsS (v:=.slice i len cap) p e
end
end
