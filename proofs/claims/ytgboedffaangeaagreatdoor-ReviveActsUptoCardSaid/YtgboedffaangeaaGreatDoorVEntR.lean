/- -/
import Derived.Test.YtgboedffaangeaaGreatDoorVColRef
import Derived.Test.YtgboedffaangeaaGreatDoorVFrame
import Derived.Test.YtgboedffaangeaaGreatDoorVDsk
set_option maxHeartbeats 32000000
set_option linter.all false
set_option maxRecDepth 1000000
namespace Go.Proofs.YtgboedffaangeaaGreatDoor
open Go.RowKit Go.Shelf
section
open _root_.Go.Proofs.Tryz
def zkG(A T:Value)(cs:List ColB)(x:EntB)(w:World)(I:RdC w A cs)(n:RdN w T x)(G:CS cs)(hX:EnO x) :Calls prog 118 #[A,T] w fun e w'=>e=.returned (.int .i64 (entE cs x:Nat))/\Lz w w':=by
 obtain⟨kind,seq,ps⟩:=x;obtain⟨pv,rfl,z⟩:=n;obtain⟨hk,hs,H⟩:=hX;dsimp only at z hk hs H ⊢;obtain⟨t,no,u,rfl⟩:=z.lit12;obtain⟨r,s⟩:=za5 w (.cells #[.int .i64 kind,.int .i64 seq,.slice t no u] 123);obtain⟨V,l⟩:=nm_ (w.alloc (.cells #[.int .i64 kind,.int .i64 seq,.slice t no u] 123));rw[<-l]at r s;have j:=h_ (zbE A cs V (I.later s l_) G);have m:=h_ (fun X(U:Lz w X)=>zcZ A (.slice t no u) cs ps X (I.later U l_) (z.later U l_) G H);obtain⟨g,L⟩:=nm_ w.heap.size;rw[<-L]at r;have d:=h_ (show Ebox V g kind seq (.slice t no u)from r);have f:=h_ s;have i:=h_ l;have p:=h_ L;obtain⟨E,n⟩:=nm_ (errS (colsL cs));obtain⟨R,a⟩:=nm_ (entE cs (kind,seq,ps));rw[<-n]at j;rw[<-a];unfold entE at a;dsimp only at a;rw[<-n]at a;clear I z G H r s l L n;by_cases k:E=0
 .subst k;rw[Aa (by simp)]at a;by_cases v:kind<0\/1<kind
  .rw[Ab v]at a;subst a;have J:(decide (kind<0)=true)\/(decide (kind<0)=false/\decide (kind>1)=true):=by
    by_cases h:kind<0
    .exact .inl (Ah h)
    exact .inr ⟨Af h,Ah (by omega)⟩
   clear v m;rcases J with Q|⟨Q,Y⟩
   all_goals(
    go_enter func118,ntmps118;go_wp2_with fail;rw[<-i.o,<-p.o];refine j.mono ?_;rintro e C⟨rfl,c⟩;have b:=bT f c;obtain⟨M,N,O⟩:=(d.later c).cells;clear c j d;go_wp2;go_ret;exact⟨rfl,b.o⟩)
  rw[Aa v]at a;have Q:decide (kind<0)=false:=Af (by omega);have Y:decide (kind>1)=false:=Af (by omega);clear v;by_cases y:seq<0\/281474976710656<seq
  .rw[Ab y]at a;subst a;have J:(decide (seq<0)=true)\/(decide (seq<0)=false/\decide (seq>281474976710656)=true):=by
    by_cases h:seq<0
    .exact .inl (Ah h)
    exact .inr ⟨Af h,Ah (by omega)⟩
   clear y m;rcases J with S|⟨S,Z⟩
   all_goals(
    go_enter func118,ntmps118;go_wp2_with fail;rw[<-i.o,<-p.o];refine j.mono ?_;rintro e C⟨rfl,c⟩;have b:=bT f c;obtain⟨M,N,O⟩:=(d.later c).cells;clear c j d;go_wp2;go_ret;exact⟨rfl,b.o⟩)
  rw[Aa y]at a;have S:decide (seq<0)=false:=Af (by omega);have Z:decide (seq>281474976710656)=false:=Af (by omega);rw[<-a]at m;clear y a;go_enter func118,ntmps118;go_wp2_with fail;rw[<-i.o,<-p.o];refine j.mono ?_;rintro e C⟨rfl,c⟩;have b:=bT f c;obtain⟨M,N,O⟩:=(d.later c).cells;clear c j d;go_wp2_with fail;refine(m.o C b.o).mono ?_;rintro e w3⟨rfl,c⟩;have D:=bT b c;clear c;go_wp2;go_ret;exact⟨rfl,D.o⟩
 rw[Ab k]at a;subst a;have q:((R:Int)!=0)=true:=by rw[Ao];omega
 clear k m;go_enter func118,ntmps118;go_wp2_with fail;rw[<-i.o,<-p.o];refine j.mono ?_;rintro e C⟨rfl,c⟩;have b:=bT f c;clear c j d;go_wp2;go_ret;exact⟨rfl,b.o⟩
def zkD(sv ev:Value)(cs:List ColB)(x:EntB)(w:World)(hR:RdC w sv cs)(hE:RdN w ev x)(hC:CS cs)(hX:EnO x) :Calls prog 85 #[sv,ev] w (RetW w (entW cs x)):=by
 obtain⟨kind,seq,ps⟩:=x;obtain⟨pv,rfl,hP⟩:=hE;dsimp only at hP;obtain⟨ao,no,co,rfl⟩:=hP.lit12;have Z:=h_ (fun c(b:Lz w c)=>zkG sv _ cs (kind,seq,ps) c (hR.later b l_) ⟨_,rfl,hP.later b l_⟩ hC hX);have G:entW cs (kind,seq,ps)=if entE cs (kind,seq,ps)≠0 then([],entE cs (kind,seq,ps))else wrF (2-kind) (entP cs (kind,seq,ps)):=rfl;have b:=zb8 (cs:=cs) (x:=(kind,seq,ps));obtain⟨N1,N2⟩:=za5 w (.cells #[.int .i64 kind,.int .i64 seq,.slice ao no co] 123);obtain⟨w0,I⟩:=nm_ (w.alloc (.cells #[.int .i64 kind,.int .i64 seq,.slice ao no co] 123));rw[<-I]at N1 N2;obtain⟨g,hg⟩:=nm_ w.heap.size;rw[<-hg]at N1;have t:=h_ (show Ebox w0 g kind seq (.slice ao no co)from N1);have m:=h_ N2;have O:=h_ I;have HG:=h_ hg;obtain⟨E,hE⟩:=nm_ (entE cs (kind,seq,ps));rw[<-hE]at Z G b;by_cases h0:E=0
 .subst h0;rw[Aa (by simp)]at G;obtain⟨_,hk,hs,H⟩:=b.1 rfl;dsimp only at hk hs H;have J:=zv0 hX.2.2 H;have V:=zFN cs ps;dsimp only at J;have Y:=h_ (fun c(b:Lz w c)=>zqO sv (.slice ao no co) cs ps c (hR.later b l_) (hP.later b l_) hC hX.2.2);rw[H,Ab rfl]at Y;obtain⟨n,rfl⟩:=Bq hs.1;have hn:n<=281474976710656:=by omega
  have ah:=zaA n (by omega);have G:entW cs (kind,(n:Int),ps)=wrF (2-kind) (encU n++btWr (kindsL cs) (psL ps)):=G;obtain⟨L,hL⟩:=nm_ (btWr (kindsL cs) (psL ps));rw[<-hL]at J Y G V;have ac:=h_ V;have HW:=h_ G;rw[G];have p:=h_ (Al ah J);clear hR hP hC hX b H G hL hE J V ah hs N1 N2 I hg;rcases hk with rfl|rfl
  .go_enter func85,ntmps85;go_wp2_with fail;rw[<-O.o,<-HG.o];refine(Z.o w0 m.o).mono ?_;rintro e w1⟨rfl,d⟩;have i:=bT m d;have j:=h_ (t.later d);obtain⟨c0,c1,c2⟩:=j.cells;clear d t;go_wp2_with fail;refine(Y.o w1 i.o).mono ?_;rintro e a⟨bv,rfl,l,d⟩;have s:=bT i d;have A:=j.later d;have D:=l.rd (by have:=p.2;omega);have u:=h_ (fun c(b:Lz a c)=>D.later b l_);clear c0 c1 c2;have X:=fun c(b:Lz a c)=>(A.later b).cells;have Q:=h_ (fun c(b:Lz a c)=>Al b (Al (X c b).1 (X c b).2.1))
   have WU:=h_ (fun c(b:Lz a c)=>(zd9 (n:Int) (by omega) (by omega) c).mono (fun e w'(h:RetB c (encU (n:Int).toNat) e w')=>show(∃r,e=.returned r/\Own w' a.heap.size r (encU n))/\Lz a w' from by
    obtain⟨r,T,l,d⟩:=h;rw[Aw]at l;exact⟨⟨r,T,l.base b.size⟩,b.trans (d.mono b.size)⟩))
   have FW:=h_ (fun k c v(b:Lz a c)(ho:Own c a.heap.size v (encU n++L))=>(zg3 k v (encU n++L) c (ho.rd (by have:=p.o;rw[Ae];omega))).mono (fun e w' h=>show(∃y,e=.returned (.tuple #[y,.int .i64 ((wrF k (encU n++L)).2:Nat)])/\Own w' a.heap.size y (wrF k (encU n++L)).1)/\Lz a w' from by
    obtain⟨y,T,l,d⟩:=h;exact⟨⟨y,T,l.base b.size⟩,b.trans (d.mono b.size)⟩))
   have aB:IntKind.u64.wrap (n:Int)=(n:Int):=by
    have:IntKind.u64.wrap (n:Int)=(n:Int)%18446744073709551616:=(by simp[IntKind.wrap,IntKind.signed,IntKind.bits]);omega
   have f:Lz a a.drew:=(Ac _ _).drew;clear d l D A X j Y Z;go_wp2;go_region_held3 (fun z=>Lz a z/\z.cell? ⟨g,0,none⟩=some (.int .i64 0)/\z.cell? ⟨g,1,none⟩=some (.int .i64 (n:Int))) (first|(exact Q.o _ f)|go_keep)
    ((first
     | (go_at_call 122;refine(WU.o _ (by assumption)).mono ?_;rintro e w6⟨⟨r,rfl,S⟩,m3⟩;clear f;have f:=m3;clear m3)
     | (go_at_call 121;refine(FW.o _ _ _ (by assumption) (by assumption)).mono ?_;rintro e w8⟨⟨y,rfl,C⟩,m3⟩;clear f;have f:=m3;clear m3)
     | (refine zd8 a.heap.size r (encU n) bv L (by rfl) (by rfl) (by assumption) (by rfl) (u.o _ f) ac.o (by have:=p.o;omega) f.size a.heap.size a f l_ ?_;intro va wa aA m3 U;clear f U S;have f:=m3;clear m3)))
   have M:=bT s f;have N:=h_ (C.base (base':=w.heap.size) s.size);clear f C WU FW Q u;go_wp2;go_ret2;exact⟨_,rfl,N.o,M.o⟩
  go_enter func85,ntmps85;go_wp2_with fail;rw[<-O.o,<-HG.o];refine(Z.o w0 m.o).mono ?_;rintro e w1⟨rfl,d⟩;have i:=bT m d;have j:=h_ (t.later d);obtain⟨c0,c1,c2⟩:=j.cells;clear d t;go_wp2_with fail;refine(Y.o w1 i.o).mono ?_;rintro e a⟨bv,rfl,l,d⟩;have s:=bT i d;have A:=j.later d;have D:=l.rd (by have:=p.2;omega);have u:=h_ (fun c(b:Lz a c)=>D.later b l_);clear c0 c1 c2;have X:=fun c(b:Lz a c)=>(A.later b).cells;have Q:=h_ (fun c(b:Lz a c)=>Al b (Al (X c b).1 (X c b).2.1));have WU:=h_ (fun c(b:Lz a c)=>(zd9 (n:Int) (by omega) (by omega) c).mono (fun e w'(h:RetB c (encU (n:Int).toNat) e w')=>show(∃r,e=.returned r/\Own w' a.heap.size r (encU n))/\Lz a w' from by
   obtain⟨r,T,l,d⟩:=h;rw[Aw]at l;exact⟨⟨r,T,l.base b.size⟩,b.trans (d.mono b.size)⟩))
  have FW:=h_ (fun k c v(b:Lz a c)(ho:Own c a.heap.size v (encU n++L))=>(zg3 k v (encU n++L) c (ho.rd (by have:=p.o;rw[Ae];omega))).mono (fun e w' h=>show(∃y,e=.returned (.tuple #[y,.int .i64 ((wrF k (encU n++L)).2:Nat)])/\Own w' a.heap.size y (wrF k (encU n++L)).1)/\Lz a w' from by
   obtain⟨y,T,l,d⟩:=h;exact⟨⟨y,T,l.base b.size⟩,b.trans (d.mono b.size)⟩))
  have aB:IntKind.u64.wrap (n:Int)=(n:Int):=by
   have:IntKind.u64.wrap (n:Int)=(n:Int)%18446744073709551616:=(by simp[IntKind.wrap,IntKind.signed,IntKind.bits]);omega
  have f:Lz a a.drew:=(Ac _ _).drew;clear d l D A X j Y Z;go_wp2;go_region_held3 (fun z=>Lz a z/\z.cell? ⟨g,0,none⟩=some (.int .i64 1)/\z.cell? ⟨g,1,none⟩=some (.int .i64 (n:Int))) (first|(exact Q.o _ f)|go_keep)
   ((first
    | (go_at_call 122;refine(WU.o _ (by assumption)).mono ?_;rintro e w6⟨⟨r,rfl,S⟩,m3⟩;clear f;have f:=m3;clear m3)
    | (go_at_call 121;refine(FW.o _ _ _ (by assumption) (by assumption)).mono ?_;rintro e w8⟨⟨y,rfl,C⟩,m3⟩;clear f;have f:=m3;clear m3)
    | (refine zd8 a.heap.size r (encU n) bv L (by rfl) (by rfl) (by assumption) (by rfl) (u.o _ f) ac.o (by have:=p.o;omega) f.size a.heap.size a f l_ ?_;intro va wa aA m3 U;clear f U S;have f:=m3;clear m3)))
  have M:=bT s f;have N:=h_ (C.base (base':=w.heap.size) s.size);clear f C WU FW Q u;go_wp2;go_ret2;exact⟨_,rfl,N.o,M.o⟩
 rw[Ab h0]at G;have q:((E:Int)!=0)=true:=by rw[Ao];omega
 have HW:=h_ G;clear hR hP hC hX b h0 G hE N1 N2 I hg;go_enter func85,ntmps85;go_wp2_with fail;rw[<-O.o,<-HG.o];refine(Z.o w0 m.o).mono ?_;rintro e w1⟨rfl,d⟩;have i:=bT m d;clear d t;go_wp2;go_ret2;rw[HW.o];exact⟨_,rfl,zaE _ _,i.o⟩
/- -/
def ApOV(w:World)(cs:List ColB)(seq:Int)(view:List PairB)(x:EntB)(vv:Value)(e:Ending)(w':World):Prop :=
 ∃v,e=.returned (.tuple #[.int .i64 (apN cs seq view x),v,.int .i64 (apE cs seq view x:Nat)])/\RdP w' v (apV cs seq view x)/\((v=vv/\apV cs seq view x=view)\/NewP w' w.heap.size v (apV cs seq view x))/\Lz w w'
variable {x:EntB} {seq:Int} {cs:List ColB} {view:List PairB} {w w':World}
def ApOV.no{d:Value}{k:Nat}{y:Int}(h:apE cs seq view x=k)(a:k≠0)(c:y=(k:Int))(b:Lz w w') :ApOV w cs seq view x d (.returned (.tuple #[.int .i64 0,.slice none 0 0,.int .i64 y])) w':=by
 subst c;refine⟨.slice none 0 0,?_,?_,.inr ?_,b⟩
 .unfold apN;rw[h,Aa a]
 .unfold apV;rw[h,Aa a];exact RdP.nil w'
 unfold apV;rw[h,Aa a];exact NewP.nil _ _
def ApOV.yes {qs:List PairB}{v a:Value}{n:Int}(h:apE cs seq view x=0)(c:x.2.1=n)(f:apV cs seq view x=qs)(e:RdP w' v qs)(d:(v=a/\qs=view)\/NewP w' w.heap.size v qs)(b:Lz w w') :ApOV w cs seq view x a (.returned (.tuple #[.int .i64 n,v,.int .i64 0])) w':=by
 subst c f;refine⟨v,?_,e,d,b⟩;unfold apN;rw[h,Ab rfl];rfl
def zeY(sv vv ev:Value)(cs:List ColB)(seq:Int)(view:List PairB)(x:EntB)(w:World)(hR:RdC w sv cs)(S:RdP w vv view)(hE:RdN w ev x)(hC:CS cs)(E:PSO view)(hX:EnO x)(M:inW seq) :Calls prog 84 #[sv,.int .i64 seq,vv,ev] w (ApOV w cs seq view x vv):=by
 obtain⟨kind,i,ps⟩:=x;obtain⟨pv,rfl,Q⟩:=hE;dsimp only at Q;obtain⟨U,no,V,rfl⟩:=Q.lit12;obtain⟨av,nv,cv,rfl⟩:=S.lit12;have p:=h_ (fun y(t:Lz w y)=>zcZ sv (.slice av nv cv) cs view y (hR.later t l_) (S.later t l_) hC E);have r:=h_ (fun y(t:Lz w y)=>zkG sv _ cs (kind,i,ps) y (hR.later t l_) ⟨_,rfl,Q.later t l_⟩ hC hX);have z:=h_ (fun y(t:Lz w y)=>zn2 (.slice av nv cv) (.slice U no V) view ps y (S.later t l_) (Q.later t l_));have D:=h_ (fun y(t:Lz w y)=>zx8 sv (.slice av nv cv) (.slice U no V) cs view ps y (hR.later t l_) (S.later t l_) (Q.later t l_) hC E hX.2.2);have J:=h_ (fun y(t:Lz w y)=>S.later t l_);obtain⟨N1,N2⟩:=za5 w (.cells #[.int .i64 kind,.int .i64 i,.slice U no V] 123);obtain⟨G,N⟩:=nm_ (w.alloc (.cells #[.int .i64 kind,.int .i64 i,.slice U no V] 123));rw[<-N]at N1 N2;obtain⟨g,hg⟩:=nm_ w.heap.size;rw[<-hg]at N1;have b:=h_ (show Ebox G g kind i (.slice U no V)from N1);have a:=h_ N2;have n:=h_ N;have H:=h_ hg;have d:apE cs seq view (kind,i,ps)=if chkZ cs view≠0 then chkZ cs view else if seq<0\/281474976710656<seq then 3 else if entE cs (kind,i,ps)≠0 then entE cs (kind,i,ps)
  else if(kind=0/\i≠seq+1)\/(kind=1/\i≠seq)then 14 else if kind=1 then(if ps=view then 0 else 15)else sumE cs view ps:=rfl
 have f:apE cs seq view (kind,i,ps)=0->apV cs seq view (kind,i,ps)=if kind=1 then view else sumO cs view ps:=fun h=>by unfold apV;rw[Ab h]
 have L:chkZ cs view=0->Zs cs view:=fun h=>⟨E,h⟩;have u:=zb8 (cs:=cs) (x:=(kind,i,ps));obtain⟨E1,Y⟩:=nm_ (chkZ cs view);obtain⟨E2,Z⟩:=nm_ (entE cs (kind,i,ps));rw[<-Y]at p d L;rw[<-Z]at r d u;clear hR S Q hC E hX N1 N2 N hg Y Z;by_cases h1:E1=0
 .subst h1;rw[Aa (by simp)]at d;clear L;by_cases h2:seq<0\/281474976710656<seq
  .rw[Ab h2]at d;have m:=h_ d;have hd:(decide (seq<0)=true)\/(decide (seq<0)=false/\decide (seq>281474976710656)=true):=by
    by_cases h:seq<0
    .exact .inl (Ah h)
    exact .inr ⟨Af h,Ah (by omega)⟩
   clear d f h2 r z D J u M;rcases hd with d5|⟨d5,d6⟩
   all_goals(
    go_enter func84,ntmps84;go_wp2_with fail;rw[<-n.o,<-H.o];refine(p.o G a.o).mono ?_;rintro e v⟨rfl,c⟩;replace a:=bT a c;replace b:=h_ (b.later c);clear c p;go_wp2;go_ret3;exact ApOV.no m.o (by decide) rfl a.o)
  rw[Aa h2]at d;have X:0<=seq/\seq<=281474976710656:=by omega
  have d5:decide (seq<0)=false:=Af (by omega);have d6:decide (seq>281474976710656)=false:=Af (by omega);clear h2;by_cases h3:E2=0
  .subst h3;rw[Aa (by simp)]at d;obtain⟨_,hk,hs,C⟩:=u.1 rfl;dsimp only at hk hs C;clear u;by_cases A:(kind=0/\i≠seq+1)\/(kind=1/\i≠seq)
   .rw[Ab A]at d;have m:=h_ d;have aM:=X;clear d f z D J C hk M hs X;rcases A with⟨rfl,A⟩|⟨rfl,A⟩
    .have d1:(i !=seq+1)=true:=(by rw[Ao];exact A);clear A;go_enter func84,ntmps84;go_wp2_with fail;rw[<-n.o,<-H.o];refine(p.o G a.o).mono ?_;rintro e v⟨rfl,c⟩;replace a:=bT a c;replace b:=h_ (b.later c);clear c p;obtain⟨j,k,l⟩:=b.cells;go_wp2_with fail;refine(r.o v a.o).mono ?_;rintro e I⟨rfl,c⟩;replace a:=bT a c;replace b:=h_ (b.later c);clear c r j k l;obtain⟨j,k,l⟩:=b.cells;go_wp2;go_ret3;exact ApOV.no m.o (by decide) rfl a.o
    have d1:(i !=seq)=true:=(by rw[Ao];exact A);clear A;go_enter func84,ntmps84;go_wp2_with fail;rw[<-n.o,<-H.o];refine(p.o G a.o).mono ?_;rintro e v⟨rfl,c⟩;replace a:=bT a c;replace b:=h_ (b.later c);clear c p;obtain⟨j,k,l⟩:=b.cells;go_wp2_with fail;refine(r.o v a.o).mono ?_;rintro e I⟨rfl,c⟩;replace a:=bT a c;replace b:=h_ (b.later c);clear c r j k l;obtain⟨j,k,l⟩:=b.cells;go_wp2;go_ret3;exact ApOV.no m.o (by decide) rfl a.o
   rw[Aa A]at d;have h0:(0:Int)≠1:=(by decide);rcases hk with rfl|rfl
   .rw[Aa h0]at d;rw[Aa h0]at f;obtain rfl:i=seq+1:=(by omega);have d1:((seq+1:Int)!=seq+1)=false:=(by simp);obtain⟨E4,aa⟩:=nm_ (sumE cs view ps);rw[<-aa]at d D;have m:=h_ d;have HV:=h_ f;clear d f A h0 z J C M hs aa;go_enter func84,ntmps84;go_wp2_with fail;rw[<-n.o,<-H.o];refine(p.o G a.o).mono ?_;rintro e v⟨rfl,c⟩;replace a:=bT a c;replace b:=h_ (b.later c);clear c p;obtain⟨j,k,l⟩:=b.cells;go_wp2_with fail;refine(r.o v a.o).mono ?_;rintro e I⟨rfl,c⟩;replace a:=bT a c;replace b:=h_ (b.later c);clear c r j k l;obtain⟨j,k,l⟩:=b.cells;go_wp2_with fail;refine(D.o I a.o).mono ?_;rintro e w5⟨rv,rfl,hr,c⟩;have s:=bT a c;have T:=h_ hr;have az:=hr.rd.lit12;clear c D hr j k l;obtain⟨ar,nr,cr,rfl⟩:=az;by_cases h9:E4=0
    .subst h9;go_wp2;go_ret3;exact ApOV.yes m.o rfl (HV.o m.o) T.rd (.inr (T.lower a.size)) s.o
    have q9:((E4:Int)!=0)=true:=(by rw[Ao];omega);have H9:=h_ h9;clear h9;go_wp2;go_ret3;exact ApOV.no m.o H9.o rfl s.o
   rw[Ab rfl]at d;rw[Ab rfl]at f;obtain rfl:i=seq:=(by omega);have d1:((i:Int)!=i)=false:=(by simp);clear A h0;by_cases O:ps=view
   .rw[Ab O]at d;have m:=h_ d;have HV:=h_ f;rw[Ah O.symm]at z;clear d f D C M hs O;go_enter func84,ntmps84;go_wp2_with fail;rw[<-n.o,<-H.o];refine(p.o G a.o).mono ?_;rintro e v⟨rfl,c⟩;replace a:=bT a c;replace b:=h_ (b.later c);clear c p;obtain⟨j,k,l⟩:=b.cells;go_wp2_with fail;refine(r.o v a.o).mono ?_;rintro e I⟨rfl,c⟩;replace a:=bT a c;replace b:=h_ (b.later c);clear c r j k l;obtain⟨j,k,l⟩:=b.cells;go_wp2_with fail;refine(z.o I a.o).mono ?_;rintro e w5⟨rfl,c⟩;have s:=bT a c;clear c z j k l;go_wp2;go_ret3;exact ApOV.yes m.o rfl (HV.o m.o) (J.o w5 s.o) (.inl ⟨rfl,rfl⟩) s.o
   rw[Aa O]at d;have m:=h_ d;rw[Af (fun e=>O e.symm)]at z;clear d f D J C M hs O;go_enter func84,ntmps84;go_wp2_with fail;rw[<-n.o,<-H.o];refine(p.o G a.o).mono ?_;rintro e v⟨rfl,c⟩;replace a:=bT a c;replace b:=h_ (b.later c);clear c p;obtain⟨j,k,l⟩:=b.cells;go_wp2_with fail;refine(r.o v a.o).mono ?_;rintro e I⟨rfl,c⟩;replace a:=bT a c;replace b:=h_ (b.later c);clear c r j k l;obtain⟨j,k,l⟩:=b.cells;go_wp2_with fail;refine(z.o I a.o).mono ?_;rintro e w5⟨rfl,c⟩;have s:=bT a c;clear c z j k l;go_wp2;go_ret3;exact ApOV.no m.o (by decide) rfl s.o
  rw[Ab h3]at d;have m:=h_ d;have q3:((E2:Int)!=0)=true:=by rw[Ao];omega
  have H3:=h_ h3;clear d f h3 z D J u M;go_enter func84,ntmps84;go_wp2_with fail;rw[<-n.o,<-H.o];refine(p.o G a.o).mono ?_;rintro e v⟨rfl,c⟩;replace a:=bT a c;replace b:=h_ (b.later c);clear c p;obtain⟨j,k,l⟩:=b.cells;go_wp2_with fail;refine(r.o v a.o).mono ?_;rintro e I⟨rfl,c⟩;replace a:=bT a c;replace b:=h_ (b.later c);clear c r j k l;go_wp2;go_ret3;exact ApOV.no m.o H3.o rfl a.o
 rw[Ab h1]at d;have m:=h_ d;have q1:((E1:Int)!=0)=true:=by rw[Ao];omega
 have H1:=h_ h1;clear d f h1 L r z D J u M;go_enter func84,ntmps84;go_wp2_with fail;rw[<-n.o,<-H.o];refine(p.o G a.o).mono ?_;rintro e v⟨rfl,c⟩;replace a:=bT a c;replace b:=h_ (b.later c);clear c p;go_wp2;go_ret3;exact ApOV.no m.o H1.o rfl a.o
end
section
open _root_.Go.Proofs.Tryz
variable {w w':World}
def zcF{b:Func}{t u v x y:Tmp}(h:b.results=#[.tmp t,.tmp u,.tmp v,.tmp x,.tmp y])(a:Array Value)(P:Program)(w:World) :(results b a).run P w=.ok (.tuple #[a.getD t undef,a.getD u undef,a.getD v undef,a.getD x undef,a.getD y undef]) w:=by
 simp[results,h]
def zxF(v:Value)(cs:List ColB)(w:World)(D:RdC w v cs)(C:CS cs) :Calls prog 98 #[v] w (RetW w (hdW (colsL cs))):=by
 have s:=h_ (fun i(hz:Lz w i)=>zbE v cs i (D.later hz l_) C);have c:hdW (colsL cs)=if errS (colsL cs)≠0 then([],errS (colsL cs))else(hdB (colsL cs),0):=rfl;obtain⟨E,t⟩:=nm_ (errS (colsL cs));rw[<-t]at s c;by_cases Q:E=0
 .subst Q;rw[Aa (by simp)]at c;have J:=h_ (fun i(hz:Lz w i)=>zkE v cs i (D.later hz l_) C t.symm);have f:=zbO t.symm;have m:wrF 0 (wrS (colsL cs))=(frB 0 (wrS (colsL cs)),0):=by unfold wrF;rw[Aa (by omega),Aa (by omega)];rfl
  have l:=zh1 0 f;have k:=zb5 0 (wrS (colsL cs));have c:hdW (colsL cs)=([68,75,76,49]++frB 0 (wrS (colsL cs)),0):=c;have N:=h_ c;obtain⟨L,U⟩:=nm_ (wrS (colsL cs));rw[<-U]at J f m l k c;rw[c];have G:=h_ (fun u i(h:Rd i u L)=>by have:=zg3 0 u L i h;rw[m]at this;exact this);have a:=h_ (Al f (Al l k));obtain⟨F,T⟩:=nm_ (frB 0 L);rw[<-T]at G a ⊢;clear f m l k c U T t D C;go_enter func98,ntmps98;go_wp2_with fail;refine(s.o w (Ac _ _)).mono ?_;rintro e V⟨rfl,d⟩;have b:=h_ d;clear d s;go_wp2_with fail;refine(J.o V b.o).mono ?_;rintro e X⟨Z,rfl,g,d⟩;have p:=bT b d;have r:=h_ (g.rd (by have:=a.o;omega));clear d g J b;go_wp2_with fail;refine(G.o Z X r.o).mono ?_;rintro e n⟨O,rfl,g,d⟩;replace g:Own n X.heap.size O F:=g;have j:=bT p d;have Y:=h_ g;have M:=Lib.run_convert_bytes_const (P:=prog) n 34 5 #[.int .u8 68,.int .u8 75,.int .u8 76,.int .u8 49] 4 4 underlying34 underlying5;have S:=zAG n [68,75,76,49] (by decide) (4,5);have x:Lz w (n.alloc (.cells #[.int .u8 68,.int .u8 75,.int .u8 76,.int .u8 49] 5 (4,5))):=j.alloc j.size _;have A:=(g.rd (by have:=a.o;omega)).alloc (.cells #[.int .u8 68,.int .u8 75,.int .u8 76,.int .u8 49] 5 (4,5));have aa:w.heap.size<=n.heap.size:=j.size;clear d g G p r;go_wp2_with (refine zfO n.heap.size 4 [68,75,76,49] F ?hs S O ?hx A ?hp ?hf ?hn w.heap.size w x ?hz ?_)
  case hs=>rfl
  case hx=>rfl
  case hp=>have:=a.o;omega
  case hf=>have:=a.o;simp;omega
  case hn=>have:=a.o;simp;omega
  case hz=>simp;omega
  intro v4 w4 z y;have I:=h_ (z.base (base':=w.heap.size) (by simp;omega));have H:=h_ y;clear x A S M z y;go_wp2;go_ret2;exact⟨_,rfl,I.o,H.o⟩
 rw[Ab Q]at c;have q:((E:Int)!=0)=true:=by rw[Ao];omega
 have N:=h_ c;clear c t D C;go_enter func98,ntmps98;go_wp2_with fail;refine(s.o w (Ac _ _)).mono ?_;rintro e V⟨rfl,d⟩;have b:=h_ d;clear d s;go_wp2;go_ret2;rw[N.o];exact⟨_,rfl,zaE _ _,b.o⟩
def WkO(w:World)(r:Bs×Int×List PairB×Nat×Nat)(e:Ending)(w':World):Prop :=
 ∃ov vv,e=.returned (.tuple #[ov,.int .i64 r.2.1,vv,.int .i64 (r.2.2.2.1:Nat),.int .i64 (r.2.2.2.2:Nat)])/\Own w' w.heap.size ov r.1/\OffS w' vv r.2.2.1 (fun j=>j<w.heap.size)/\Lz w w'
def WkO.no{r:Bs×Int×List PairB×Nat×Nat}{k E:Nat}{y z:Int}(h:r=([],0,[],k,E))(b:y=(k:Int))(c:z=(E:Int))(a:Lz w w') :WkO w r (.returned (.tuple #[.slice none 0 0,.int .i64 0,.slice none 0 0,.int .i64 y,.int .i64 z])) w':=by
 subst h b c;exact⟨_,_,rfl,zaE _ _,OffS.nil _ _,a⟩
def OffS.grow13{v c d:Value}{ps:List PairB}{N:Nat}(h:OffS w v ps fun j=>j<N\/c.ownBlock=some j)(i:w.grownBy w' c.ownBlock)(hp:Place w c d):OffS w' v ps fun j=>j<N\/d.ownBlock=some j:=by
 have g:=h.more (Q':=fun j=>(j<N\/c.ownBlock=some j)\/(j<N\/d.ownBlock=some j)) fun j f b a=>by
  rcases a with a|a|a
  .exact b a
  .exact b (.inl a)
  rcases hp with e|hp
  .rw[e]at a;exact b (.inr a)
  have:=hp j a;omega
 exact(g.keep fun j f b=>i.block j f fun e=>b (.inl (.inr e.symm))).more fun j _ b a=>b (.inr a)
def zmY(v:Value)(cs:List ColB)(es:List EntB)(w:World)(hT:zi4 w v cs es)(hC:CS cs)(hO:∀x∈es,EnO x) :Calls prog 72 #[v] w (WkO w (trE cs es)):=by
 obtain⟨sv,ev,rfl,hR,hZ⟩:=hT;obtain⟨X,ne,Y,rfl⟩:=hZ.lit;obtain⟨D,M,G,rfl⟩:=hR.lit12;have HD:=fun f(a:Lz w f)=>zxF (.slice D M G) cs f (hR.later a l_) hC;have hH:hdW (colsL cs)=if errS (colsL cs)≠0 then([],errS (colsL cs))else(hdB (colsL cs),0):=rfl;have hE:trE cs es=if errS (colsL cs)≠0 then([],0,[],0,errS (colsL cs))else if(trW cs 0 0 [] es).2.2.2.2≠0 then trW cs 0 0 [] es else(hdB (colsL cs)++(trW cs 0 0 [] es).1,(trW cs 0 0 [] es).2):=rfl;have ak:=hZ.len;have be:=hZ.small;obtain⟨N1,N2⟩:=za5 w (.cells #[.slice D M G,.slice X ne Y] 55);obtain⟨w0,aF⟩:=nm_ (w.alloc (.cells #[.slice D M G,.slice X ne Y] 55));rw[<-aF]at N1 N2;obtain⟨g,hg⟩:=nm_ w.heap.size;rw[<-hg]at N1;have ad:=h_ (show Tbox w0 g (.slice D M G) (.slice X ne Y)from N1);have C:=h_ N2;have aU:=h_ aF;have HG:=h_ hg;clear N1 N2 aF hg;by_cases h0:errS (colsL cs)=0
 .rw[Aa (fun h=>h h0)]at hH hE;rw[hH]at HD;have p:=h_ HD;have aC:=zcJ h0;obtain⟨H,a0⟩:=nm_ (hdB (colsL cs));rw[<-a0]at hE aC p;have HE:=h_ hE;have bm:=h_ aC;have HO:=h_ hO;have HZ:=h_ (fun f(a:Lz w f)=>hZ.later a l_);have bs:=h_ (fun f(a:Lz w f)=>hR.later a l_);obtain⟨n,hn⟩:=nm_ es.length;rw[<-hn]at ak be;have HN:=h_ hn;clear HD hH hE aC a0 hO hZ hR hn;go_enter func72,ntmps72;have aG:=ad.cells;obtain⟨c0,c1⟩:=aG;go_wp2_with fail;rw[<-aU.o,<-HG.o];refine(p.o w0 C.o).mono ?_;rintro e w1⟨hv,rfl,ag,I⟩;have Z:=bT C I;have aV:=h_ (ad.later I);have aQ:=h_ (ag.base (base':=w.heap.size) C.size);clear I ag p c0 c1 ad C;go_wp2;go_loopw [7,9,10,11] (fun o s vv i wr=>∃(k:Nat)(A:Bs)(N:Int)(view:List PairB),k<=n/\i=.int .i64 k/\s=.int .i64 N/\Hid (trW cs 0 0 [] (es.take k)=(A,N,view,k,0))/\Hid (Own wr w.heap.size o (H++A))/\Hid (OffS wr vv view fun j=>j<w.heap.size\/o.ownBlock=some j)/\Hid (Tbox wr g (.slice D M G) (.slice X ne Y))/\Hid (Lz w wr)) (fun _ _ _ i _=>n-(intOf i).toNat)
  case atStart=>exact⟨0,[],0,[],by omega,rfl,rfl,h_ (by rw[AU,trW]),h_ (by rw[AV];exact aQ.o),h_ (OffS.nil _ _),aV,Z⟩
  clear aV Z aQ;obtain⟨k,A,N,view,hk,rfl,rfl,HS,HA,HV,an,HB⟩:=hrel;have bC:=an.cells;obtain⟨c0,c1⟩:=bC;by_cases ba:k<n
  .have m:k<es.length:=(by rw[<-HN.o];exact ba);by_cases U:4096<=k
   .have HT:=h_ (zv8 HS.o m U);have hd:decide ((k:Int)≥4096)=true:=Ah (by omega);clear U m;go_wp2
    (try simp only[Exit.inBlock,Exit.then]);refine bodyPost_ret (zcF rfl _ _ _) rfl ?_
    exact WkO.no (by rw[HE.o,HT.o];exact Ab (by simp)) rfl rfl HB.o
   have hd:decide ((k:Int)≥4096)=false:=Af (by omega);have aE:k<4096:=(by omega);obtain⟨r,t,pv,bG,e0,e1,e2,J,bz⟩:=(HZ.o wr HB.o).get m;obtain⟨x,hx⟩:=nm_ (es.getD k default);have ay:EnO x:=(by rw[hx];exact HO.o _ (znH m default));rw[<-hx]at e0 e1 J;obtain⟨kd,d,ps⟩:=x;dsimp only at e0 e1 e2 J;obtain⟨ap,np,cp,rfl⟩:=J.lit12;obtain⟨av,nv,cv,rfl⟩:=HV.rd.lit12;obtain⟨n1,n2,n3⟩:=zv9 HO.o HS.o (by omega) (by omega);have ax:=bs.o wr HB.o;have a7:∀b,u7.ownBlock=some b->b<wr.heap.size:=fun b I=>(World.ownsRow.lt HA.o b I).2;have AP:=h_ (fun f(a:Lz wr f)=>(zeY (.slice D M G) (.slice av nv cv) (.agg #[.int .i64 kd,.int .i64 d,.slice ap np cp]) cs N view (kd,d,ps) f (ax.later a l_) (HV.rd.later a l_) ⟨_,rfl,J.later a l_⟩ hC n1 ay n2).mono
    (fun e w' h=>show(∃rv,e=.returned (.tuple #[.int .i64 (apN cs N view (kd,d,ps)),rv,.int .i64 (apE cs N view (kd,d,ps):Nat)])/\OffS w' rv (apV cs N view (kd,d,ps)) fun j=>j<w.heap.size\/u7.ownBlock=some j)/\Lz wr w' from by
     obtain⟨rv,he,hr,u,I⟩:=h;have a9:=a.trans (I.mono a.size);refine⟨⟨rv,he,?_⟩,a9⟩;rcases u with⟨e1,e2⟩|u
     .rw[e1,e2];exact HV.later a9
     .exact u.offS fun j hj u=>by
       have h1:=HB.size;have h2:=a.size;rcases u with u|u
       .omega
       .have:=a7 j u;omega))
   have WR:=h_ (fun f(a:Lz wr f)=>(zkD (.slice D M G) (.agg #[.int .i64 kd,.int .i64 d,.slice ap np cp]) cs (kd,d,ps) f (ax.later a l_) ⟨_,rfl,J.later a l_⟩ hC ay).mono
    (fun e w' h=>show((∃bv,e=.returned (.tuple #[bv,.int .i64 ((entW cs (kd,d,ps)).2:Nat)])/\Own w' wr.heap.size bv (entW cs (kd,d,ps)).1)/\Lz f w')/\Lz wr w' from by
     obtain⟨bv,he,hO,I⟩:=h;exact⟨⟨⟨bv,he,hO.base a.size⟩,I⟩,a.trans (I.mono a.size)⟩))
   have az:=an.o;have Q:=h_ (fun f(a:Lz wr f)=>Al a (Al (az.later a).cells.1 (Al (az.later a).cells.2 (Al (za6 a e0) (Al (za6 a e1) (za6 a e2))))));have hL:=zvA HS.o m aE hx;have hM:=zv7 HS.o m aE hx;have l:=ztD HO.o HS.o m aE hx;have ab:=h_ (Al n3 (entW_small cs (kd,d,ps)));have c:Lz wr wr.drew:=(Ac _ _).drew;have aa:=h_ (fun f(a:Lz wr f)=>HB.trans (a.mono HB.size));obtain⟨E,T⟩:=nm_ (apE cs N view (kd,d,ps));obtain⟨W,a6⟩:=nm_ (entW cs (kd,d,ps));rw[<-T]at AP hL hM l;rw[<-a6]at WR hM l ab;obtain⟨V,a5⟩:=nm_ (apV cs N view (kd,d,ps));obtain⟨S,a4⟩:=nm_ (apN cs N view (kd,d,ps));rw[<-a5,<-a4]at AP l;clear T a6 a5 a4 hx ay J ax n1 n2 n3 U m bz e0 e1 e2 az a7;by_cases af:E=0
   .subst af;obtain⟨B,y⟩:=W;dsimp only at hM l WR ab;by_cases ah:y=0
    .subst ah;have bo:=h_ (l rfl rfl);clear hL hM l;go_wp2;go_region_held3 (fun z=>Lz wr z/\z.cell? ⟨g,0,none⟩=some (.slice D M G)/\z.cell? ⟨g,1,none⟩=some (.slice X ne Y)/\z.cell? ⟨r,t,none⟩=some (.int .i64 kd)/\z.cell? ⟨r,t+1,none⟩=some (.int .i64 d)/\z.cell? ⟨r,t+2,none⟩=some (.slice ap np cp)) (first|(exact Q.o _ c)|go_keep)
      ((first
       | (go_at_call 84;refine(AP.o _ (by assumption)).mono ?_;rintro e w6⟨⟨rv,rfl,L⟩,m3⟩;clear c;have c:=m3;clear m3)))
     replace c:=c.drew;have aR:=h_ (L.later (Ac _ _).drew);clear L;go_wp2;go_region_held3 (fun z=>Lz wr z/\z.cell? ⟨g,0,none⟩=some (.slice D M G)/\z.cell? ⟨g,1,none⟩=some (.slice X ne Y)/\z.cell? ⟨r,t,none⟩=some (.int .i64 kd)/\z.cell? ⟨r,t+1,none⟩=some (.int .i64 d)/\z.cell? ⟨r,t+2,none⟩=some (.slice ap np cp)) (first|(exact Q.o _ c)|go_keep)
      ((first
       | (go_at_call 85;refine(WR.o _ (by assumption)).mono ?_;rintro e w7⟨⟨⟨bv,rfl,ai⟩,u⟩,m3⟩;clear c;have c:=m3;clear m3)))
     have aS:=h_ (aR.later u);have O:=h_ (aa.o _ c);have aW:=h_ (an.later c);have aA:=HA.later c l_;have bS:B.length<=1048591:=ab.2;have bd:Rd w7 bv B:=ai.rd (by show B.length<=_;omega);have aB:=O.o;clear c ai u aR AP WR Q aa HA HV HB;go_wp2_with (with_reducible refine zeU w.heap.size _ (H++A) ?hs aA _ B ?hx bd ?hn ?hbase w.heap.size w aB l_ ?_)
     case hs=>rfl
     case hx=>rfl
     case hn=>have h1:A.length<=k*1048591:=ab.1;have h2:=bm.o;rw[Ae];omega
     case hbase=>exact aB.size
     intro v8 w8 bb a8 aD bc;have bk:=h_ (show Own w8 w.heap.size v8 (H++(A++B))from by rw[<-An];exact bb);have bl:=h_ a8;have br:=h_ (aS.grow13 aD bc);have bu:=h_ (show Tbox w8 g (.slice D M G) (.slice X ne Y)from by
      unfold Tbox;have h1:=aW.o;unfold Tbox at h1;rw[aD.block g (Aj.1 h1).1 (fun e=>by
       obtain⟨bP,h2⟩:=zxN aA e.symm;rw[h1]at h2;injection h2 with h2;injection h2 with _ h3 _;exact absurd h3 (by decide))]
      exact h1)
     clear bb a8 aD bc aA bd aB aS aW;go_wp2;go_roundw
     case rel=>exact⟨k+1,A++B,S,V,by omega,by go_num,rfl,bo,bk,br,bu,bl⟩
     simp[intOf];omega
    have HT:=h_ (hM rfl ah);have bt:=h_ ah;have q:((y:Int)!=0)=true:=(by rw[Ao];omega);clear hL hM l ah;go_wp2;go_region_held3 (fun z=>Lz wr z/\z.cell? ⟨g,0,none⟩=some (.slice D M G)/\z.cell? ⟨g,1,none⟩=some (.slice X ne Y)/\z.cell? ⟨r,t,none⟩=some (.int .i64 kd)/\z.cell? ⟨r,t+1,none⟩=some (.int .i64 d)/\z.cell? ⟨r,t+2,none⟩=some (.slice ap np cp)) (first|(exact Q.o _ c)|go_keep)
     ((first
      | (go_at_call 84;refine(AP.o _ (by assumption)).mono ?_;rintro e w6⟨⟨rv,rfl,L⟩,m3⟩;clear c;have c:=m3;clear m3)))
    clear L;replace c:=c.drew;go_wp2;go_region_held3 (fun z=>Lz wr z/\z.cell? ⟨g,0,none⟩=some (.slice D M G)/\z.cell? ⟨g,1,none⟩=some (.slice X ne Y)/\z.cell? ⟨r,t,none⟩=some (.int .i64 kd)/\z.cell? ⟨r,t+1,none⟩=some (.int .i64 d)/\z.cell? ⟨r,t+2,none⟩=some (.slice ap np cp)) (first|(exact Q.o _ c)|go_keep)
     ((first
      | (go_at_call 85;refine(WR.o _ (by assumption)).mono ?_;rintro e w7⟨⟨⟨bv,rfl,ai⟩,u⟩,m3⟩;clear c;have c:=m3;clear m3)))
    have O:=h_ (aa.o _ c);clear c ai;go_wp2
    (try simp only[Exit.inBlock,Exit.then]);refine bodyPost_ret (zcF rfl _ _ _) rfl ?_
    exact WkO.no (by rw[HE.o,HT.o];exact Ab bt.o) rfl rfl O.o
   have HT:=h_ (hL af);have q:((E:Int)!=0)=true:=(by rw[Ao];omega);have bn:=h_ af;clear hL hM l af;go_wp2;go_region_held3 (fun z=>Lz wr z/\z.cell? ⟨g,0,none⟩=some (.slice D M G)/\z.cell? ⟨g,1,none⟩=some (.slice X ne Y)/\z.cell? ⟨r,t,none⟩=some (.int .i64 kd)/\z.cell? ⟨r,t+1,none⟩=some (.int .i64 d)/\z.cell? ⟨r,t+2,none⟩=some (.slice ap np cp)) (first|(exact Q.o _ c)|go_keep)
    ((first
     | (go_at_call 84;refine(AP.o _ (by assumption)).mono ?_;rintro e w6⟨⟨rv,rfl,L⟩,m3⟩;clear c;have c:=m3;clear m3)))
   have O:=h_ (aa.o _ c);clear c L;go_wp2
   (try simp only[Exit.inBlock,Exit.then]);refine bodyPost_ret (zcF rfl _ _ _) rfl ?_
   exact WkO.no (by rw[HE.o,HT.o];exact Ab bn.o) rfl rfl O.o
  obtain rfl:k=n:=by omega
  have HT:=h_ (show trW cs 0 0 [] es=(A,N,view,k,0)from by have:=HS.o;rwa[Am (by rw[HN.o];exact l_)]at this);have HR:=h_ (show trE cs es=(H++A,N,view,k,0)from by rw[HE.o,HT.o];exact Aa (by simp));clear ba;go_wp2;go_quiet (fail);go_wp2
  (try simp only[Exit.inBlock,Exit.then]);refine bodyPost_ret (zcF rfl _ _ _) rfl ?_
  exact⟨_,_,by rw[HR.o];rfl,by rw[HR.o];exact HA.later (Go.below_drewN (Ac _ _) _) l_,by rw[HR.o];exact(HV.later (Go.below_drewN (Ac _ _) _)).more fun j _ hn u=>hn (.inl u),Go.below_drewN HB.o _⟩
 rw[Ab h0]at hH hE;rw[hH]at HD;have p:=h_ HD;have HE:=h_ hE;obtain⟨E,T⟩:=nm_ (errS (colsL cs));rw[<-T]at h0 p HE;have q:((E:Int)!=0)=true:=by rw[Ao];omega
 clear HD hH hE T hO hZ hR h0 ak be;go_enter func72,ntmps72;have aG:=ad.cells;obtain⟨c0,c1⟩:=aG;go_wp2_with fail;rw[<-aU.o,<-HG.o];refine(p.o w0 C.o).mono ?_;rintro e w1⟨hv,rfl,ag,I⟩;have Z:=bT C I;clear I ag p c0 c1;go_wp2
 (try simp only[Exit.inBlock,Exit.then]);refine bodyPost_ret (zcF rfl _ _ _) rfl ?_
 exact WkO.no HE.o rfl rfl Z.o
/- -/
def zJE(w:World)(r:Bs×Int×List PairB×Nat×Nat)(e:Ending)(w':World):Prop :=
 ∃ov,e=.returned (.tuple #[ov,.int .i64 (r.2.2.2.1:Nat),.int .i64 (r.2.2.2.2:Nat)])/\Own w' w.heap.size ov r.1/\Lz w w'
def zFL(w:World)(r:Bs×Int×List PairB×Nat×Nat)(e:Ending)(w':World):Prop :=
 ∃vv,e=.returned (.tuple #[.int .i64 r.2.1,vv,.int .i64 (r.2.2.2.2:Nat)])/\OffS w' vv r.2.2.1 (fun j=>j<w.heap.size)/\Lz w w'
def zqU(v:Value)(cs:List ColB)(es:List EntB)(w:World)(C:zi4 w v cs es)(p:CS cs)(s:∀x∈es,EnO x) :Calls prog 56 #[v] w (zJE w (trE cs es)):=by
 obtain⟨H,E,rfl,k,l⟩:=C;obtain⟨h,ne,j,rfl⟩:=l.lit;obtain⟨g,m,i,rfl⟩:=k.lit12;obtain⟨n,b⟩:=za5 w (.cells #[.slice g m i,.slice h ne j] 55);have f:=h_ (zmY (.agg #[.slice g m i,.slice h ne j]) cs es _ ⟨_,_,rfl,k.later b l_,l.later b l_⟩ p s);obtain⟨z,A⟩:=(show Tbox _ _ (.slice g m i) (.slice h ne j)from n).cells;have a:=h_ b;obtain⟨r,y⟩:=nm_ (trE cs es);rw[<-y]at f ⊢;clear n b k l p s y;go_enter func56,ntmps56;go_wp2_with fail;refine f.mono ?_;rintro e J⟨G,I,rfl,u,D,t⟩;have c:=bT a t;have d:=h_ (u.base (base':=w.heap.size) a.size);clear u D t f z A;go_wp2;go_ret3;exact⟨_,rfl,d.o,c.o⟩
def ztJ(v:Value)(cs:List ColB)(es:List EntB)(w:World)(D:zi4 w v cs es)(s:CS cs)(t:∀x∈es,EnO x) :Calls prog 65 #[v] w (zFL w (trE cs es)):=by
 obtain⟨L,H,rfl,l,m⟩:=D;obtain⟨h,ne,k,rfl⟩:=m.lit;obtain⟨g,n,i,rfl⟩:=l.lit12;obtain⟨p,b⟩:=za5 w (.cells #[.slice g n i,.slice h ne k] 55);have f:=h_ (zmY (.agg #[.slice g n i,.slice h ne k]) cs es _ ⟨_,_,rfl,l.later b l_,m.later b l_⟩ s t);obtain⟨A,C⟩:=(show Tbox _ _ (.slice g n i) (.slice h ne k)from p).cells;have a:=h_ b;obtain⟨r,y⟩:=nm_ (trE cs es);rw[<-y]at f ⊢;clear p b l m s t y;go_enter func65,ntmps65;go_wp2_with fail;refine f.mono ?_;rintro e N⟨J,M,rfl,G,z,u⟩;have c:=bT a u;have d:=h_ z;clear G z u f A C;go_wp2;go_ret3;exact⟨_,rfl,d.more fun j _ E I=>E (by have:=a.size;omega),c.o⟩
/- -/
/- -/
def zJ5(w:World)(P:Prop)(e:Ending)(w':World):Prop:=∃x:Int,e=.returned (.int .i64 x)/\(x=0\/x=1)/\(x=0->P)/\Lz w w'
def zuA(a:Value)(ps:List PairB)(w:World)(h:RdP w a ps) :Calls prog 26 #[.slice (some ⟨w.heap.size,0,none⟩) 1 1] (w.alloc (.cells #[a] 33)) (zJ5 (w.alloc (.cells #[a] 33)) (fewG ps)):=by
 have d:=(Ac w.heap.size w).alloc l_ (.cells #[a] 33);refine(zrG (.slice (some ⟨w.heap.size,0,none⟩) 1 1) [a] [ps] _ (zxI (z:=(0,0)) (AB _ _) (by simp)) (by simp) rfl (fun i j m l=>?_)).mono ?_
 .obtain rfl:i=0:=by simpa using j
  exact(h.later d l_).later l l_
 rintro e w'⟨x,f,k,g,b⟩;exact⟨x,f,k,fun c=>by simpa using g c,b⟩
/- -/
def zmL(w:World)(b:Bs)(e:Ending)(w':World):Prop :=
 ∃v,e=.returned (.tuple #[v,.int .i64 ((trD b).2.2.2.1:Nat),.int .i64 ((trD b).2.2.2.2:Nat)])/\(∀w2,Only (fun j=>j<w.heap.size) w' w2->zi4 w2 v (trD b).1 (trD b).2.1)/\CS (trD b).1/\Lz w w'
def curs13(cs:List ColB)(ms:List (Int×Nat)):List CurB:=ms.map fun m=>(m.1,(m.2:Int),((Crc.sum (wrS (colsL cs)):Nat):Int))
def zI6(w:World)(b:Bs)(e:Ending)(w':World):Prop :=
 ∃v,e=.returned (.tuple #[v,.int .i64 ((trD b).2.2.2.1:Nat),.int .i64 ((trD b).2.2.2.2:Nat)])/\RdG zbQ w' v ((curs13 (trD b).1 (trD b).2.2.1).map cuV)/\Lz w w'
end
section
open _root_.Go.Proofs.Tryz
def zmQ(v:Value)(cs:List ColB)(w:World)(T:RdC w v cs)(O:CS cs)(U:Tabs w) :Calls prog 52 #[v] w (RetW w (hdW (colsL cs))):=by
 have G:=fun a(hz:Lz w a)=>zqG v cs a (T.later hz l_) O (U.later hz);have f:hdW (colsL cs)=if errS (colsL cs)≠0 then([],errS (colsL cs))else(hdB (colsL cs),0):=rfl;by_cases p:errS (colsL cs)=0
 .rw[Aa (fun h=>h p)]at f;have i:=zbO p;have n:wrF 0 (wrS (colsL cs))=(frB 0 (wrS (colsL cs)),0):=by unfold wrF;rw[Aa (by omega),Aa (by omega)];rfl
  have m:=zh1 0 i;have l:=zb5 0 (wrS (colsL cs));have f:hdW (colsL cs)=([68,75,76,49]++frB 0 (wrS (colsL cs)),0):=f;obtain⟨L,S⟩:=nm_ (wrS (colsL cs));have y:=h_ (fun a(hz:Lz w a)=>(G a hz).mono (fun e w' h=>show ∃u,e=.returned (.tuple #[u,.int .i64 ((0:Nat):Int)])/\Lz a w'/\Own w' a.heap.size u L from by
   obtain⟨u,H,d,X⟩:=h;rw[p]at H X;rcases X with⟨h9,_⟩|⟨_,ho⟩
   .exact absurd rfl h9
   .exact⟨u,H,d,by rw[S];exact ho⟩))
  rw[<-S]at i n m l f;rw[f];have I:=h_ (fun u a(h:Rd a u L)=>by have:=zgC 0 u L a h;rw[n]at this;exact this);have c:=h_ (Al i (Al m l));obtain⟨F,hF⟩:=nm_ (frB 0 L);rw[<-hF]at I c ⊢;clear i n m l f S hF T O U G p;go_enter func52,ntmps52;go_wp2_with fail;refine(y.o w (Ac _ _)).mono ?_;rintro e w2⟨bv,rfl,d,j⟩;have t:=h_ d;have x:=h_ (j.rd (by have:=c.o;omega));clear d j y;go_wp2_with fail;refine(I.o bv w2 x.o).mono ?_;rintro e r⟨Y,rfl,j,d⟩;replace j:Own r w2.heap.size Y F:=j;have k:=bT t d;have ad:=h_ j;have V:=Lib.run_convert_bytes_const (P:=prog) r 34 5 #[.int .u8 68,.int .u8 75,.int .u8 76,.int .u8 49] 4 4 underlying34 underlying5;have Z:=zAG r [68,75,76,49] (by decide) (4,5);have z:Lz w (r.alloc (.cells #[.int .u8 68,.int .u8 75,.int .u8 76,.int .u8 49] 5 (4,5))):=k.alloc k.size _;have D:=(j.rd (by have:=c.o;omega)).alloc (.cells #[.int .u8 68,.int .u8 75,.int .u8 76,.int .u8 49] 5 (4,5));have ah:w.heap.size<=r.heap.size:=k.size;clear d j I t x;go_wp2_with (refine zfO r.heap.size 4 [68,75,76,49] F ?hs Z Y ?hx D ?hp ?hf ?hn w.heap.size w z ?hz ?_)
  case hs=>rfl
  case hx=>rfl
  case hp=>have:=c.o;omega
  case hf=>have:=c.o;simp;omega
  case hn=>have:=c.o;simp;omega
  case hz=>simp;omega
  intro v4 w4 C A;have N:=h_ (C.base (base':=w.heap.size) (by simp;omega));have M:=h_ A;clear z D Z V C A;go_wp2;go_ret2;exact⟨_,rfl,N.o,M.o⟩
 rw[Ab p]at f;obtain⟨E,Q⟩:=nm_ (errS (colsL cs));have y:=h_ (fun a(hz:Lz w a)=>(G a hz).mono (fun e w' h=>show ∃u,e=.returned (.tuple #[u,.int .i64 (E:Int)])/\Lz a w' from by
  obtain⟨u,H,d,X⟩:=h;exact⟨u,by rw[Q];exact H,d⟩))
 rw[<-Q]at f p;have q:((E:Int)!=0)=true:=by rw[Ao];omega
 have HH:=h_ f;clear f Q T O U G;go_enter func52,ntmps52;go_wp2_with fail;refine(y.o w (Ac _ _)).mono ?_;rintro e w1⟨u,rfl,d⟩;have J:=h_ d;clear d y;go_wp2;go_ret2;rw[HH.o];exact⟨_,rfl,zaE _ _,J.o⟩
variable {l:Bs} {base:Nat} {w w':World}
def Own.lit13{v:Value}(h:Own w base v l):∃a n cap,v=.slice a n cap:=by
 rcases h.2 with⟨rfl,_⟩|⟨g,cap,c,rfl,_⟩
 .exact⟨_,_,_,rfl⟩
 exact⟨_,_,_,rfl⟩
def Abox(w:World)(g:Nat)(sv:Value)(s:Int)(vv:Value):Prop:=w.heap[g]?=some (.cells #[sv,.int .i64 s,vv] 165 (0,0))
section
variable{w w':World}{g b:Nat}{sv vv ov:Value}{s:Int}
def Abox.cells(h:Abox w g sv s vv):w.cell? ⟨g,0,none⟩=some sv/\w.cell? ⟨g,1,none⟩=some (.int .i64 s)/\w.cell? ⟨g,2,none⟩=some vv :=
 ⟨Ag _ _ 0 _ _ _ h,Ag _ _ 1 _ _ _ h,Ag _ _ 2 _ _ _ h⟩
def Abox.free(h:Abox w g sv s vv)(i:Nat):w.frozen? ⟨g,i,none⟩=false:=At _ _ _ _ _ h
def Abox.lt(h:Abox w g sv s vv):g<w.heap.size:=(Aj.1 h).1
def Abox.later(h:Abox w g sv s vv)(a:Lz w w'):Abox w' g sv s vv:=(a.block g h.lt).trans h
def Abox.set(h:Abox w g sv s vv)(n:Int)(u:Value):Abox ((w.setCell ⟨g,1,none⟩ (.int .i64 n)).setCell ⟨g,2,none⟩ u) g sv n u:=by
 have:=block_setCell (k:=2) (block_setCell (k:=1) h (.int .i64 n)) u;unfold Abox;simpa using this
end
def TkO(w:World)(g:Nat)(sv vv:Value)(cs:List ColB)(s:Int)(v:List PairB)(x:EntB)(e:Ending)(w':World):Prop :=
 e=.returned (.int .i64 (apE cs s v x:Nat))/\Only (fun j=>j=g) w w' /\
  ((apE cs s v x≠0/\Abox w' g sv s vv)\/(apE cs s v x=0/\∃vn,Abox w' g sv (apN cs s v x) vn/\NewP w' w.heap.size vn (apV cs s v x)))
def zbF{S:Nat->Prop}{B:Nat}(h:Below B w w')(a:w.heap.size<=B):Only S w w':=(Only.refl S w).below h a
def zmP(g:Nat)(sv vv ev:Value)(cs:List ColB)(s:Int)(v:List PairB)(x:EntB)(w:World)(hA:Abox w g sv s vv)(hR:RdC w sv cs)(hV:RdP w vv v)(hE:RdN w ev x)(hC:CS cs)(T:PSO v)(hX:EnO x)(hq:inW s)(hT:Tabs w) :Calls prog 88 #[.pointer (some ⟨g,0,none⟩),ev] w (TkO w g sv vv cs s v x):=by
 obtain⟨kd,d,ps⟩:=x;obtain⟨pv,rfl,Y⟩:=hE;dsimp only at Y;obtain⟨I,L,J,rfl⟩:=Y.lit12;obtain⟨av,nv,cv,rfl⟩:=hV.lit12;obtain⟨ac,nc,cc,rfl⟩:=hR.lit12;obtain⟨X,H⟩:=za5 w (.cells #[.int .i64 kd,.int .i64 d,.slice I L J] 123);obtain⟨c,G⟩:=nm_ (w.alloc (.cells #[.int .i64 kd,.int .i64 d,.slice I L J] 123));rw[<-G]at X H;obtain⟨u,hg⟩:=nm_ w.heap.size;rw[<-hg]at X;have i:=h_ (show Ebox c u kd d (.slice I L J)from X);have a:=h_ (hA.later H);have N:=h_ H;have O:=h_ G;have HG:=h_ hg;have aG:=hA.lt;have M:=h_ (fun U(m:Lz c U)=>by
  have n:Lz w U:=H.trans (m.mono H.size);exact(ziN (.slice ac nc cc) (.slice av nv cv) (.agg #[.int .i64 kd,.int .i64 d,.slice I L J]) cs s v (kd,d,ps) U (hR.later n l_) (hV.later n l_) ⟨_,rfl,Y.later n l_⟩ hC T hX hq (hT.later n)).mono
   (fun e w' h=>show(∃rv,e=.returned (.tuple #[.int .i64 (apN cs s v (kd,d,ps)),rv,.int .i64 (apE cs s v (kd,d,ps):Nat)])/\NewP w' w.heap.size rv (apV cs s v (kd,d,ps)))/\Lz c w' from by
    obtain⟨rv,he,hn,hb⟩:=h;exact⟨⟨rv,he,hn.lower n.size⟩,m.trans (hb.mono m.size)⟩))
 obtain⟨E,A⟩:=nm_ (apE cs s v (kd,d,ps));obtain⟨V,D⟩:=nm_ (apV cs s v (kd,d,ps));obtain⟨S,C⟩:=nm_ (apN cs s v (kd,d,ps));unfold TkO;rw[<-A,<-D,<-C];rw[<-A,<-D,<-C]at M;have Q:=h_ (fun U(m:Lz c U)=>Al m (Al (a.later m).cells.1 (Al (a.later m).cells.2.1 (Al (a.later m).cells.2.2 (Al (i.later m).cells.1 (Al (i.later m).cells.2.1 (i.later m).cells.2.2))))));clear X H G hg A D C hR hV Y hC T hX hq hT hA;have f:Lz c c.drew:=(Ac _ _).drew;by_cases y:E=0
 .subst y;go_enter func88,ntmps88;go_wp2_with fail;rw[<-O.o,<-HG.o];go_region_held3 (fun z=>Lz c z/\z.cell? ⟨g,0,none⟩=some (.slice ac nc cc)/\z.cell? ⟨g,1,none⟩=some (.int .i64 s)/\z.cell? ⟨g,2,none⟩=some (.slice av nv cv)/\z.cell? ⟨u,0,none⟩=some (.int .i64 kd)/\z.cell? ⟨u,1,none⟩=some (.int .i64 d)/\z.cell? ⟨u,2,none⟩=some (.slice I L J)) (first|(exact Q.o _ f)|go_keep)
   ((first
    | (go_at_call 78;refine(M.o _ (by assumption)).mono ?_;rintro e Z⟨⟨rv,rfl,l⟩,m3⟩;clear f;have f:=m3;clear m3)))
  obtain⟨ar,nr,cr,rfl⟩:=l.rd.lit12;have k:=a.later f;obtain⟨c0,c1,c2⟩:=k.cells;have f1:=k.free 1;have f2:=k.free 2;have r:=h_ k;have t:=bT N f;have aa:=h_ l;clear k f l M Q i a;go_wp2;go_ret;have hO:Only (fun j=>j=g) w ((Z.setCell ⟨g,1,none⟩ (.int .i64 S)).setCell ⟨g,2,none⟩ (.slice ar nr cr)):=((zbF (S:=fun j=>j=g) t.o l_).setCell (p:=⟨g,1,none⟩) rfl _).setCell (p:=⟨g,2,none⟩) rfl _;have ah:Only (fun j=>j=g) Z ((Z.setCell ⟨g,1,none⟩ (.int .i64 S)).setCell ⟨g,2,none⟩ (.slice ar nr cr)):=((Only.refl (fun j=>j=g) _).setCell (p:=⟨g,1,none⟩) rfl _).setCell (p:=⟨g,2,none⟩) rfl _;exact⟨rfl,hO,.inr ⟨by trivial,_,r.set S _,aa.only ah (fun q hq hh=>by omega)⟩⟩
 have q:((E:Int)!=0)=true:=by rw[Ao];omega
 have HN:=h_ y;clear y;go_enter func88,ntmps88;go_wp2_with fail;rw[<-O.o,<-HG.o];go_region_held3 (fun z=>Lz c z/\z.cell? ⟨g,0,none⟩=some (.slice ac nc cc)/\z.cell? ⟨g,1,none⟩=some (.int .i64 s)/\z.cell? ⟨g,2,none⟩=some (.slice av nv cv)/\z.cell? ⟨u,0,none⟩=some (.int .i64 kd)/\z.cell? ⟨u,1,none⟩=some (.int .i64 d)/\z.cell? ⟨u,2,none⟩=some (.slice I L J)) (first|(exact Q.o _ f)|go_keep)
  ((first
   | (go_at_call 78;refine(M.o _ (by assumption)).mono ?_;rintro e Z⟨⟨rv,rfl,l⟩,m3⟩;clear f;have f:=m3;clear m3)))
 have r:=h_ (a.later f);have t:=bT N f;clear f l M Q i a;go_wp2;go_ret;exact⟨rfl,zbF t.o l_,.inl ⟨HN.o,r.o⟩⟩
/- -/
def WtO(W:World)(St:World->Bs->Int->List PairB->Prop)(r:Bs×Int×List PairB×Nat×Nat)(e:Ending)(w':World):Prop :=
 e=.returned (.tuple #[.int .i64 (r.2.2.2.1:Nat),.int .i64 (r.2.2.2.2:Nat)])/\Lz W w'/\(r.2.2.2.2=0->St w' r.1 r.2.1 r.2.2.1)
def WtO.no {W:World}{a:World->Bs->Int->List PairB->Prop}{r:Bs×Int×List PairB×Nat×Nat}{k E:Nat}{y z:Int}(h:r=([],0,[],k,E))(c:E≠0)(e:y=(k:Int))(f:z=(E:Int))(d:Lz W w') :WtO W a r (.returned (.tuple #[.int .i64 y,.int .i64 z])) w':=by
 subst h e f;exact⟨rfl,d,fun h=>absurd h c⟩
def PutO(W wz:World)(St:World->Bs->Int->List PairB->Prop)(l:Bs)(s:Int)(u:List PairB)(e:Ending)(w':World):Prop :=
 e=.returned (.tuple #[])/\Lz W w'/\(∀j sv ev,Tbox wz j sv ev->Tbox w' j sv ev)/\St w' l s u
def TakO(g:Nat)(wz:World)(St:World->Bs->Int->List PairB->Prop)(cs:List ColB)(l:Bs)(s:Int)(u:List PairB)(x:EntB)(e:Ending)(w':World):Prop :=
 e=.returned (.int .i64 (apE cs s u x:Nat))/\Only (fun j=>j=g) wz w'/\(apE cs s u x=0->St w' l (apN cs s u x) (apV cs s u x))
def ztB(pn:Nat)(cq:∀(args:Array Value)(u:World),(callFunc pn args).run prog u=.ok (.enter pn args) u)(cap:Array Value)(g:Nat)(N:World->Bs->Int->List PairB->Prop)(v:Value)(cs:List ColB)(es:List EntB)(W w:World)(hW:Lz W w)(hg:g<w.heap.size)(bl:W.heap.size<=g)(hT:zi4 W v cs es)(hC:CS cs)(hO:∀x∈es,EnO x)(ai:Tabs W)(hF:Frs W)(be:N w [] 0 [])(steady:∀w1 w2 l s u,N w1 l s u->Lz w1 w2->N w2 l s u)(take:∀a ev x l s u,Lz W a->N a l s u->PSO u->inW s->RdN a ev x->EnO x->Calls prog 88 #[.pointer (some ⟨g,0,none⟩),ev] a (TakO g a N cs l s u x))(put:∀a pv p l s u,Lz W a->N a l s u->Rd a pv p->l.length+p.length<=70368744177664->Calls prog pn (#[pv]++cap) a (PutO W a N (l++p) s u)) :Calls prog 87 #[v,.func (.func 88) #[.pointer (some ⟨g,0,none⟩)] #[],.func (.func pn) #[] cap] w (WtO W N (trE cs es)):=by
 obtain⟨sv,ev,rfl,hR,hZ⟩:=hT;obtain⟨ae,ne,ce,rfl⟩:=hZ.lit;obtain⟨ac,nc,cc,rfl⟩:=hR.lit12;have HD:=fun a(U:Lz W a)=>zmQ (.slice ac nc cc) cs a (hR.later U l_) hC (ai.later U);have hH:hdW (colsL cs)=if errS (colsL cs)≠0 then([],errS (colsL cs))else(hdB (colsL cs),0):=rfl;have hE:trE cs es=if errS (colsL cs)≠0 then([],0,[],0,errS (colsL cs))else if(trW cs 0 0 [] es).2.2.2.2≠0 then trW cs 0 0 [] es else(hdB (colsL cs)++(trW cs 0 0 [] es).1,(trW cs 0 0 [] es).2):=rfl;have ao:=hZ.len;have bp:=hZ.small;obtain⟨N1,N2⟩:=za5 w (.cells #[.slice ac nc cc,.slice ae ne ce] 55);obtain⟨w0,aI⟩:=nm_ (w.alloc (.cells #[.slice ac nc cc,.slice ae ne ce] 55));rw[<-aI]at N1 N2;obtain⟨tb,C⟩:=nm_ w.heap.size;rw[<-C]at N1;have Z:=h_ (show Tbox w0 tb (.slice ac nc cc) (.slice ae ne ce)from N1);have I:=h_ (hW.trans (N2.mono hW.size));have aV:=h_ (steady _ _ _ _ _ be N2);have a0:=h_ aI;have HG:=h_ C;have aS:=h_ (show g<tb by omega);have aT:=h_ bl;have aC:=h_ steady;have TK:=h_ take;have PT:=h_ put;clear N1 N2 aI C be hW hg bl steady take put;by_cases h0:errS (colsL cs)=0
 .rw[Aa (fun h=>h h0)]at hH hE
  rw[hH]at HD;have r:=h_ HD;have aH:=zcJ h0;obtain⟨H,bb⟩:=nm_ (hdB (colsL cs));rw[<-bb]at hE aH r;have HE:=h_ hE;have au:=h_ aH;have HO:=h_ hO;have HZ:=h_ (fun a(U:Lz W a)=>hZ.later U l_);have bP:=h_ (fun a(U:Lz W a)=>hR.later U l_);have bR:=h_ ai;have bL:=h_ hF;have bJ:=h_ hC;obtain⟨n,hn⟩:=nm_ es.length;rw[<-hn]at ao bp;have HN:=h_ hn;clear HD hH hE aH bb hO hZ hR hn ai hF hC;go_enter func87,ntmps87;obtain⟨c0,c1⟩:=Z.cells;go_wp2_with fail;rw[<-a0.o,<-HG.o];refine(r.o w0 I.o).mono ?_;rintro e w1⟨hv,rfl,af,D⟩;have X:=bT I D;have a2:=h_ (Z.later D);have aW:=h_ (aC.o _ _ _ _ _ aV.o D);have a4:=h_ (PT.o w1 hv H [] 0 [] X.o aW.o (af.rd (by have:=au.o;show H.length<=_;omega)) (by have:=au.o;simp;omega));clear D af r c0 c1 Z I aV;go_wp2_with fail;refine a4.mono ?_;rintro e w2⟨rfl,bi,bq,bn⟩;have aQ:=h_ bi;have ay:=h_ (bq _ _ _ a2.o);have aX:=h_ (show N w2 H 0 []from by simpa using bn);clear bi bq bn a4 a2 X aW;obtain⟨c0,c1⟩:=ay.cells;go_wp2;go_loopw [30] (fun i wr=>∃(k:Nat)(A:Bs)(sq:Int)(view:List PairB),k<=n/\i=.int .i64 k/\Hid (trW cs 0 0 [] (es.take k)=(A,sq,view,k,0))/\Hid (N wr (H++A) sq view)/\Hid (Tbox wr tb (.slice ac nc cc) (.slice ae ne ce))/\Hid (Lz W wr)) (fun i _=>n-(intOf i).toNat)
  case atStart=>exact⟨0,[],0,[],by omega,rfl,h_ (by rw[AU,trW]),h_ (by rw[AV];exact aX.o),ay,aQ⟩
  case round=>
   clear ay aQ aX c0 c1;obtain⟨k,A,sq,view,hk,rfl,HS,HA,aA,HB⟩:=hrel;obtain⟨c0,c1⟩:=aA.cells;have C:tb<wr.heap.size:=(Aj.1 aA.o).1;by_cases bm:k<n
   .have m:k<es.length:=by rw[<-HN.o];exact bm
    obtain⟨b9,o9,pv,cb,y0,y1,y2,z,bk⟩:=(HZ.o W (Ac _ _)).get m;obtain⟨x,hx⟩:=nm_ (es.getD k default);have ak:EnO x:=by rw[hx];exact HO.o _ (znH m default)
    rw[<-hx]at y0 y1 z;obtain⟨kd,G,ps⟩:=x;dsimp only at y0 y1 y2 z;obtain⟨ap,np,cp,rfl⟩:=z.lit12;have e0:=za6 HB.o y0;have e1:=za6 HB.o y1;have e2:=za6 HB.o y2;obtain⟨N1,N2⟩:=za5 wr (.cells #[.int .i64 kd,.int .i64 G,.slice ap np cp] 123);have bM:=h_ N2;have c:=bT HB N2;have aa:=h_ (aA.later N2);have L:=h_ (show Ebox _ wr.heap.size kd G (.slice ap np cp)from N1);have bK:=h_ (show wr.heap.size≠g by have:=aS.o;omega);clear N1 N2 y0 y1 y2 C;by_cases T:4096<=k
    .have HT:=h_ (zv8 HS.o m T)
     have hd:decide ((k:Int)≥4096)=true:=Ah (by omega);clear T m ak z hx bk L;go_wp2;go_ret2;exact WtO.no (by rw[HE.o,HT.o];exact Ab (by simp)) (by decide) rfl rfl c.o
    .have hd:decide ((k:Int)≥4096)=false:=Af (by omega)
     have Q:k<4096:=by omega
     obtain⟨n1,n2,n3⟩:=zv9 HO.o HS.o (by omega) (by omega);have hL:=zvA HS.o m Q hx;have hM:=zv7 HS.o m Q hx;have f:=ztD HO.o HS.o m Q hx;have M:=h_ (Al n3 (Al (entW_small cs (kd,G,ps)) Q));have d:=TK.o _ (.agg #[.int .i64 kd,.int .i64 G,.slice ap np cp]) (kd,G,ps) (H++A) sq view c.o (aC.o _ _ _ _ _ HA.o bM.o) n1 n2 ⟨_,rfl,z.later c.o l_⟩ ak;have WR:=h_ (fun a(U:Lz W a)=>zlE (.slice ac nc cc) (.agg #[.int .i64 kd,.int .i64 G,.slice ap np cp]) cs (kd,G,ps) a (bP.o a U) ⟨_,rfl,z.later U l_⟩ bJ.o ak (bR.later U) (bL.later U));unfold TakO at d;obtain⟨E,O⟩:=nm_ (apE cs sq view (kd,G,ps));obtain⟨R,bh⟩:=nm_ (entW cs (kd,G,ps));obtain⟨V,bg⟩:=nm_ (apV cs sq view (kd,G,ps));obtain⟨S,bf⟩:=nm_ (apN cs sq view (kd,G,ps));rw[<-O]at d hL hM f;rw[<-bh]at WR hM f M;rw[<-bg,<-bf]at d f;replace d:=h_ d;obtain⟨x0,x1,x2⟩:=L.cells;obtain⟨t0,t1⟩:=aa.cells;clear O bh bg bf hx ak n1 n2 n3 T bk m Q z HA HS;by_cases ad:E=0
     .subst ad
      obtain⟨B,y⟩:=R;dsimp only at hM f M;go_wp2_with fail;refine d.mono ?_;rintro e w4⟨rfl,t,ah⟩;have aY:=h_ (ah (by simp));have az:=h_ (show Tbox w4 tb (.slice ac nc cc) (.slice ae ne ce)from t.keep aa.o (by have:=aS.o;omega));have aR:=h_ (show Ebox w4 wr.heap.size kd G (.slice ap np cp)from t.keep L.o bK.o);have J:=h_ (c.trans (t.toBelow (B:=W.heap.size) (fun j hj=>by subst hj;exact aT.o) c.size));have a6:=h_ (WR.o w4 J.o);clear t ah d WR aa L c HB c0 c1 x0 x1 x2 t0 t1 e0 e1 e2;obtain⟨x0,x1,x2⟩:=aR.cells;obtain⟨t0,t1⟩:=az.cells;go_wp2_with fail;refine a6.mono ?_;rintro e w5⟨bv,rfl,ag,D⟩;replace ag:Own w5 w4.heap.size bv B:=ag;have aZ:=h_ (aC.o _ _ _ _ _ aY.o D);have a3:=h_ (az.later D);have ar:=bT J D;have aU:=h_ ag;clear D ag a6 aY az aR J x0 x1 x2 t0 t1;dsimp only;by_cases aj:y=0
      .subst aj
       have bN:=h_ (f (by simp) rfl);have a5:=h_ (PT.o w5 bv B (H++A) S V ar.o aZ.o (aU.rd (by have:=M.2.1;omega)) (by
        have h1:A.length<=k*1048591:=M.1;have h2:=au.o;have h3:=M.2;rw[Ae];omega))
       clear hL hM f aZ aU;go_wp2_with fail;refine a5.mono ?_;rintro e w6⟨rfl,bj,br,bo⟩;have bI:=h_ bj;have bS:=h_ (br _ _ _ a3.o);have bQ:=h_ (show N w6 (H++(A++B)) S V from by rw[<-An];exact bo);clear bj br bo a5 a3 ar;go_wp2;go_roundw
       case rel=>exact⟨k+1,A++B,S,V,by omega,by go_num,bN,bQ,bS,bI⟩
       case measure=>simp[intOf];omega
      .have HT:=h_ (hM (by simp) aj)
       have a1:=h_ aj;have q:((y:Int)!=0)=true:=by rw[Ao];omega
       clear hL hM f aj;go_wp2;go_ret2;exact WtO.no (by rw[HE.o,HT.o];exact Ab a1.o) a1.o rfl rfl ar.o
     .have HT:=h_ (hL ad)
      have q:((E:Int)!=0)=true:=by rw[Ao];omega
      have Y:=h_ ad;clear hL hM f ad;go_wp2_with fail;refine d.mono ?_;rintro e w4⟨rfl,t,ah⟩;have J:=h_ (c.trans (t.toBelow (B:=W.heap.size) (fun j hj=>by subst hj;exact aT.o) c.size));clear t ah d WR aa L c HB c0 c1 x0 x1 x2 t0 t1 e0 e1 e2;go_wp2;go_ret2;exact WtO.no (by rw[HE.o,HT.o];exact Ab Y.o) Y.o rfl rfl J.o
   .obtain rfl:k=n:=by omega
    have HT:=h_ (show trW cs 0 0 [] es=(A,sq,view,k,0)from by have:=HS.o;rwa[Am (by rw[HN.o];exact l_)]at this);have HR:=h_ (show trE cs es=(H++A,sq,view,k,0)from by rw[HE.o,HT.o];exact Aa (by simp));clear bm C;go_wp2;go_ret2;unfold WtO;rw[HR.o];exact⟨rfl,HB.o,fun _=>HA.o⟩
 .rw[Ab h0]at hH hE
  rw[hH]at HD;have r:=h_ HD;have HE:=h_ hE;obtain⟨E,O⟩:=nm_ (errS (colsL cs));rw[<-O]at h0 r HE;have Y:=h_ h0;have q:((E:Int)!=0)=true:=by rw[Ao];omega
  clear HD hH hE O hO hZ hR h0 ao bp ai hF hC;go_enter func87,ntmps87;obtain⟨c0,c1⟩:=Z.cells;go_wp2_with fail;rw[<-a0.o,<-HG.o];refine(r.o w0 I.o).mono ?_;rintro e w1⟨hv,rfl,af,D⟩;have X:=bT I D;clear D af r c0 c1;go_wp2;go_ret2;exact WtO.no HE.o Y.o rfl rfl X.o
/- -/
def StV(g base:Nat)(sv:Value)(w:World)(l:Bs)(s:Int)(u:List PairB):Prop :=
 base<=w.heap.size/\∃vv,Abox w g sv s vv/\OffS w vv u fun q=>q<base
def StV.steady {g:Nat}{sv:Value}{c d:World}{s:Int}{u:List PairB}(h:StV g base sv c l s u)(a:Lz c d):StV g base sv d l s u:=by
 obtain⟨e,vv,f,i⟩:=h;exact⟨Ar e a.size,vv,f.later a,i.later a⟩
def StV.take{g base:Nat}{sv c:Value}{cs:List ColB}{a:World}{x:EntB}{l:Bs}{s:Int}{u:List PairB}(H:g<base)(h:StV g base sv a l s u)(y:RdC a sv cs)(r:CS cs)(z:Tabs a)(E:PSO u)(D:inW s)(t:RdN a c x)(A:EnO x) :Calls prog 88 #[.pointer (some ⟨g,0,none⟩),c] a (TakO g a (StV g base sv) cs l s u x):=by
 obtain⟨i,vv,k,m⟩:=h;refine(zmP g sv vv c cs s u x a k y m.rd t r E A D z).mono ?_;rintro e w'⟨rfl,d,f⟩;refine⟨rfl,d,fun n=>?_⟩;rcases f with⟨C,_⟩|⟨_,G,p,v⟩
 .exact absurd n C
 exact⟨Ar i d.size,G,p,v.offS fun j I f=>by omega⟩
def zwP(a:Value)(w:World):Calls prog 89 #[a] w fun e w'=>e=.returned (.tuple #[])/\w=w':=by
 go_enter func89,ntmps89;go_wp2;exact⟨rfl,.tuple #[],by simp[results,results89,go_sem],rfl,rfl⟩
def zrZ(args:Array Value)(u:World):(callFunc 89 args).run prog u=.ok (.enter 89 args) u:=zlG func89 (by kernel_rfl) rfl args u
def ztC(v:Value)(cs:List ColB)(es:List EntB)(w:World)(hT:zi4 w v cs es)(S:CS cs)(z:∀x∈es,EnO x)(f:Tabs w)(hF:Frs w) :Calls prog 63 #[v] w (zFL w (trE cs es)):=by
 have an:∀(Y:Fn)(first cap:Array Value)(w:World),(Instr.makeFunc Y first cap).run prog w=.ok (.func Y first cap) w:=fun _ _ _ _=>rfl;obtain⟨sv,ev,rfl,L,T⟩:=hT;obtain⟨G,ne,J,rfl⟩:=T.lit;obtain⟨c,y,d,rfl⟩:=L.lit12;obtain⟨E,V,X,m⟩:=new2 w (.cells #[.slice c y d,.slice G ne J] 55) (.cells #[.slice c y d,.int .i64 0,.slice none 0 0] 165);obtain⟨w3,t⟩:=nm_ ((w.alloc (.cells #[.slice c y d,.slice G ne J] 55)).alloc (.cells #[.slice c y d,.int .i64 0,.slice none 0 0] 165));rw[<-t]at E V X m;have D:=h_ (ztB 89 zrZ #[] (w.heap.size+1) (StV (w.heap.size+1) (w.heap.size+2) (.slice c y d))
  (.agg #[.slice c y d,.slice G ne J]) cs es w w3 m (by omega) (by omega) ⟨_,_,rfl,L,T⟩ S z f hF
  ⟨by omega,_,X,OffS.nil _ _⟩ (fun _ _ _ _ _ h i=>h.steady i)
  (fun wz ev x l s u M h hu A hE hX=>StV.take (by omega) h (L.later M l_) S (f.later M) hu A hE hX)
  (fun wz pv p l s u M h hp hl=>(zwP pv wz).mono (by rintro e w'⟨rfl,rfl⟩;exact⟨rfl,M,fun _ _ _ h=>h,h⟩)))
 obtain⟨r,U⟩:=nm_ (trE cs es);have n:=fun h=>zGL (cs:=cs) (es:=es) h;rw[<-U]at D n;rw[<-U];have C:=h_ n;have a:=h_ t;have O:=h_ (show Tbox w3 w.heap.size (.slice c y d) (.slice G ne J)from V);clear n U L T S z f hF E V X m t;obtain⟨rb,rs,rv,ri,rx⟩:=r;unfold WtO at D;dsimp only at D C;obtain⟨H,I⟩:=O.cells;go_enter func63,ntmps63;by_cases Q:rx=0
 .subst Q;rw[a.o]at H I;go_wp2_with fail;rw[<-a.o];refine D.mono ?_;rintro e w5⟨rfl,i,A⟩;obtain⟨_,vv,Z,z⟩:=A (by simp);obtain⟨av,nv,cv,rfl⟩:=z.rd.lit12;obtain⟨a0,a1,a2⟩:=Z.cells;have HO:=h_ (z.more (Q':=fun j=>j<w.heap.size) fun j _ h k=>h (by omega));have N:=h_ i;clear A Z z i H I;go_wp2;go_region;go_wp2;go_ret3;exact⟨_,rfl,HO.later (Ac _ _).drew,N.drew⟩
 have q:((rx:Int)!=0)=true:=by rw[Ao];omega
 obtain⟨_,_,e2,e3⟩:=C.o Q;subst e2 e3;clear Q;rw[a.o]at H I;go_wp2_with fail;rw[<-a.o];refine D.mono ?_;rintro e w5⟨rfl,i,A⟩;have N:=h_ i;clear A i H I;go_wp2;go_ret3;exact⟨_,rfl,OffS.nil _ _,N.o⟩
end
section
open _root_.Go.Proofs.Tryz
def bytes_HasPrefix(t p:Value)(b a:Bs)(w:World)(c:Rd w t b)(g:Rd w p a) :Calls prog 171 #[t,p] w fun e w'=>e=.returned (.bool (decide (¬(b.length<a.length\/b.take a.length≠a))))/\w=w':=by
 have i:=c.len;have j:=g.len;obtain⟨n,l⟩:=nm_ b.length;obtain⟨m,hm⟩:=nm_ a.length;rw[<-l]at i ⊢;rw[<-hm]at j ⊢;by_cases k:m<=n
 .obtain⟨x,u,d⟩:=c.upto m (by omega);have r:=h_ (bytes_Equal x p (b.take m) a w (d w c) g)
  have f:=h_ (show(b.take m==a)=decide (¬(n<m\/b.take m≠a))from by
   by_cases h:b.take m=a
   .rw[beq_iff_eq.2 h];exact(Ah (by simp[h];omega)).symm
   .rw[As.2 h];exact(Af (by simp[h])).symm)
  obtain⟨z,s⟩:=nm_ ((b.take m==a));rw[<-s]at r f;clear l hm c g d s;go_enter func171,ntmps171;go_wp2_with fail;refine r.mono ?_;rintro e A⟨rfl,rfl⟩;go_wp2;go_ret;exact⟨by rw[<-f.o];rfl,rfl⟩
 have f:=h_ (show decide (¬(n<m\/b.take m≠a))=false from Af (by simp;omega));have y:decide (m<=n)=false:=Af k;clear l hm c g;go_enter func171,ntmps171;go_wp2;go_ret;exact⟨by rw[f.o];rfl,rfl⟩
def RhO(w:World)(b:Bs)(e:Ending)(w':World):Prop :=
 Lz w w'/\((∃x y:Nat,y≠0/\trD b=([],[],[],x,y)/\e=.returned (.tuple #[.slice none 0 0,.int .i64 (x:Int),.int .i64 (y:Int)])) \/
  ∃(sv:Value)(cs:List ColB)(m:Nat),4+m<=b.length/\trD b=trT cs (4+m) (trJ [] [] (trR cs b b.length (4+m) 0 0 []))/\e=.returned (.tuple #[sv,.int .i64 ((4+m:Nat):Int),.int .i64 0])/\OwnC w' w.heap.size sv cs/\CS cs/\errS (colsL cs)=0)
def zmE(v:Value)(b:Bs)(w:World)(h:Rd w v b)(hT:Tabs w) :Calls prog 123 #[v] w (RhO w b):=by
 have aq:=h.small;have H:=Lib.run_convert_bytes_const (P:=prog) w 34 5 #[.int .u8 68,.int .u8 75,.int .u8 76,.int .u8 49] 4 4 underlying34 underlying5;obtain⟨f,l⟩:=nm_ (w.alloc (.cells #[.int .u8 68,.int .u8 75,.int .u8 76,.int .u8 49] 5 (4,5)));have h4:Rd f (.slice (some ⟨w.heap.size,0,none⟩) 4 4) [68,75,76,49]:=by rw[l];exact zAG w [68,75,76,49] (by decide) (4,5)
 have g:=h_ (show Lz w f from by rw[l];exact(Ac _ _).alloc l_ _);have O:=h_ (bytes_HasPrefix v _ b _ f (h.later g.o l_) h4);have A:=h_ l;clear h4 l;by_cases s:b.length<4\/b.take 4≠magicL
 .have I:decide (¬(b.length<4\/b.take 4≠[68,75,76,49]))=false:=Af (fun h9=>h9 s);have d:=h_ (show Calls prog 171 #[v,.slice (some ⟨w.heap.size,0,none⟩) 4 4] f fun e w'=>e=.returned (.bool false)/\f=w' from by rw[<-I];exact O.o);have i:=h_ (zoJ s);clear I O s h hT;go_enter func123,ntmps123;go_wp2_with fail;rw[<-A.o];refine d.mono ?_;rintro e w1⟨rfl,rfl⟩;clear d H;go_wp2;go_ret3;exact⟨g.o,.inl ⟨0,6,by decide,i.o,rfl⟩⟩
 have I:decide (¬(b.length<4\/b.take 4≠[68,75,76,49]))=true:=Ah s;have d:=h_ (show Calls prog 171 #[v,.slice (some ⟨w.heap.size,0,none⟩) 4 4] f fun e w'=>e=.returned (.bool true)/\f=w' from by rw[<-I];exact O.o);have ab:4<=b.length:=by omega
 obtain⟨v1,M,J⟩:=h.from 4 ab;have M:∀u,(Instr.slice 34 v (some (.int .i64 4)) none none).run prog u=.ok v1 u:=M;have U:=h_ (znJ v1 (b.drop 4) f (J f (h.later g.o l_)));have Q:=h_ (fun T p wz(hz:Lz w wz) hp=>ztF T p wz hp (hT.later hz));obtain⟨K,p,m,y,hn⟩:∃K p m y,nxF (b.drop 4)=(K,p,m,y):=⟨_,_,_,_,rfl⟩;rw[hn]at U;have j:=h_ hn;have N:=h_ s;clear I O s h hT J hn;go_enter func123,ntmps123;go_wp2_with fail;rw[<-A.o];refine d.mono ?_;rintro e w1⟨rfl,rfl⟩;clear d H;go_wp2_with fail;refine U.mono ?_;rintro e w2⟨T,rfl,t,D⟩;replace t:Own w2 f.heap.size T p:=t;have c:=bT g D;dsimp only;clear U D;by_cases S:y=0
 .subst S
  obtain⟨_,_,hK,L⟩:=zgQ (b:=b.drop 4) (a:=0) (by rw[Bz];exact j.o) (by
   apply Av;intro h9;have:=zd0 (b:=b.drop 4) (by rw[j.o]);rw[j.o]at this;have hp:=zb5 K p;have h1:=this.2.1;have h2:=this.2.2.1;dsimp only at h1 h2;omega)
  by_cases r:K=0
  .subst r;have SP:=h_ (Q.o T p w2 c.o (t.rd (by omega)))
   have HM:=h_ (show 4+m<=b.length from by
    have:=(zd0 (b:=b.drop 4) (by rw[j.o])).2.2.1;rw[j.o,Ay]at this;dsimp only at this;omega)
   clear Q t L hK;go_wp2_with fail;refine SP.mono ?_;rintro e w3⟨D,tv,cs,rfl,hC,C,_,G⟩;have x:=bT c D;have V:=h_ (show OwnC w3 w.heap.size tv cs from OwnG.base hC c.size);have X:=h_ C;have z:=h_ (show cs=colsB (readC p)from by rw[<-G,zd3]);obtain⟨E,n⟩:=nm_ (readE p);rw[<-n];clear D hC C G SP;by_cases k:E=0
   .subst k;have i:=h_ (zvE N.o j.o n.symm);have Z:=h_ (show errS (colsL cs)=0 from by rw[z.o,zcC];exact(zjE n.symm).1);clear n;have ap:4+m<=140737488351232:=(by have:=HM.o;omega);go_wp2;go_ret3;exact⟨x.o,.inr ⟨tv,cs,m,HM.o,by rw[z.o];exact i.o,rfl,V.o,X.o,Z.o⟩⟩
   have i:=h_ (show trD b=([],[],[],4,E)from by rw[n];exact zmR N.o j.o (by rw[<-n];exact k));have q:((E:Int)!=0)=true:=(by rw[Ao];omega);have Y:=h_ k;clear n k;go_wp2;go_ret3;exact⟨x.o,.inl ⟨4,E,Y.o,i.o,rfl⟩⟩
  have i:=h_ (zvF N.o j.o r);have q:((K:Int)!=0)=true:=by rw[Ao];omega
  clear r Q t L hK;go_wp2;go_ret3;exact⟨c.o,.inl ⟨4,10,by decide,i.o,rfl⟩⟩
 have i:=h_ (zqB N.o j.o S);have q:((y:Int)!=0)=true:=by rw[Ao];omega
 have HY:=h_ S;clear S Q t;go_wp2;go_ret3;exact⟨c.o,.inl ⟨4,y,HY.o,i.o,rfl⟩⟩
def ReO(w:World)(cs:List ColB)(b:Bs)(e:Ending)(w':World):Prop :=
  Lz w w'/\∃K p m y,nxF b=(K,p,m,y) /\
    ((∃E:Nat,E≠0/\((y≠0/\E=y)\/(y=0/\E=entRE cs (K:Int) p))/\e=.returned (.tuple #[.agg #[.int .i64 0, .int .i64 0, .slice none 0 0], .int .i64 0, .int .i64 (E:Int)])) \/
     (y=0/\entRE cs (K:Int) p=0/\∃pv ps kd s,entX cs K p=(kd,s,ps)/\e=.returned (.tuple #[.agg #[.int .i64 kd, .int .i64 s,pv], .int .i64 (m:Nat), .int .i64 0])/\NewP w' w.heap.size pv ps))
def zjY(sv v:Value)(cs:List ColB)(b:Bs)(w:World)(hR:RdC w sv cs)(h:Rd w v b)(hC:CS cs)(hT:Tabs w)(hF:Frs w) :Calls prog 124 #[sv,v] w (ReO w cs b):=by
 obtain⟨N1,N2⟩:=za5 w (.cells #[.int .i64 0,.int .i64 0,.slice none 0 0] 123);obtain⟨w0,H⟩:=nm_ (w.alloc (.cells #[.int .i64 0,.int .i64 0,.slice none 0 0] 123));rw[<-H]at N1 N2;obtain⟨a,G⟩:=nm_ w.heap.size;rw[<-G]at N1;have C:=h_ (show Ebox w0 a 0 0 (.slice none 0 0)from N1);have af:=h_ N2;have al:=h_ H;have k:=h_ G;have FN:=h_ (znJ v b w0 (h.later N2 l_));obtain⟨K,p,m,y,U⟩:∃K p m y,nxF b=(K,p,m,y):=⟨_,_,_,_,rfl⟩;rw[U]at FN;have HN:=h_ U;have hK:y=0->K<=2/\p.length<=1048576:=fun J=>by
  subst J;have:=zd0 (b:=b) (by rw[U]);rw[U]at this;exact⟨this.2.2.2.1,this.2.2.2.2⟩
 have ER:=h_ (fun pv wz(hz:Lz w wz) hp hk=>zyA sv pv cs (K:Int) p wz (hR.later hz l_) hp hC hk (hT.later hz) (hF.later hz));clear N1 N2 H G U hR h hC hT hF;go_enter func124,ntmps124;go_wp2_with fail;rw[<-al.o,<-k.o];refine FN.mono ?_;rintro e Z⟨pv,rfl,X,z⟩;replace X:Own Z w0.heap.size pv p:=X;have n:=bT af z;have d:=h_ (C.later z);have am:=h_ (show a+1<=Z.heap.size from by have:=z.size;have:=C.lt;omega);have ak:=h_ (show w.heap.size<=a from by rw[k.o];exact l_);dsimp only;clear FN z C;by_cases J:y=0
 .obtain⟨k1,k2⟩:=hK J;subst J;have EP:=h_ (ER.o pv Z n.o (X.rd (by omega)) ⟨by omega,by omega⟩);clear ER X hK;go_wp2_with fail;refine EP.mono ?_;rintro e I⟨z,t,u,cap,ps,rfl,Q,S,Y⟩;have HX:=h_ (zCD S Y);have ag:=bT n z;have T:=d.later z;have x:=Q.lower am.o;obtain⟨E,hE⟩:=nm_ (entRE cs (K:Int) p);rw[<-hE];have HE:=h_ hE;generalize entRV cs (K:Int) p=V at *;obtain⟨kd,s,tl⟩:=V;dsimp only at HX;dsimp only;obtain⟨M1,L⟩:=za5 I (.cells #[.int .i64 kd,.int .i64 s,.slice t u cap] 123);obtain⟨w4,l⟩:=nm_ (I.alloc (.cells #[.int .i64 kd,.int .i64 s,.slice t u cap] 123));rw[<-l]at M1 L;have f:=h_ (T.later L);have ah:=h_ (show Ebox w4 I.heap.size kd s (.slice t u cap)from M1);have r:=bT ag L;have aj:=h_ (x.later L l_);have an:=h_ l;clear M1 L l z Q S Y T x hE EP d;have l:=an.o;subst l;obtain⟨c0,c1,c2⟩:=f.cells;have f0:=f.free 0;have f1:=f.free 1;have f2:=f.free 2;obtain⟨e0,e1,e2⟩:=ah.cells;by_cases D:E=0
  .subst D;have A:=h_ (show entRE cs (K:Int) p=0 from HE.symm);go_wp2;obtain⟨w9,c⟩:=nm_ ((((I.alloc (.cells #[.int .i64 kd,.int .i64 s,.slice t u cap] 123)).setCell ⟨a,0,none⟩ (.int .i64 kd)).setCell ⟨a,1,none⟩ (.int .i64 s)).setCell ⟨a,2,none⟩ (.slice t u cap));rw[<-c];obtain⟨M,N,O⟩:=(show Ebox w9 a kd s (.slice t u cap)from by rw[c];exact f.reset kd s _).cells;have g:Only (fun j=>j=a) (I.alloc (.cells #[.int .i64 kd,.int .i64 s,.slice t u cap] 123)) w9:=(by rw[c];exact(((Only.refl (fun j=>j=a) _).setCell (p:=⟨a,0,none⟩) rfl _).setCell (p:=⟨a,1,none⟩) rfl _).setCell (p:=⟨a,2,none⟩) rfl _);have i:Lz w w9:=r.trans (g.toBelow (fun j e=>by have:=k.o;omega) r.size);refine bodyPost_ret (by simp[results,results124,go_sem,M,N,O];try rfl) rfl ?_;exact⟨i,K,p,m,0,HN.o,.inr ⟨rfl,A.o,_,ps,kd,s,HX.o,rfl,(aj.only g (fun q hq e=>by omega)).lower (by have:=ak.o;omega)⟩⟩
  have q:((E:Int)!=0)=true:=by rw[Ao];omega
  have A:=h_ D;clear D;go_wp2;obtain⟨w9,c⟩:=nm_ ((((I.alloc (.cells #[.int .i64 kd,.int .i64 s,.slice t u cap] 123)).setCell ⟨a,0,none⟩ (.int .i64 0)).setCell ⟨a,1,none⟩ (.int .i64 0)).setCell ⟨a,2,none⟩ (.slice none 0 0));rw[<-c];obtain⟨M,N,O⟩:=(show Ebox w9 a 0 0 (.slice none 0 0)from by rw[c];exact f.reset 0 0 _).cells;have g:Only (fun j=>j=a) (I.alloc (.cells #[.int .i64 kd,.int .i64 s,.slice t u cap] 123)) w9:=by rw[c];exact(((Only.refl (fun j=>j=a) _).setCell (p:=⟨a,0,none⟩) rfl _).setCell (p:=⟨a,1,none⟩) rfl _).setCell (p:=⟨a,2,none⟩) rfl _
  have i:Lz w w9:=r.trans (g.toBelow (fun j e=>by have:=k.o;omega) r.size);refine bodyPost_ret (by simp[results,results124,go_sem,M,N,O];try rfl) rfl ?_;exact⟨i,K,p,m,0,HN.o,.inl ⟨E,A.o,.inr ⟨rfl,HE.o⟩,rfl⟩⟩
 have q:((y:Int)!=0)=true:=by rw[Ao];omega
 have HY:=h_ J;obtain⟨c0,c1,c2⟩:=d.cells;have f0:=d.free 0;have f1:=d.free 1;have f2:=d.free 2;clear J hK X ER;go_wp2;obtain⟨w9,c⟩:=nm_ (((Z.setCell ⟨a,0,none⟩ (.int .i64 0)).setCell ⟨a,1,none⟩ (.int .i64 0)).setCell ⟨a,2,none⟩ (.slice none 0 0));rw[<-c];obtain⟨M,N,O⟩:=(show Ebox w9 a 0 0 (.slice none 0 0)from by rw[c];exact d.reset 0 0 _).cells;have g:Only (fun j=>j=a) Z w9:=by rw[c];exact(((Only.refl (fun j=>j=a) _).setCell (p:=⟨a,0,none⟩) rfl _).setCell (p:=⟨a,1,none⟩) rfl _).setCell (p:=⟨a,2,none⟩) rfl _
 have i:Lz w w9:=n.trans (g.toBelow (fun j e=>by have:=k.o;omega) n.size);refine bodyPost_ret (by simp[results,results124,go_sem,M,N,O];try rfl) rfl ?_;exact⟨i,K,p,m,y,HN.o,.inl ⟨y,HY.o,.inl ⟨HY.o,rfl⟩,rfl⟩⟩
/- -/
def zmJ(w:World)(b:Bs)(e:Ending)(w':World):Prop :=
 Lz w w'/\∃tv xv,e=.returned (.tuple #[tv,xv,.int .i64 ((trD b).2.2.2.1:Nat),.int .i64 ((trD b).2.2.2.2:Nat)])/\(∀w2,Only (fun j=>j<w.heap.size) w' w2->zi4 w2 tv (trD b).1 (trD b).2.1)/\CS (trD b).1 /\
  ((trD b).2.2.2.2=0->errS (colsL (trD b).1)=0/\RdG natE w' xv (((trD b).2.2.1.map (·.2)).map natV)/\(trD b).2.2.1.map (·.1)=0::(trD b).2.1.map (fun x=>x.2.1)/\(trD b).2.1.length<=4096)
def CS.nil:CS []:=fun c a=>absurd a (by simp)
variable {w w':World}
def zmJ.no{b:Bs}{x y:Nat}(h:trD b=([],[],[],x,y))(d:y≠0)(c:Lz w w') :zmJ w b (.returned (.tuple #[.agg #[.slice none 0 0,.slice none 0 0],.slice none 0 0,.int .i64 (x:Int),.int .i64 (y:Int)])) w':=by
 unfold zmJ;rw[h];exact⟨c,_,_,rfl,fun a _=>⟨_,_,rfl,RdG.nil colE a,RdZ.nil a⟩,CS.nil,fun h=>absurd h d⟩
def Abox.grown{E:Elt}{b base:Nat}{c d a:Value}{s:Int}{vs:List (List Value)}(h:Abox w b c s d)(i:OwnG E w base a vs)(f:E.T≠165)(g:w.grownBy w' a.ownBlock):Abox w' b c s d:=by
 unfold Abox at h ⊢;rw[g.block b (Aj.1 h).1 (fun e=>i.notOf h f e.symm)];exact h
def zwQ(v:Value)(b:Bs)(w:World)(h:Rd w v b)(hT:Tabs w)(hF:Frs w) :Calls prog 86 #[v] w (zmJ w b):=by
 have db:∀(fn:Fn)(first cap:Array Value)(w:World),(Instr.makeFunc fn first cap).run prog w=.ok (.func fn first cap) w:=fun _ _ _ _=>rfl;have bL:=h.len;have cw:=h.small;obtain⟨N1,N2⟩:=za5 w (.cells #[.slice none 0 0,.slice none 0 0] 55);obtain⟨w0,ay⟩:=nm_ (w.alloc (.cells #[.slice none 0 0,.slice none 0 0] 55));rw[<-ay]at N1 N2;obtain⟨g,ax⟩:=nm_ w.heap.size;rw[<-ax]at N1;have bn:=h_ (show Tbox w0 g (.slice none 0 0) (.slice none 0 0)from N1);have b3:=h_ N2;have ca:=h_ ay;have i:=h_ ax;have bq:=h_ (show w0.heap.size=g+1 from by rw[ay,ax];simp);have RH:=h_ (zmE v b w0 (h.later N2 l_) (hT.later N2));have HV:=h_ h;have HT:=h_ hT;have HF:=h_ hF;obtain⟨L,hL⟩:=nm_ b.length;rw[<-hL]at bL cw;have HL:=h_ hL;clear N1 N2 ay ax h hT hF hL;go_enter func86,ntmps86;go_wp2_with fail;rw[<-ca.o,<-i.o];refine RH.mono ?_;rintro e t⟨hb,Y⟩;have an:=bT b3 hb;have S:=h_ (bn.later hb);clear hb RH bn;rcases Y with⟨x,y,hy,hd,rfl⟩|⟨sv,cs,m,hm,hd,rfl,hC,bB,hE⟩
 .have q:((y:Int)!=0)=true:=by rw[Ao];omega
  have HY:=h_ hy;have HD:=h_ hd;obtain⟨c0,c1⟩:=S.cells;have f0:=S.free 0;have f1:=S.free 1;clear hy hd;go_wp2;obtain⟨w9,c⟩:=nm_ ((t.setCell ⟨g,0,none⟩ (.slice none 0 0)).setCell ⟨g,1,none⟩ (.slice none 0 0));rw[<-c];obtain⟨e0,e1⟩:=(show Tbox w9 g (.slice none 0 0) (.slice none 0 0)from by rw[c];exact S.both _ _).cells;have D:Lz w w9:=by rw[c];exact(an.setCell (p:=⟨g,0,none⟩) (by rw[<-i.o];exact l_) _).setCell (p:=⟨g,1,none⟩) (by rw[<-i.o];exact l_) _
  refine bodyPost_ret (by simp[results,results86,go_sem,e0,e1];try rfl) rfl ?_;exact zmJ.no HD.o HY.o D
 have aY:RdC t sv cs:=hC.rd (by have:=(zaO hE).2.1;rw[za4]at this;omega);obtain⟨J,N,M,rfl⟩:=aY.lit12;obtain⟨z,bG⟩:=nm_ (4+m);rw[<-bG]at hm hd ⊢;obtain⟨T0,a3⟩:=nm_ (trR cs b b.length z 0 0 []);rw[<-a3]at hd;have HD:=h_ hd;have r:=h_ (show Loop13 b cs z T0 [] [] b.length z 0 0 []from⟨by rw[a3],by omega,rfl,rfl,fun p hp=>absurd hp (by simp),⟨by omega,by omega⟩,by omega⟩);obtain⟨s0,z1,z2,z3,z4⟩:=new3 t (.cells #[.int .i64 (z:Int)] 3) (.cells #[.slice J N M,.slice none 0 0] 55) (.cells #[.slice J N M,.int .i64 0,.slice none 0 0] 165);obtain⟨w4,az⟩:=nm_ (((t.alloc (.cells #[.int .i64 (z:Int)] 3)).alloc (.cells #[.slice J N M,.slice none 0 0] 55)).alloc (.cells #[.slice J N M,.int .i64 0,.slice none 0 0] 165));rw[<-az]at s0 z1 z2 z3 z4;have bE:OwnN w4 t.heap.size (.slice (some ⟨t.heap.size,0,none⟩) 1 1) [z]:=by
  have h1:OwnG natE (t.alloc (.cells #[.int .i64 (z:Int)] 3)) t.heap.size (.slice (some ⟨t.heap.size,0,none⟩) 1 1) [natV z] :=
   zdS natE t t.heap.size l_ [natV z] (by intro x hx;rw[AH.1 hx];rfl) (by intro x hx u hu;rw[AH.1 hx]at hu;simp[natV]at hu;subst hu;rfl) (by simp)
  have h2:=((Ac (t.alloc (.cells #[.int .i64 (z:Int)] 3)).heap.size (t.alloc (.cells #[.int .i64 (z:Int)] 3))).alloc l_ (.cells #[.slice J N M,.slice none 0 0] 55)).alloc (by simp) (.cells #[.slice J N M,.int .i64 0,.slice none 0 0] 165);rw[az];exact OwnG.later h1 h2 l_
 have a6:g<t.heap.size:=S.lt;obtain⟨G,aw⟩:=nm_ t.heap.size;have bs:=h_ (show Vars13 natE t w4 (G+3) g (G+1) (.slice J N M) (.slice none 0 0) (.slice none 0 0) (.slice (some ⟨G,0,none⟩) 1 1) (.slice none 0 0) ([z].map natV) [] []/\Abox w4 (G+2) (.slice J N M) 0 (.slice none 0 0)from by
  rw[aw];exact⟨⟨S.later z4,z2,OwnG.nil zaV _ _,bE,⟨OffS.nil _ _,by simp⟩,by omega,z4⟩,z3⟩)
 rw[<-aw]at a6;have HN:=h_ a6;have bo:=h_ aY;have aQ:=h_ hC;have aN:=h_ bB;have bl:=h_ hE;have cb:=h_ az;have af:=h_ aw;have HM:=h_ (show z<=L from by rw[HL.o];exact hm);clear hm hd a3 s0 z1 z2 z3 z4 bE hC aY bB hE az aw S a6 bG;go_wp2;rw[<-cb.o,<-af.o,show G+1+1=G+2 from rfl];go_loopw [7,10] (fun n x wr=>∃(a k f:Nat)(es:List EntB)(ms:List (Int×Nat))(s:Int)(vw:List PairB)(ae:Option Addr)(ne ce:Nat)(vv:Value)(ts:List EntV),a<=L/\n=.int .i64 a/\Hid (Loop13 b cs z T0 es ms f a k s vw/\es=ts.map (·.2)) /\
  Hid (Vars13 natE t wr (G+3) g (G+1) (.slice J N M) (.slice ae ne ce) (.slice ae ne ce) x vv ((z::ms.map (·.2)).map natV) vw ts/\Abox wr (G+2) (.slice J N M) s vv)) (fun n _ _=>L-(intOf n).toNat)
 case atStart=>exact⟨z,0,b.length,[],[],0,[],none,0,0,_,[],HM.o,rfl,h_ ⟨r.o,rfl⟩,bs⟩
 clear bs r HM;obtain⟨a,k,f,es,ms,s,vw,ae,ne,ce,vv,ts,c5,rfl,r,I⟩:=hrel;have bK:=r.1.len;have da:=r.1.most;have a8:ts.length=k:=by have:=bK;rw[r.2,Ad]at this;exact this
 have cv:=(I.1.held.entries I.1.ownE (by omega)).len;rw[Ad,a8]at cv;obtain⟨c0,c1⟩:=I.1.tb.cells;have br:=h_ a8;obtain⟨r0,r1⟩:=I.1.rb.cells;have f0:=I.1.rb.free 0;have f1:=I.1.rb.free 1;have Z:=h_ (show Lz w wr from an.trans (I.1.below.mono an.size));clear bK a8;by_cases bM:a<L
 .have au:a<b.length:=by rw[<-HL.o];exact bM
  by_cases aL:4096<=k
  .have T:=h_ (show trD b=([],[],[],a,13)from by rw[HD.o,r.1.run];exact ziD (zq6 au r.1.fuel aL) (by decide));clear au;go_wp2;obtain⟨w9,c⟩:=nm_ ((wr.setCell ⟨g,0,none⟩ (.slice none 0 0)).setCell ⟨g,1,none⟩ (.slice none 0 0));rw[<-c];obtain⟨e0,e1⟩:=(show Tbox w9 g (.slice none 0 0) (.slice none 0 0)from by rw[c];exact I.1.rb.both _ _).cells;have D:Lz w w9:=(by rw[c];exact(Z.setCell (p:=⟨g,0,none⟩) (by rw[<-i.o];exact l_) _).setCell (p:=⟨g,1,none⟩) (by rw[<-i.o];exact l_) _);refine bodyPost_ret (by simp[results,results86,go_sem,e0,e1];try rfl) rfl ?_;exact zmJ.no T.o (by decide) D
  have bJ:k<4096:=by omega
  obtain⟨v1,hs1,bH⟩:=HV.from a (by omega);have bv:=h_ (zjY (.slice J N M) v1 cs (b.drop a) wr (bo.later I.1.below l_) (bH wr (HV.later Z.o l_)) aN.o (HT.later Z.o) (HF.later Z.o));have C:=h_ (Al au bJ);have hd:decide ((k:Int)≥4096)=false:=Af (by omega);clear bH aL au;go_wp2_with fail;refine bv.mono ?_;rintro e w5⟨al,K,p,mm,y,hn,Y⟩;have aa:=h_ (Al (I.1.later al) (I.2.later al));have ad:=bT Z al;have cZ:=h_ al.size;have ah:=h_ hn;clear bv al hn c0 c1 r0 r1 f0 f1 hd bJ;rcases Y with⟨E,A,bC,rfl⟩|⟨hy,a5,pv,ps,kd,O,hX,rfl,aZ⟩
  .have T:=h_ (show trD b=([],[],[],a,E)from by
    rw[HD.o,r.1.run];rcases bC with⟨hy,e⟩|⟨hy,e⟩
    .subst e;exact ziD (zq7 C.1 r.1.fuel C.2 ah.o hy) hy
    .subst hy;exact ziD (zq8 C.1 r.1.fuel C.2 ah.o e A) A)
   have q1:((E:Int)==0)=false:=(by rw[As];omega);have q2:((E:Int)!=0)=true:=(by rw[Ao];omega);have aO:=h_ A;obtain⟨M1,U⟩:=za5 w5 (.cells #[.int .i64 0,.int .i64 0,.slice none 0 0] 123);have d:=aa.1.later U;have Q:=ad.trans (U.mono ad.size);obtain⟨r0,r1⟩:=d.rb.cells;have f0:=d.rb.free 0;have f1:=d.rb.free 1;replace d:=h_ d;replace Q:=h_ Q;clear bC A M1 U aa ad;go_wp2;obtain⟨w9,c⟩:=nm_ (((w5.alloc (.cells #[.int .i64 0,.int .i64 0,.slice none 0 0] 123)).setCell ⟨g,0,none⟩ (.slice none 0 0)).setCell ⟨g,1,none⟩ (.slice none 0 0));rw[<-c];obtain⟨e0,e1⟩:=(show Tbox w9 g (.slice none 0 0) (.slice none 0 0)from by rw[c];exact d.rb.both _ _).cells;have D:Lz w w9:=(by rw[c];exact(Q.setCell (p:=⟨g,0,none⟩) (by rw[<-i.o];exact l_) _).setCell (p:=⟨g,1,none⟩) (by rw[<-i.o];exact l_) _);refine bodyPost_ret (by simp[results,results86,go_sem,e0,e1];try rfl) rfl ?_;exact zmJ.no T.o aO.o D
  subst hy;obtain⟨ap,np,cp,rfl⟩:=aZ.rd.lit12;obtain⟨bI,c8,_,bP⟩:=zgQ ah.o C.1;rw[<-HL.o]at bI;have bF:EnO ((kd,O,ps):EntB):=by rw[<-hX];exact(zh6 bP a5).1
  have bD:=aZ.heldQ I.1.top I.1.lts.1 I.1.lts.2;obtain⟨M1,U⟩:=za5 w5 (.cells #[.int .i64 kd,.int .i64 O,.slice ap np cp] 123);obtain⟨w6,a9⟩:=nm_ (w5.alloc (.cells #[.int .i64 kd,.int .i64 O,.slice ap np cp] 123));rw[<-a9]at M1 U;have d:=h_ (Al (aa.1.later U) (aa.2.later U));have Q:=bT ad U;have aR:=h_ (bD.later U);have aP:=h_ (show Ebox w6 w5.heap.size kd O (.slice ap np cp)from M1);have TK:=h_ (zmP (G+2) (.slice J N M) vv (.agg #[.int .i64 kd,.int .i64 O,.slice ap np cp]) cs s vw (kd,O,ps) w6 d.2 (bo.later d.1.below l_) d.1.held.1.rd ⟨_,rfl,aR.rd⟩ aN.o r.1.pso bF r.1.inw (HT.later Q.o));obtain⟨x0,x1,x2⟩:=aP.cells;have cd:=h_ a9;have aU:=h_ hX;have bp:=h_ a5;have b6:=h_ (show w5.heap.size≠G+2 from by have:=aa.1.top;omega);clear a9 M1 U aZ bD bF hX a5 bP aa ad;go_wp2_with fail;rw[<-cd.o];refine TK.mono ?_;rintro e w7⟨rfl,hO,Y⟩;have ab:=h_ (d.1.turned hO (fun j e=>by subst e;exact⟨by omega,_,_,_,d.2,by decide,by decide⟩) (fun e=>by have:=HN.o;omega) (by omega) (fun j e=>by have:=af.o;omega));have b4:=h_ (Q.trans (hO.toBelow (B:=w.heap.size) (fun j e=>by have:=af.o;have:=an.size;omega) Q.size));have b5:=h_ (show Ebox w7 w5.heap.size kd O (.slice ap np cp)from hO.keep aP.o b6.o);have bm:=h_ (aR.keep (w':=w7) (fun j hj hn=>hO.block j hj (fun e=>hn (.inl (by omega)))));obtain⟨E,aj⟩:=nm_ (apE cs s vw (kd,O,ps));rw[<-aj]at Y ⊢;clear hO TK x0 x1 x2 aR;by_cases A:E=0
  .subst A;obtain⟨vn,aX,a1⟩:∃vn,Abox w7 (G+2) (.slice J N M) (apN cs s vw (kd,O,ps)) vn/\NewP w7 w6.heap.size vn (apV cs s vw (kd,O,ps)):=by
    rcases Y with⟨h9,_⟩|⟨_,h9⟩
    .exact absurd rfl h9
    exact h9
   obtain⟨f',ar⟩:=r.1.next C.1 C.2 ah.o bp.o (by rw[aU.o];exact aj.symm);rw[aU.o]at ar;obtain⟨s',a7⟩:=nm_ (apN cs s vw (kd,O,ps));obtain⟨V,hV⟩:=nm_ (apV cs s vw (kd,O,ps));rw[<-a7,<-hV]at ar;rw[<-a7]at aX;rw[<-hV]at a1;have aT:=h_ (ab.seen (a1.heldQ d.1.top d.1.lts.1 d.1.lts.2));have bi:=h_ aX;have b7:=h_ ar;obtain⟨c0,c1⟩:=aT.tb.cells;obtain⟨x0,x1,x2⟩:=b5.cells;have c6:(a:Int)+(mm:Int)<=140737488351232:=(by omega);obtain⟨M1,U⟩:=za5 w7 (.cells #[.int .i64 kd,.int .i64 O,.slice ap np cp] 123);have ai:=h_ (aT.later U);have bj:=h_ (bi.later U);have aS:=h_ (bm.later U);have bN:=ai.ownE;have a4:=ai.below;clear Y aj ar a7 hV aX a1 d ab aT bi bm aP;go_wp2_with (with_reducible refine zi8 t.heap.size _ ?hs bN w7.heap.size (.slice ap np cp) (kd,O,ps) ?hx M1 aS.o.rd ?hn ?hbase t.heap.size t a4 l_ ?_)
   case hs=>rfl
   case hx=>rfl
   case hn=>have:=br.o;omega
   case hbase=>exact a4.size
   intro df am ba bx aV bR;obtain⟨ag,ng,cg,rfl⟩:=ba.lit13;have aG:=h_ (ai.pushE (by decide) aS.o ba bx aV bR);have aD:=h_ (bj.grown ai.ownE (by decide) aV);obtain⟨M3,M4⟩:=za5 am (.cells #[.int .i64 ((a:Int)+(mm:Int))] 3);have H:=h_ (aG.later M4);have aE:=h_ (aD.later M4);have bO:OwnN (am.alloc (.cells #[.int .i64 ((a:Int)+(mm:Int))] 3)) t.heap.size u10 (z::ms.map (·.2)):=H.ownX;have ak:=H.below;have b8:=h_ (show(z::ms.map (·.2)).length<=1000000000 from by have h1:=congrArg List.length r.1.marks;have h2:=r.1.len;simp at h1 ⊢;omega);have bk:=h_ (show t.heap.size<=G+1 from by have:=af.o;omega);have bt:(am.alloc (.cells #[.int .i64 ((a:Int)+(mm:Int))] 3)).heap[am.heap.size]?=some (.cells #[.int .i64 ((a+mm:Nat):Int)] 3 (0,0)):=(by push_cast;exact M3);clear ba bx aV bR bN a4 ai bj aS aG aD M1 U M4 c0 c1 x0 x1 x2;go_wp2_with (with_reducible refine zo9 (l:=z::ms.map (·.2)) t.heap.size _ ?hs1 bO am.heap.size (a+mm) ?hx1 bt ?hn1 ?hbase1 t.heap.size t ak l_ ?_)
   case hs1=>rfl
   case hx1=>rfl
   case hn1=>exact b8.o
   case hbase1=>exact ak.size
   intro cC bb bQ bz aW bS;have X:=h_ (H.pushX (by decide) (by decide) (show OwnG natE bb t.heap.size cC ((z::(ms++[(s',a+mm)]).map (·.2)).map natV)from by
    have:=bQ;unfold OwnN at this;simpa using this) bz aW bS)
   have aF:=h_ (aE.grown H.ownX (by decide) aW);obtain⟨c0,c1⟩:=X.tb.cells;have f1:=X.tb.free 1;clear bQ bz aW bS bO ak H aE M3 bt;go_wp2;have hO:Only (fun j=>j=G+1) bb (bb.setCell ⟨G+1,1,none⟩ (.slice ag ng cg)):=(Only.refl (fun j=>j=G+1) _).setCell (p:=⟨G+1,1,none⟩) rfl _;have b9:=h_ (Al (X.store (by decide) (by omega) bk.o (by have:=HN.o;omega) (.slice ag ng cg)) (show Abox _ (G+2) (.slice J N M) s' vn from hO.keep aF.o (by omega)));clear hO X aF c0 c1 f1;go_roundw
   case rel=>exact⟨a+mm,k+1,f',es++[(kd,O,ps)],ms++[(s',a+mm)],s',V,ag,ng,cg,vn,ts++[(.slice ap np cp,(kd,O,ps))],bI,by go_num,h_ ⟨b7.o,by rw[AC,<-r.2];rfl⟩,b9⟩
   simp[intOf];omega
  have T:=h_ (show trD b=([],[],[],a,E)from by rw[HD.o,r.1.run];exact ziD (zq9 C.1 r.1.fuel C.2 ah.o bp.o (by rw[aU.o];exact aj) A) A);have q2:((E:Int)!=0)=true:=by rw[Ao];omega
  have aO:=h_ A;obtain⟨r0,r1⟩:=ab.rb.cells;have f0:=ab.rb.free 0;have f1:=ab.rb.free 1;clear Y aj A;go_wp2;obtain⟨w9,c⟩:=nm_ ((w7.setCell ⟨g,0,none⟩ (.slice none 0 0)).setCell ⟨g,1,none⟩ (.slice none 0 0));rw[<-c];obtain⟨e0,e1⟩:=(show Tbox w9 g (.slice none 0 0) (.slice none 0 0)from by rw[c];exact ab.rb.both _ _).cells;have D:Lz w w9:=by rw[c];exact(b4.setCell (p:=⟨g,0,none⟩) (by rw[<-i.o];exact l_) _).setCell (p:=⟨g,1,none⟩) (by rw[<-i.o];exact l_) _
  refine bodyPost_ret (by simp[results,results86,go_sem,e0,e1];try rfl) rfl ?_;exact zmJ.no T.o aO.o D
 obtain rfl:a=L:=by omega
 have T:=h_ (show trD b=(cs,es,(0,z)::ms,a,0)from by rw[HD.o,r.1.run];exact zzB (zzF (by have:=HL.o;omega)));clear bM;go_wp2;obtain⟨w9,c⟩:=nm_ ((wr.setCell ⟨g,0,none⟩ (.slice J N M)).setCell ⟨g,1,none⟩ (.slice ae ne ce));rw[<-c];obtain⟨k1,k2,k3,k4⟩:=I.1.answer (by decide) (by have:=HN.o;omega) (.slice J N M) (.slice ae ne ce);rw[<-c]at k1 k2 k3 k4;obtain⟨e0,e1⟩:=k4.cells;have D:Lz w w9:=by rw[c];exact(Z.setCell (p:=⟨g,0,none⟩) (by rw[<-i.o];exact l_) _).setCell (p:=⟨g,1,none⟩) (by rw[<-i.o];exact l_) _
 have co:Only (fun j=>j=g) wr w9:=by rw[c];exact((Only.refl (fun j=>j=g) _).setCell (p:=⟨g,0,none⟩) rfl _).setCell (p:=⟨g,1,none⟩) rfl _
 refine bodyPost_ret (by simp[results,results86,go_sem,e0,e1];try rfl) rfl ?_;have c7:cs.length<=8:=by have:=(zaO bl.o).2.1;rw[za4]at this;exact this
 unfold zmJ;rw[T.o];refine⟨D,_,_,rfl,fun w2 a2=>⟨_,_,rfl,OwnG.rd (((aQ.later I.1.below l_).stay co (fun q Y e=>?_)).stay a2 (fun q Y e=>?_)) (by simp;omega),?_⟩,aN.o,fun _=>⟨bl.o,?_,?_,?_⟩⟩
 .have:=(World.ownsRow.lt aQ.1 q Y).1;have:=bq.o;omega
 .have:=(World.ownsRow.lt aQ.1 q Y).1;have:=bq.o;have:=i.o;omega
 .have h1:=HN.o;have h2:=i.o;have h3:=(k3.only a2 (fun j e=>.inl (by omega))).entries (k1.stay a2 (fun q Y e=>by have:=(World.ownsRow.lt k1.1 q Y).1;have:=af.o;omega)) (by have:=br.o;omega);rw[r.2];exact h3
 .exact k2.rd (by have:=congrArg List.length r.1.marks;have:=r.1.len;simp at this ⊢;simp at *;omega)
 .rw[AT,r.1.marks]
 rw[r.1.len];exact r.1.most
def ze5(v:Value)(b:Bs)(w:World)(h:Rd w v b)(n:Tabs w)(S:Frs w) :Calls prog 62 #[v] w (zmL w b):=by
 obtain⟨x,m⟩:=za5 w (.cells #[.slice none 0 0,.slice none 0 0] 55);obtain⟨O,l⟩:=nm_ (w.alloc (.cells #[.slice none 0 0,.slice none 0 0] 55));rw[<-l]at x m;obtain⟨d,k⟩:=nm_ w.heap.size;rw[<-k]at x;have g:=h_ (show Tbox O d (.slice none 0 0) (.slice none 0 0)from x);have f:=h_ m;have M:=h_ l;have i:=h_ k;have t:=h_ (zwQ v b O (h.later m l_) (n.later m) (S.later m));clear x m l k h n S;unfold zmJ at t;unfold zmL;generalize trD b=D at t ⊢;obtain⟨cs,es,ms,p,y⟩:=D;dsimp only at t ⊢;go_enter func62,ntmps62;go_wp2_with fail;rw[<-M.o,<-i.o];refine t.mono ?_;rintro e r⟨G,tv,xv,rfl,n,Q,_⟩;obtain⟨sv,ev,rfl,T,U⟩:=n r (Only.refl _ _);obtain⟨A,ne,E,rfl⟩:=U.lit;obtain⟨z,H,C,rfl⟩:=T.lit12;have u:Lz r (r.alloc (.cells #[.slice z H C,.slice A ne E] 55)):=(Ac _ _).alloc l_ _;have a:=h_ ((g.later G).later u);have I:=h_ (f.trans ((G.trans (u.mono G.size)).mono f.size));have L:=h_ u;have X:=h_ n;have V:=h_ Q;have s:=h_ g.lt;obtain⟨r0,r1⟩:=a.cells;have f0:=a.free 0;have f1:=a.free 1;clear G T U n Q t u g;go_wp2;obtain⟨w9,c⟩:=nm_ (((r.alloc (.cells #[.slice z H C,.slice A ne E] 55)).setCell ⟨d,0,none⟩ (.slice z H C)).setCell ⟨d,1,none⟩ (.slice A ne E));rw[<-c];obtain⟨Y,Z⟩:=(show Tbox w9 d (.slice z H C) (.slice A ne E)from by rw[c];exact a.both _ _).cells;have J:Lz w w9:=by rw[c];exact(I.setCell (p:=⟨d,0,none⟩) (by rw[<-i.o];exact l_) _).setCell (p:=⟨d,1,none⟩) (by rw[<-i.o];exact l_) _
 have N:Only (fun j=>j<O.heap.size) r w9:=by rw[c];exact((zbF L.o l_).setCell (p:=⟨d,0,none⟩) s.o _).setCell (p:=⟨d,1,none⟩) s.o _
 refine bodyPost_ret (by simp[results,results62,go_sem,Y,Z];try rfl) rfl ?_;exact⟨_,rfl,fun wz hz=>X.o wz (N.trans (hz.mono fun j h=>AE h f.size)),V.o,J⟩
/- -/
section
variable{w w':World}{v:Value}{es:List EntB}
end
def zt4{l:List CurB}{d:Array Oper}{Q:Exit->Act->World->Prop}{rest:List Oper}{a:Act}{c:Option Tmp}{N:TypeId}{pos:String}{k:Array Edge}{s x:Operand}(base:Nat)(f:Value)(J:a.eval s=f)(I:OwnG zbQ w base f (l.map cuV))(g:Nat)(y:CurB)(L:a.eval x=.slice (some ⟨g,0,none⟩) 1 1)(E:w.heap[g]?=some (.cells #[.int .i64 y.1,.int .i64 y.2.1,.int .u32 y.2.2] 104 (0,0)))(H:(l.length+1)*24<=140737488355328)(b:base<=w.heap.size)(B:Nat)(p:World)(D:Below B p w)(m:B<=base)(h:∀i w',OwnG zbQ w' base i ((l++[y]).map cuV)->Below B p w'->w.grownBy w' f.ownBlock->Place w f i->wpList prog d Q rest (a.put c i) w') :wpList prog d Q (⟨c,.call ⟨.builtin .append,#[s,x],#[99,99]⟩,N,pos,k,none⟩::rest) a w:=by
 refine zbH zeJ base f J I _ L (zg5 zeJ (cuV y) rfl ⟨g,0,none⟩ ⟨g,0,rfl⟩ fun j z G=>?_) ?_ (by simp;exact H) (by simp;omega) b B p D m (fun i w' r t A C=>h i w' (by rw[AC];exact r) t A C)
 .have e:Addr.add ⟨g,0,none⟩ j=⟨g,j,none⟩:=by simp only[Addr.add];split<;>simp_all
  rw[e,Ag _ _ _ _ _ _ E];simpa[cuV]using G
 intro z M u n;rw[AH.1 M]at n;simp[cuV]at n;rcases n with rfl|rfl|rfl<;>rfl
end
section
structure TrS(cs:List ColB)(es:List EntB):Prop where
 sch:CS cs
 en:∀x∈es,EnO x
 ok:(trE cs es).2.2.2.2=0
def layE(cs:List ColB)(es:List EntB)(x:EntB):Nat :=
 if apE cs (trE cs es).2.1 (trE cs es).2.2.1 x≠0 then apE cs (trE cs es).2.1 (trE cs es).2.2.1 x else(entW cs x).2
def layB(cs:List ColB)(es:List EntB)(x:EntB):Bs:=if layE cs es x=0 then(entW cs x).1 else[]
def layS(cs:List ColB)(es:List EntB)(x:EntB):List EntB:=if layE cs es x=0 then es++[x]else es
abbrev ActB:=Int×List PairB
def actX(cs:List ColB)(es:List EntB)(a:ActB):EntB:=if a.1=0 then(0,(trE cs es).2.1+1,clcO cs a.2)else(1,(trE cs es).2.1,(trE cs es).2.2.1)
def actE(cs:List ColB)(es:List EntB)(a:ActB):Nat :=
 if 4096<=es.length then 13 else if a.1=0/\clcE cs a.2≠0 then clcE cs a.2 else layE cs es (actX cs es a)
def actB(cs:List ColB)(es:List EntB)(a:ActB):Bs:=if actE cs es a=0 then(entW cs (actX cs es a)).1 else[]
def actS(cs:List ColB)(es:List EntB)(a:ActB):List EntB:=if actE cs es a=0 then es++[actX cs es a]else es
def zz7{cs:List ColB}:∀(es:List EntB)(n:Nat)(s:Int)(v:List PairB),n<=4096->(trW cs n s v es).2.2.2.2=0->n+es.length<=4096
 | [],n,s,v,hn,h=>by simpa using hn
 | x::t,n,s,v,hn,h=>by
  obtain⟨c,d,e,b,f⟩:=zeW h;have:=zz7 t (n+1) (apN cs s v x) (apV cs s v x) (by omega) b;rw[Ap];omega
section
variable{cs:List ColB}{es:List EntB}{x:EntB}{a:ActB}
def TrS.parts(h:TrS cs es):errS (colsL cs)=0/\(trW cs 0 0 [] es).2.2.2.2=0/\trE cs es=(hdB (colsL cs)++(trW cs 0 0 [] es).1,(trW cs 0 0 [] es).2):=zqA h.ok
def TrS.few(h:TrS cs es):es.length<=4096:=by
 have:=zz7 es 0 0 [] (by omega) h.parts.2.1;omega
def TrS.view(h:TrS cs es):Fold cs (trE cs es).2.2.1 (znO es)/\(trE cs es).2.1=(ziP es:Int)/\(trE cs es).2.2.2.1=es.length:=by
 obtain⟨i,c,e⟩:=h.parts;obtain⟨b,d,f⟩:=zgP es 0 0 [] [] h.en c Fold.nil;rw[e];dsimp only;rw[AA]at b;exact⟨b,by omega,by omega⟩
def TrS.seq(h:TrS cs es):0<=(trE cs es).2.1/\(trE cs es).2.1<=4096:=by
 have b:=h.view.2.1;have c:=h.few;have d:ziP es<=es.length:=Ca _ _;omega
def TrS.set(h:TrS cs es):Zs cs (trE cs es).2.2.1:=h.view.1.set h.parts.1
def TrS.pso(h:TrS cs es):PSO (trE cs es).2.2.1:=h.set.1
def TrS.inw(h:TrS cs es):inW (trE cs es).2.1:=by
 have:=h.seq;unfold inW;omega
def TrS.small(h:TrS cs es):(trE cs es).1.length<=4400000000:=by
 have c:=ziC (cs:=cs) es 0 0 [];have d:es.length*1048591<=4096*1048591:=Cb _ h.few;obtain⟨b,_,e⟩:=h.parts;have f:=zcJ b;rw[e];dsimp only;rw[Ae];omega
def TrS.nil(b:CS cs)(h:errS (colsL cs)=0):TrS cs []/\trE cs []=(hdB (colsL cs),0,[],0,0):=by
 have e:trE cs []=(hdB (colsL cs),0,[],0,0):=by
  rw[zzG h (by rw[trW]),trW];simp
 exact⟨⟨b,fun x c=>absurd c (by simp),by rw[e]⟩,e⟩
def zp0(h:TrS cs es)(D:es.length<4096)(G:EnO x)(c:layE cs es x=0) :TrS cs (es++[x])/\trE cs (es++[x])=((trE cs es).1++(entW cs x).1,apN cs (trE cs es).2.1 (trE cs es).2.2.1 x,apV cs (trE cs es).2.1 (trE cs es).2.2.1 x,es.length+1,0):=by
 obtain⟨t,p,e⟩:=h.parts;have j:=h.view.2.2;have d:∀y∈es++[x],EnO y:=fun y i=>by
  rcases AD.1 i with i|i
  .exact h.en y i
  rw[AH.1 i];exact G
 unfold layE at c;rw[e]at c j ⊢;dsimp only at c j ⊢;have f:=h.ok;rw[e]at f;dsimp only at f;generalize hT:trW cs 0 0 [] es=T at *;obtain⟨A,s,v,k,y⟩:=T;dsimp only at c j p ⊢;subst p;subst j;have r:apE cs s v x=0:=by
  by_cases l:apE cs s v x=0
  .exact l
  rw[Ab l]at c;exact absurd c l
 rw[Aa (fun h=>h r)]at c;have C:es.length<(es++[x]).length:=by simp
 have u:trW cs 0 0 [] ((es++[x]).take es.length)=(A,s,v,es.length,0):=by rw[BR rfl];exact hT
 have z:x=(es++[x]).getD es.length default:=by simp[List.getD]
 have m:=ztD d u C D z r c;rw[Am (by simp)]at m;have b:=zzG (cs:=cs) (es:=es++[x]) t (by rw[m]);rw[m]at b;dsimp only at b;refine⟨⟨h.sch,d,by rw[b]⟩,?_⟩;rw[b,An]
def zmB(h:TrS cs es)(b:PSO a.2):EnO (actX cs es a):=by
 have c:=h.seq;unfold actX;split
 ·refine⟨?_,?_,zF7 b⟩
  .show inW 0;unfold inW;omega
  show inW ((trE cs es).2.1+1);unfold inW;omega
 refine⟨?_,h.inw,h.pso⟩;show inW 1;unfold inW;omega
def zFK(b:actE cs es a=0):es.length<4096/\(a.1=0->clcE cs a.2=0)/\layE cs es (actX cs es a)=0:=by
 unfold actE at b;by_cases d:4096<=es.length
 .rw[Ab d]at b;cases b
 rw[Aa d]at b;by_cases c:a.1=0/\clcE cs a.2≠0
 .rw[Ab c]at b;exact absurd b c.2
 rw[Aa c]at b;refine⟨by omega,fun h=>?_,b⟩;by_cases e:clcE cs a.2=0
 .exact e
 exact absurd ⟨h,e⟩ c
def zpP(h:TrS cs es)(e:PSO a.2)(d:actE cs es a=0) :TrS cs (es++[actX cs es a])/\trE cs (es++[actX cs es a])=((trE cs es).1++(entW cs (actX cs es a)).1,apN cs (trE cs es).2.1 (trE cs es).2.2.1 (actX cs es a),apV cs (trE cs es).2.1 (trE cs es).2.2.1 (actX cs es a),es.length+1,0):=by
 obtain⟨b,_,c⟩:=zFK d;exact zp0 h b (zmB h e) c
def zD4:(actS cs es a).length<=es.length+1/\es.length<=(actS cs es a).length:=by
 unfold actS;split
 ·simp
 simp
end
/- -/
def OffG(E:Elt)(w:World)(v:Value)(vs:List (List Value))(Q:Nat->Prop):Prop:=RdG E w v vs/\∀i,i<vs.length->¬Q (adr v (i*E.n)).block
section
variable{E:Elt}{w w':World}{v:Value}{vs:List (List Value)}{Q Q':Nat->Prop}
def OffG.keep(h:OffG E w v vs Q)(c:E.Ok)(d:∀j,j<w.heap.size->¬Q j->w'.heap[j]?=w.heap[j]?):OffG E w' v vs Q :=
 ⟨h.1.same fun i b=>d _ (h.1.block c b) (h.2 i b),h.2⟩
def OffG.more(h:OffG E w v vs Q)(c:E.Ok)(d:∀j,j<w.heap.size->¬Q j->¬Q' j):OffG E w v vs Q' :=
 ⟨h.1,fun i b=>d _ (h.1.block c b) (h.2 i b)⟩
def OffG.old(h:RdG E w v vs)(b:E.Ok)(c:∀j,j<w.heap.size->¬Q j):OffG E w v vs Q:=⟨h,fun i d=>c _ (h.block b d)⟩
def OwnG.where14{base:Nat}(h:OwnG E w base v vs){i:Nat}(d:i<vs.length):v.ownBlock=some (adr v (i*E.n)).block/\base<=(adr v (i*E.n)).block:=by
 rcases h.1.2 with⟨rfl,e⟩|⟨g,cap,c,rfl,b,_⟩
 .omega
 rw[zaF];exact⟨rfl,b⟩
def OwnG.off{base:Nat}(h:OwnG E w base v vs)(d:vs.length<=140737488351232)(b:∀j,base<=j->¬Q j):OffG E w v vs Q :=
 ⟨h.rd d,fun i c=>b _ (h.where14 c).2⟩
end
variable {l:Bs} {y:Int} {cs:List ColB} {b es:List EntB} {B E N base d g:Nat} {Q:Nat->Prop} {v:Value} {w w':World}
def Only.by14{r:Option Nat}(k:w.grownBy w' r):Only (fun j=>r=some j) w w':=⟨k.os,k.tape,k.output,k.size,fun j b c=>k.block j b (fun e=>c e.symm)⟩
def Own.stay{S:Nat->Prop}(h:Own w base v l)(e:Only S w w')(i:∀q,v.ownBlock=some q->¬S q):Own w' base v l:=by
 refine⟨h.1,?_⟩;rcases h.2 with d|⟨g,cap,b,rfl,c,f,r⟩
 .exact .inl d
 exact .inr ⟨g,cap,b,rfl,c,e.keep f (i g rfl),r⟩
def Own.lt14(h:Own w base v l){k:Nat}(b:v.ownBlock=some k):base<=k/\k<w.heap.size:=World.ownsRow.lt h k b
def Wbox(w:World)(g:Nat)(sv bv:Value)(n s:Int)(vv:Value):Prop:=w.heap[g]?=some (.cells #[sv,bv,.int .i64 n,.int .i64 s,vv] 112 (0,0))
section
variable{w w':World}{g:Nat}{sv bv vv:Value}{n s:Int}
def Wbox.cells(h:Wbox w g sv bv n s vv):w.cell? ⟨g,0,none⟩=some sv/\w.cell? ⟨g,1,none⟩=some bv/\w.cell? ⟨g,2,none⟩=some (.int .i64 n)/\w.cell? ⟨g,3,none⟩=some (.int .i64 s)/\w.cell? ⟨g,4,none⟩=some vv :=
 ⟨Ag _ _ 0 _ _ _ h,Ag _ _ 1 _ _ _ h,Ag _ _ 2 _ _ _ h,Ag _ _ 3 _ _ _ h,Ag _ _ 4 _ _ _ h⟩
def Wbox.free(h:Wbox w g sv bv n s vv)(i:Nat):w.frozen? ⟨g,i,none⟩=false:=At _ _ _ _ _ h
def Wbox.lt(h:Wbox w g sv bv n s vv):g<w.heap.size:=(Aj.1 h).1
def Wbox.later(h:Wbox w g sv bv n s vv)(b:Lz w w'):Wbox w' g sv bv n s vv:=(b.block g h.lt).trans h
def Wbox.set(h:Wbox w g sv bv n s vv)(b:Value)(m t:Int)(u:Value):Wbox ((((w.setCell ⟨g,1,none⟩ b).setCell ⟨g,2,none⟩ (.int .i64 m)).setCell ⟨g,3,none⟩ (.int .i64 t)).setCell ⟨g,4,none⟩ u) g sv b m t u:=by
 have:=block_setCell (k:=4) (block_setCell (k:=3) (block_setCell (k:=2) (block_setCell (k:=1) h b) (.int .i64 m)) (.int .i64 t)) u;unfold Wbox;simpa using this
end
def Ban(Q:Nat->Prop)(g:Nat)(bv:Value)(j:Nat):Prop:=Q j\/j=g\/bv.ownBlock=some j
structure Wr(w:World)(N g:Nat)(bv:Value)(cs:List ColB)(es:List EntB)(Q:Nat->Prop):Prop where
 trs:TrS cs es
 from_:N<=g
 own:Own w N bv (trE cs es).1
 apart:bv.ownBlock≠some g
 free:∀j,Q j->j≠g/\bv.ownBlock≠some j
 box:∃sv vv,Wbox w g sv bv (es.length:Int) (trE cs es).2.1 vv/\OffG colE w sv (cs.map colV) (Ban Q g bv)/\OffS w vv (trE cs es).2.2.1 (Ban Q g bv)
section
variable{w w':World}{N g:Nat}{bv:Value}{cs:List ColB}{es:List EntB}{Q Q' S:Nat->Prop}
def Wr.lt(h:Wr w N g bv cs es Q):g<w.heap.size:=by
 obtain⟨_,_,b,_⟩:=h.box;exact b.lt
def Wr.only(h:Wr w N g bv cs es Q)(c:Only S w w')(d:∀j,j<w.heap.size->S j->Q j):Wr w' N g bv cs es Q:=by
 obtain⟨sv,vv,e,l,m⟩:=h.box;have i:∀j,j<w.heap.size->¬Ban Q g bv j->w'.heap[j]?=w.heap[j]?:=fun j f p=>c.block j f fun b=>p (.inl (d j f b));refine⟨h.trs,h.from_,h.own.stay c fun q k b=>(h.free q (d q (h.own.lt14 k).2 b)).2 k,h.apart,h.free,sv,vv,c.keep e fun b=>(h.free g (d g e.lt b)).1 rfl,l.keep zbK i,m.keep i⟩
def Wr.later(h:Wr w N g bv cs es Q)(b:Lz w w'):Wr w' N g bv cs es Q :=
 h.only (S:=fun _=>False) (zbF b l_) fun _ _ h=>h.elim
def Wr.drew(h:Wr w N g bv cs es Q):Wr w.drew N g bv cs es Q:=h.later (Ac _ _).drew
def Wr.less(h:Wr w N g bv cs es Q)(b:∀j,Q' j->Q j):Wr w N g bv cs es Q':=by
 obtain⟨sv,vv,d,e,f⟩:=h.box;have c:∀j,j<w.heap.size->¬Ban Q g bv j->¬Ban Q' g bv j:=fun j _ k l=>k (l.elim (fun h=>.inl (b j h)) .inr);exact⟨h.trs,h.from_,h.own,h.apart,fun j i=>h.free j (b j i),sv,vv,d,e.more zbK c,f.more c⟩
def Wr.fresh(h:Wr w N g bv cs es Q):Wr w N g bv cs es (fun j=>Q j\/w.heap.size<=j):=by
 obtain⟨sv,vv,d,k,l⟩:=h.box;have f:∀j,j<w.heap.size->¬Ban Q g bv j->¬Ban (fun j=>Q j\/w.heap.size<=j) g bv j:=fun j c i b=>by
  rcases b with(b|b)|b
  .exact i (.inl b)
  .omega
  exact i (.inr b)
 refine⟨h.trs,h.from_,h.own,h.apart,fun j c=>?_,sv,vv,d,k.more zbK f,l.more f⟩;rcases c with c|c
 .exact h.free j c
 refine⟨fun e=>?_,fun e=>?_⟩
 .have:=d.lt;omega
 have:=(h.own.lt14 e).2;omega
def Wr.lower{N':Nat}(h:Wr w N g bv cs es Q)(b:N'<=N):Wr w N' g bv cs es Q :=
 ⟨h.trs,Ar b h.from_,h.own.base b,h.apart,h.free,h.box⟩
def Wr.below(h:Wr w N g bv cs es Q)(b:Only (fun j=>j=g\/bv.ownBlock=some j) w w'):Below N w w' :=
 b.toBelow (fun j c=>c.elim (fun e=>by rw[e];exact h.from_) fun e=>(h.own.lt14 e).1) (Ar h.from_ (Nat.le_of_lt h.lt))
def Wr.rd(h:Wr w N g bv cs es Q):Rd w bv (trE cs es).1:=h.own.rd (by have:=h.trs.small;omega)
end
def StO(w:World)(N g:Nat)(bv:Value)(cs:List ColB)(Q:Nat->Prop)(E:Nat)(B:Bs)(es':List EntB)(e:Ending)(w':World):Prop :=
 ∃x bn,e=.returned (.tuple #[x,.int .i64 (E:Int)])/\Own w' w.heap.size x B/\Wr w' N g bn cs es' (fun j=>Q j\/x.ownBlock=some j)/\Only (fun j=>j=g\/bv.ownBlock=some j) w w'/\Place w bv bn
def StO.no{bv:Value}{B:Bs}(h:Wr w N g bv cs es Q)(f:Lz w w')(k:d=E)(i:B=[])(c:b=es)(m:y=(E:Int)) :StO w N g bv cs Q d B b (.returned (.tuple #[.slice none 0 0,.int .i64 y])) w':=by
 subst k i c m;exact⟨_,bv,rfl,zaE _ _,(h.later f).less (fun j l=>l.elim id fun e=>by cases e),zbF f l_,.inl rfl⟩
def Mbox(w:World)(g:Nat)(sv ev:Value)(s:Int)(vv:Value):Prop:=w.heap[g]?=some (.cells #[sv,ev,.int .i64 s,vv] 57 (0,0))
section
variable{w w':World}{g:Nat}{sv ev vv:Value}{s:Int}
def Mbox.cells(h:Mbox w g sv ev s vv):w.cell? ⟨g,0,none⟩=some sv/\w.cell? ⟨g,1,none⟩=some ev/\w.cell? ⟨g,2,none⟩=some (.int .i64 s)/\w.cell? ⟨g,3,none⟩=some vv :=
 ⟨Ag _ _ 0 _ _ _ h,Ag _ _ 1 _ _ _ h,Ag _ _ 2 _ _ _ h,Ag _ _ 3 _ _ _ h⟩
def Mbox.free(h:Mbox w g sv ev s vv)(i:Nat):w.frozen? ⟨g,i,none⟩=false:=At _ _ _ _ _ h
def Mbox.lt(h:Mbox w g sv ev s vv):g<w.heap.size:=(Aj.1 h).1
def Mbox.later(h:Mbox w g sv ev s vv)(b:Lz w w'):Mbox w' g sv ev s vv:=(b.block g h.lt).trans h
def Mbox.setSV(h:Mbox w g sv ev s vv)(t:Int)(u:Value):Mbox ((w.setCell ⟨g,2,none⟩ (.int .i64 t)).setCell ⟨g,3,none⟩ u) g sv ev t u:=by
 have:=block_setCell (k:=3) (block_setCell (k:=2) h (.int .i64 t)) u;unfold Mbox;simpa using this
def Mbox.setE(h:Mbox w g sv ev s vv)(u:Value):Mbox (w.setCell ⟨g,1,none⟩ u) g sv u s vv:=by
 have:=block_setCell (k:=1) h u;unfold Mbox;simpa using this
end
structure Mr(w:World)(N g:Nat)(cs:List ColB)(es:List EntB)(Q:Nat->Prop):Prop where
 trs:TrS cs es
 from_:N<=g
 free:¬Q g
 box:∃sv ev vv,∃ts:List EntV,Mbox w g sv ev (trE cs es).2.1 vv/\es=ts.map (·.2)/\OffG colE w sv (cs.map colV) (fun j=>Q j\/j=g)/\OffG zaV w ev (ts.map enV) (fun j=>Q j\/j=g)/\Held w vv (trE cs es).2.2.1 ts (fun j=>Q j\/j=g)
section
variable{w w':World}{N g:Nat}{cs:List ColB}{es:List EntB}{Q Q' S:Nat->Prop}
def Mr.lt(h:Mr w N g cs es Q):g<w.heap.size:=by
 obtain⟨_,_,_,_,b,_⟩:=h.box;exact b.lt
def Mr.only(h:Mr w N g cs es Q)(e:Only S w w')(f:∀j,j<w.heap.size->S j->Q j):Mr w' N g cs es Q:=by
 obtain⟨sv,ev,vv,ts,d,k,l,m,p⟩:=h.box;have b:∀j,j<w.heap.size->¬(Q j\/j=g)->w'.heap[j]?=w.heap[j]?:=fun j i r=>e.block j i fun c=>r (.inl (f j i c));exact⟨h.trs,h.from_,h.free,sv,ev,vv,ts,e.keep d fun c=>h.free (f g d.lt c),k,l.keep zbK b,m.keep zbP b,p.keep b⟩
def Mr.later(h:Mr w N g cs es Q)(b:Lz w w'):Mr w' N g cs es Q :=
 h.only (S:=fun _=>False) (zbF b l_) fun _ _ h=>h.elim
def Mr.drew(h:Mr w N g cs es Q):Mr w.drew N g cs es Q:=h.later (Ac _ _).drew
def Mr.more(h:Mr w N g cs es Q)(e:∀j,j<w.heap.size->Q' j->Q j):Mr w N g cs es Q':=by
 obtain⟨sv,ev,vv,ts,d,f,i,k,l⟩:=h.box;have b:∀j,j<w.heap.size->¬(Q j\/j=g)->¬(Q' j\/j=g):=fun j m p c=>p (c.elim (fun h=>.inl (e j m h)) .inr);exact⟨h.trs,h.from_,fun c=>h.free (e g d.lt c),sv,ev,vv,ts,d,f,i.more zbK b,k.more zbP b,l.more b⟩
def Mr.lower{N':Nat}(h:Mr w N g cs es Q)(b:N'<=N):Mr w N' g cs es Q:=⟨h.trs,Ar b h.from_,h.free,h.box⟩
def Mr.trace(h:Mr w N g cs es Q):∃sv ev vv,Mbox w g sv ev (trE cs es).2.1 vv/\zi4 w (.agg #[sv,ev]) cs es/\RdP w vv (trE cs es).2.2.1:=by
 obtain⟨sv,ev,vv,ts,c,rfl,d,e,b⟩:=h.box;exact⟨sv,ev,vv,c,⟨sv,ev,rfl,d.1,ts,rfl,e.1,fun t f=>(b.2 t f).rd⟩,b.1.rd⟩
end
def SmO(w:World)(N g:Nat)(cs:List ColB)(Q:Nat->Prop)(E:Nat)(B:Bs)(es':List EntB)(e:Ending)(w':World):Prop :=
 ∃x,e=.returned (.tuple #[x,.int .i64 (E:Int)])/\Own w' w.heap.size x B/\Mr w' N g cs es' Q/\Only (fun j=>j=g) w w'
def SmO.no{B:Bs}(h:Mr w N g cs es Q)(e:Lz w w')(i:d=E)(f:B=[])(c:b=es)(j:y=(E:Int)) :SmO w N g cs Q d B b (.returned (.tuple #[.slice none 0 0,.int .i64 y])) w':=by
 subst i f c j;exact⟨_,rfl,zaE _ _,h.later e,zbF e l_⟩
/- -/
def blank(w:World)(B:Nat):World:={ w with heap:=w.heap.mapIdx fun j o=>if j<B then .cells #[] 5 (0,0)else o}
def ze0(w:World)(B:Nat):Only (fun j=>j<B) w (blank w B):=by
 refine⟨rfl,rfl,rfl,by simp[blank],fun j c b=>?_⟩;simp only[blank,Array.getElem?_mapIdx];cases h:w.heap[j]? with
 | none=>rfl
 | some o=>simp[Aa b]
def zo3{a:Addr}{x:Value}(h:(blank w B).cell? ⟨a.block,a.off,none⟩=some x):¬a.block<B:=fun b=>by
 cases k:w.heap[a.block]? with
 | none=>
  have:(blank w B).heap[a.block]?=none:=by simp[blank,k]
  simp[World.cell?,this]at h
 | some o=>
  have:(blank w B).heap[a.block]?=some (.cells #[] 5 (0,0)):=by simp[blank,k,b]
  rw[Ag _ _ _ _ _ _ this]at h;simp at h
def zh0{E:Elt}{vs:List (List Value)}(e:E.Ok)(h:RdG E (blank w B) v vs):OffG E w v vs (fun j=>j<B):=by
 have key:∀i,i<vs.length->¬(adr v (i*E.n)).block<B:=fun i c d=>by
  obtain⟨m,cap,rfl,_,_,k⟩:=h.shape;obtain⟨b,o,rfl⟩:=k (by omega);have r:(vs.getD i []).length=E.n:=h.wid _ (by simp[List.getD,AJ c]);have p:=e.hn;have f:=h.cells i c 0 ((vs.getD i [])[0]'(by omega)) (by simp);rw[zaF]at f d;exact zo3 (a:=⟨b,o+(i*E.n+0),none⟩) f d
 refine⟨h.same fun i c=>?_,key⟩;have d:=h.block e c;have l:(blank w B).heap.size=w.heap.size:=by simp[blank]
 exact((ze0 w B).block _ (by omega) (key i c)).symm
def zEE{ps:List PairB}(h:RdP (blank w B) v ps):OffS w v ps (fun j=>j<B):=by
 obtain⟨ts,e,f,l⟩:=h;have k:=zh0 zaX f;have d:=fun t b=>zh0 zd5 (l t b);refine⟨ts,e,k.1,fun t b=>(d t b).1,fun i c=>?_,fun t b i c=>?_⟩
 .exact k.2 i (by simpa using c)
 exact(d t b).2 i (by simpa using c)
def zED(h:RdZ (blank w B) v es):∃ts:List EntV,es=ts.map (·.2)/\OffG zaV w v (ts.map enV) (fun j=>j<B)/\∀t∈ts,OffS w t.1 t.2.2.2 (fun j=>j<B):=by
 obtain⟨ts,e,b,c⟩:=h;exact⟨ts,e,zh0 zbP b,fun t d=>zEE (c t d)⟩
end
section
open _root_.Go.Proofs.Tryz
variable {a:ActB} {B:Bs} {R:Bs×Nat} {e:Ending} {x:EntB} {cs:List ColB} {b es:List EntB} {qs:List PairB} {E N base g j:Nat} {Q:Nat->Prop} {bv n v:Value} {f w w' w4:World}
def zsW {m v:World} {f X vv D z:Value} {r:List EntB} {L:Bs}{V:List PairB}{n s S:Int}(A:Wr w N g bv cs es Q)(hQ:∀j,Q j->j<w.heap.size)(I:Wbox m g X bv n s vv)(hS:OffG colE w X (cs.map colV) (Ban Q g bv))(G:Lz w w4)(C:Lz w4 m)(hx:Own m w4.heap.size z B)(hv:NewP w4 w.heap.size D V)(ac:Own v N f (L++B))(M:m.grownBy v bv.ownBlock)(T:Place m bv f)(ht:TrS cs r)(hT:trE cs r=(L++B,S,V,es.length+1,0))(hl:r.length=es.length+1) :StO w N g bv cs Q 0 B r (.returned (.tuple #[z,.int .i64 0])) ((((v.setCell ⟨g,1,none⟩ f).setCell ⟨g,2,none⟩ (.int .i64 ((es.length:Int)+1))).setCell ⟨g,3,none⟩ (.int .i64 S)).setCell ⟨g,4,none⟩ D):=by
 have am:=A.lt;have t:∀k,bv.ownBlock=some k->k<w.heap.size:=fun k y=>(A.own.lt14 y).2;have aj:=C.size;have U:=G.size;have u:∀k,z.ownBlock=some k->w4.heap.size<=k/\k<m.heap.size:=fun k y=>hx.lt14 y;have l:∀k,f.ownBlock=some k->bv.ownBlock=some k\/m.heap.size<=k:=fun k y=>by
  rcases T with e|hp
  .exact .inl (by rw[<-e];exact y)
  exact .inr (hp k y)
 have x:f.ownBlock≠some g:=fun e=>by
  rcases l g e with h|h
  .exact A.apart h
  omega
 have h8:Wbox v g X bv n s vv:=(M.block g (by omega) fun e=>A.apart e.symm).trans I;have O5:Only (fun j=>j=g\/bv.ownBlock=some j) w m:=zbF (G.trans (C.mono U)) l_;have O8:Only (fun j=>j=g\/bv.ownBlock=some j) m v:=(Only.by14 M).mono fun j c=>.inr c;have Og:Only (fun j=>j=g) v ((((v.setCell ⟨g,1,none⟩ f).setCell ⟨g,2,none⟩ (.int .i64 ((es.length:Int)+1))).setCell ⟨g,3,none⟩ (.int .i64 S)).setCell ⟨g,4,none⟩ D) :=
  ((((Only.refl (fun j=>j=g) v).setCell (p:=⟨g,1,none⟩) rfl _).setCell (p:=⟨g,2,none⟩) rfl _).setCell (p:=⟨g,3,none⟩) rfl _).setCell (p:=⟨g,4,none⟩) rfl _
 have J:=h8.set f ((es.length:Int)+1) S D;obtain⟨w9,ad⟩:=nm_ ((((v.setCell ⟨g,1,none⟩ f).setCell ⟨g,2,none⟩ (.int .i64 ((es.length:Int)+1))).setCell ⟨g,3,none⟩ (.int .i64 S)).setCell ⟨g,4,none⟩ D);rw[<-ad]at Og J ⊢;have Z:Only (fun j=>j=g\/bv.ownBlock=some j) m w9:=O8.trans (Og.mono fun j c=>.inl c);have E:Only (fun j=>j=g\/bv.ownBlock=some j) w w9:=O5.trans Z;have Y:Only (fun j=>j=g\/bv.ownBlock=some j) w4 w9:=(zbF C l_).trans Z;have H:∀j,j<w.heap.size->¬Ban Q g bv j->¬(Ban Q g bv j\/Ban (fun j=>Q j\/z.ownBlock=some j) g f j):=fun j c d b=>by
  rcases b with b|(b|b)|b|b
  .exact d b
  .exact d (.inl b)
  .have:=(u j b).1;omega
  .exact d (.inr (.inl b))
  rcases l j b with h|h
  .exact d (.inr (.inr h))
  omega
 have O:∀j,j<w4.heap.size->¬(j<w.heap.size)->¬(j<w.heap.size\/Ban (fun j=>Q j\/z.ownBlock=some j) g f j):=fun j c d b=>by
  rcases b with b|(b|b)|b|b
  .exact d b
  .have:=hQ j b;omega
  .have:=(u j b).1;omega
  .omega
  rcases l j b with h|h
  .have:=t j h;omega
  omega
 refine⟨z,f,rfl,(hx.base U).stay Z fun q b i=>?_,⟨ht,A.from_,?_,x,fun j c=>?_,X,D,?_,?_,?_⟩,E,?_⟩
 .have:=(u q b).1;rcases i with i|i
  .omega
  have:=t q i;omega
 .rw[hT];exact ac.stay Og fun q b i=>by subst i;exact x b
 .rcases c with c|c
  .refine⟨(A.free j c).1,fun e=>?_⟩;rcases l j e with h|h
   .exact(A.free j c).2 h
   have:=hQ j c;omega
  have:=u j c;refine⟨by omega,fun e=>?_⟩;rcases l j e with h|h
  .have:=t j h;omega
  omega
 .rw[hT,hl];push_cast;exact J
 .refine OffG.more (Q:=fun j=>Ban Q g bv j\/Ban (fun j=>Q j\/z.ownBlock=some j) g f j) ((hS.more zbK H).keep zbK fun j c d=>E.block j c fun i=>d (.inl (.inr i))) zbK fun j _ d b=>d (.inr b)
 .rw[hT];refine OffS.more (Q:=fun j=>j<w.heap.size\/Ban (fun j=>Q j\/z.ownBlock=some j) g f j) (((hv.offS (Q:=fun j=>j<w.heap.size) fun j c d=>by omega).more O).keep fun j c d=>Y.block j c fun i=>?_) fun j _ d b=>d (.inr b);rcases i with i|i
  .exact d (.inl (by omega))
  exact d (.inl (t j i))
 rcases T with e|hp
 .exact .inl e
 exact .inr fun k y=>by have:=hp k y;omega
def zBW(c:E=apE cs (trE cs es).2.1 (trE cs es).2.2.1 x)(h:E≠0):layE cs es x=E/\layB cs es x=[]/\layS cs es x=es:=by
 have b:layE cs es x=E:=by unfold layE;rw[<-c,Ab h]
 unfold layB layS;rw[b,Aa h,Aa h];exact⟨rfl,rfl,rfl⟩
def zBV(c:apE cs (trE cs es).2.1 (trE cs es).2.2.1 x=0)(d:R=entW cs x)(h:R.2≠0):layE cs es x=R.2/\layB cs es x=[]/\layS cs es x=es:=by
 have b:layE cs es x=R.2:=by unfold layE;rw[c,Aa (fun h=>h rfl),d]
 unfold layB layS;rw[b,Aa h,Aa h];exact⟨rfl,rfl,rfl⟩
def zrF(d:apE cs (trE cs es).2.1 (trE cs es).2.2.1 x=0)(b:R=entW cs x)(h:R.2=0):layE cs es x=0/\layB cs es x=R.1/\layS cs es x=es++[x]:=by
 have c:layE cs es x=0:=by unfold layE;rw[d,Aa (fun h=>h rfl),<-b,h]
 unfold layB layS;rw[c,Ab rfl,Ab rfl,<-b];exact⟨rfl,rfl,rfl⟩
def zmM(N g:Nat)(bv ev:Value)(cs:List ColB)(es:List EntB)(x:EntB)(Q:Nat->Prop)(w:World)(hW:Wr w N g bv cs es Q)(hQ:∀j,Q j->j<w.heap.size)(hl:es.length<4096)(hE:RdN w ev x)(hX:EnO x)(hT:Tabs w)(hF:Frs w) :Calls prog 59 #[.pointer (some ⟨g,0,none⟩),ev] w (StO w N g bv cs Q (layE cs es x) (layB cs es x) (layS cs es x)):=by
 obtain⟨kd,b,ps⟩:=x;obtain⟨pv,rfl,hP⟩:=hE;dsimp only at hP;obtain⟨T,np,U,rfl⟩:=hP.lit12;obtain⟨sv,vv,hB,hS,hV⟩:=hW.box;have hR:RdC w sv cs:=hS.1;obtain⟨av,nv,cv,rfl⟩:=hV.rd.lit12;obtain⟨ac,nc,cc,rfl⟩:=hR.lit12;obtain⟨ab,nb,cb,rfl⟩:=hW.own.lit13;obtain⟨N1,N2⟩:=za5 w (.cells #[.int .i64 kd,.int .i64 b,.slice T np U] 123);obtain⟨i,ay⟩:=nm_ (w.alloc (.cells #[.int .i64 kd,.int .i64 b,.slice T np U] 123));rw[<-ay]at N1 N2;obtain⟨u,hg⟩:=nm_ w.heap.size;rw[<-hg]at N1;have t:=h_ (show Ebox i u kd b (.slice T np U)from N1);have r:=h_ (hB.later N2);have n:=h_ N2;have bd:=h_ ay;have HG:=h_ hg;have J:=h_ hW;have HQ:=h_ hQ;have HS:=h_ hS;have ht:=hW.trs;have aS:es.length+1<=4096:=by omega
 have aU:=ht.small;have AP:=h_ (fun G(d:Lz i G)=>by
  have f:Lz w G:=N2.trans (d.mono N2.size);exact(ziN (.slice ac nc cc) (.slice av nv cv) (.agg #[.int .i64 kd,.int .i64 b,.slice T np U]) cs (trE cs es).2.1 (trE cs es).2.2.1 (kd,b,ps) G (hR.later f l_) (hV.rd.later f l_) ⟨_,rfl,hP.later f l_⟩ ht.sch ht.pso hX ht.inw (hT.later f)).mono
   (fun e w' h=>show(∃rv,e=.returned (.tuple #[.int .i64 (apN cs (trE cs es).2.1 (trE cs es).2.2.1 (kd,b,ps)),rv,.int .i64 (apE cs (trE cs es).2.1 (trE cs es).2.2.1 (kd,b,ps):Nat)])/\NewP w' w.heap.size rv (apV cs (trE cs es).2.1 (trE cs es).2.2.1 (kd,b,ps)))/\Lz i w' from by
    obtain⟨rv,he,hn,hb⟩:=h;exact⟨⟨rv,he,hn.lower f.size⟩,d.trans (hb.mono d.size)⟩))
 have O:=h_ (fun c(h6:Lz i c) G(d:Lz c G)=>by
  have aN:Lz w c:=N2.trans (h6.mono N2.size);have f:Lz w G:=aN.trans (d.mono aN.size);exact(zlE (.slice ac nc cc) (.agg #[.int .i64 kd,.int .i64 b,.slice T np U]) cs (kd,b,ps) G (hR.later f l_) ⟨_,rfl,hP.later f l_⟩ ht.sch hX (hT.later f) (hF.later f)).mono
   (fun e w' h=>show(∃rv,e=.returned (.tuple #[rv,.int .i64 ((entW cs (kd,b,ps)).2:Nat)])/\Own w' c.heap.size rv (entW cs (kd,b,ps)).1)/\Lz c w' from by
    obtain⟨rv,he,hn,hb⟩:=h;exact⟨⟨rv,he,hn.base d.size⟩,d.trans (hb.mono d.size)⟩))
 have L1:=fun E h k=>zBW (cs:=cs) (es:=es) (x:=(kd,b,ps)) (E:=E) h k;have L2:=fun R h k l=>zBV (cs:=cs) (es:=es) (x:=(kd,b,ps)) (R:=R) h k l;have L3:=fun R h k l=>zrF (cs:=cs) (es:=es) (x:=(kd,b,ps)) (R:=R) h k l;have NX:=fun h=>zp0 (cs:=cs) (es:=es) (x:=(kd,b,ps)) ht hl hX h;have az:=entW_small cs (kd,b,ps);obtain⟨E,X⟩:=nm_ (apE cs (trE cs es).2.1 (trE cs es).2.2.1 (kd,b,ps));obtain⟨V,am⟩:=nm_ (apV cs (trE cs es).2.1 (trE cs es).2.2.1 (kd,b,ps));obtain⟨S,al⟩:=nm_ (apN cs (trE cs es).2.1 (trE cs es).2.2.1 (kd,b,ps));obtain⟨R,Z⟩:=nm_ (entW cs (kd,b,ps));have aF:=h_ (L1 E X);rw[<-X,<-am,<-al]at AP;rw[<-X]at L2 L3;have aG:=h_ (fun h=>L2 R h Z);have aH:=h_ (fun h=>L3 R h Z);rw[<-Z]at O az NX;rw[<-am,<-al]at NX;have I:=h_ NX;have aL:=h_ az;have aK:=h_ aU;have aI:=h_ hW.own;have bS:=hW.from_;have bU:=hB.lt;obtain⟨LE,ak⟩:=nm_ (layE cs es (kd,b,ps));obtain⟨LB,aO⟩:=nm_ (layB cs es (kd,b,ps));obtain⟨LS,aP⟩:=nm_ (layS cs es (kd,b,ps));rw[<-ak,<-aO,<-aP]at aF aG aH ⊢;rw[<-ak]at I;have q0:=r.cells;obtain⟨L,aQ⟩:=nm_ ((trE cs es).1);obtain⟨sq,aV⟩:=nm_ ((trE cs es).2.1);rw[<-aQ]at aI I aK;rw[<-aV]at r AP;obtain⟨m,hm⟩:=nm_ es.length;have HM:=h_ hm;rw[<-hm]at r I aS;have Q1:=h_ (fun G(d:Lz i G)=>Al d (Al (r.later d).cells.1 (Al (r.later d).cells.2.2.2.1 (Al (r.later d).cells.2.2.2.2 (Al (t.later d).cells.1 (Al (t.later d).cells.2.1 (t.later d).cells.2.2))))));have Q4:=h_ (fun c(h6:Lz i c) G(d:Lz c G)=>Al d (Al ((r.later h6).later d).cells.1 (Al ((t.later h6).later d).cells.1 (Al ((t.later h6).later d).cells.2.1 ((t.later h6).later d).cells.2.2))));clear N1 N2 ay hg hW hQ hS hB hV hR hP hX hT hF ht aU hl L1 L2 L3 NX az X am al Z ak aO aP q0 aQ aV hm;have H:Lz i i.drew:=(Ac _ _).drew;go_enter func59,ntmps59;go_wp2_with fail;rw[<-bd.o,<-HG.o];by_cases aj:E=0
 .subst aj;go_region_held3 (fun z=>Lz i z/\z.cell? ⟨g,0,none⟩=some (.slice ac nc cc)/\z.cell? ⟨g,3,none⟩=some (.int .i64 sq)/\z.cell? ⟨g,4,none⟩=some (.slice av nv cv)/\z.cell? ⟨u,0,none⟩=some (.int .i64 kd)/\z.cell? ⟨u,1,none⟩=some (.int .i64 b)/\z.cell? ⟨u,2,none⟩=some (.slice T np U)) (first|(exact Q1.o _ H)|go_keep)
   ((first
    | (go_at_call 78;refine(AP.o _ (by assumption)).mono ?_;rintro e c⟨⟨rv,rfl,v⟩,m3⟩;clear H;have H:=m3;clear m3)))
  obtain⟨ar,nr,cr,rfl⟩:=v.rd.lit12;have bc:=h_ v;have p:=h_ H;clear v AP Q1 H;go_wp2_with fail;have D:Lz c c.drew:=(Ac _ _).drew;have Q5:=h_ (Q4.o c p.o);have M:=h_ (O.o c p.o);clear Q4 O;by_cases Y:R.2=0
  .obtain⟨B,y⟩:=R;dsimp only at Y;subst Y;go_region_held3 (fun z=>Lz c z/\z.cell? ⟨g,0,none⟩=some (.slice ac nc cc)/\z.cell? ⟨u,0,none⟩=some (.int .i64 kd)/\z.cell? ⟨u,1,none⟩=some (.int .i64 b)/\z.cell? ⟨u,2,none⟩=some (.slice T np U)) (first|(exact Q5.o _ D)|go_keep)
    ((first
     | (go_at_call 79;refine(M.o _ (by assumption)).mono ?_;rintro e w7⟨⟨xv,rfl,s⟩,m3⟩;clear D;have D:=m3;clear m3)))
   obtain⟨ax,nx,cx,rfl⟩:=s.lit13;have ao:Lz i w7:=p.trans (D.mono p.size);have aA:=r.later ao;obtain⟨c0,c1,c2,c3,c4⟩:=aA.cells;have C:=n.trans (ao.mono n.size);have af:=aI.later C l_;have aW:Rd w7 (.slice ax nx cx) B:=s.rd (by have:B.length<=1048591:=aL.o;omega);have aM:=h_ aA;have be:=h_ s;have ag:=h_ D;have aJ:=h_ C.size;clear ao aA C s D M Q5;go_wp2_with (with_reducible refine zeU N (.slice ab nb cb) L ?hs af _ B ?hx aW ?hn ?hbase N w7 (Ac _ _) l_ ?_)
   case hs=>rfl
   case hx=>rfl
   case hn=>have h1:B.length<=1048591:=aL.o;have h2:=aK.o;omega
   case hbase=>have:=aJ.o;omega
   intro v8 w8 au bn aq aT;obtain⟨a8,n8,k8,rfl⟩:=au.lit13;have A:Wbox w8 g (.slice ac nc cc) (.slice ab nb cb) (m:Int) sq (.slice av nv cv):=(aq.block g (by have:=aJ.o;omega) fun e=>J.apart e.symm).trans aM.o;obtain⟨d0,d1,d2,d3,d4⟩:=A.cells;have f1:=A.free 1;have f2:=A.free 2;have f3:=A.free 3;have f4:=A.free 4;have H8:=h_ (Al au (Al aq aT));clear af aW au bn aq aT c0 c1 c2 c3 c4 A;go_wp2;go_ret2;obtain⟨z1,z2,z3⟩:=aH.o (by simp) (by simp);obtain⟨t1,t2⟩:=I.o z1;rw[z1,z2,z3];have ae:=zsW (w4:=c) J.o HQ.o aM.o HS.o (n.trans (p.mono n.size)) ag.o be.o bc.o H8.1 H8.2.1 H8.2.2 t1 (by rw[HM.o]at t2;exact t2) (by simp);rw[<-HM.o]at ae;exact ae
  have q:((R.2:Int)!=0)=true:=by rw[Ao];omega
  have bb:=h_ Y;clear Y;go_region_held3 (fun z=>Lz c z/\z.cell? ⟨g,0,none⟩=some (.slice ac nc cc)/\z.cell? ⟨u,0,none⟩=some (.int .i64 kd)/\z.cell? ⟨u,1,none⟩=some (.int .i64 b)/\z.cell? ⟨u,2,none⟩=some (.slice T np U)) (first|(exact Q5.o _ D)|go_keep)
   ((first
    | (go_at_call 79;refine(M.o _ (by assumption)).mono ?_;rintro e w7⟨⟨xv,rfl,s⟩,m3⟩;clear D;have D:=m3;clear m3)))
  obtain⟨ax,nx,cx,rfl⟩:=s.lit13;have ag:=bT p D;clear s D M Q5;go_wp2;go_ret2;obtain⟨z1,z2,z3⟩:=aG.o (by simp) bb.o;exact StO.no J.o (n.trans (ag.mono n.size)) z1 z2 z3 rfl
 have q:((E:Int)!=0)=true:=by rw[Ao];omega
 have HN:=h_ aj;clear aj;go_region_held3 (fun z=>Lz i z/\z.cell? ⟨g,0,none⟩=some (.slice ac nc cc)/\z.cell? ⟨g,3,none⟩=some (.int .i64 sq)/\z.cell? ⟨g,4,none⟩=some (.slice av nv cv)/\z.cell? ⟨u,0,none⟩=some (.int .i64 kd)/\z.cell? ⟨u,1,none⟩=some (.int .i64 b)/\z.cell? ⟨u,2,none⟩=some (.slice T np U)) (first|(exact Q1.o _ H)|go_keep)
  ((first
   | (go_at_call 78;refine(AP.o _ (by assumption)).mono ?_;rintro e c⟨⟨rv,rfl,v⟩,m3⟩;clear H;have H:=m3;clear m3)))
 obtain⟨ar,nr,cr,rfl⟩:=v.rd.lit12;have p:=h_ H;clear v AP Q1 H Q4 O;go_wp2;go_ret2;obtain⟨z1,z2,z3⟩:=aF.o HN.o;exact StO.no J.o (n.trans (p.mono n.size)) z1 z2 z3 rfl
def zi6(N g:Nat)(bv:Value)(cs:List ColB)(es:List EntB)(Q:Nat->Prop)(w:World)(c:Wr w N g bv cs es Q) :Calls prog 57 #[.pointer (some ⟨g,0,none⟩)] w fun e w'=>e=.returned (.int .i64 (if 4096<=es.length then 13 else 0))/\w=w':=by
 obtain⟨r,s,b,i,j⟩:=c.box;obtain⟨k,l,f,n,p⟩:=b.cells;obtain⟨m,hm⟩:=nm_ es.length;rw[<-hm]at f ⊢;clear c b i j hm;by_cases h:4096<=m
 .rw[Ab h];have d:decide ((m:Int)≥4096)=true:=Ah (by omega);clear h;go_enter func57,ntmps57;go_wp2;go_ret;exact⟨rfl,rfl⟩
 rw[Aa h];have d:decide ((m:Int)≥4096)=false:=Af (by omega);clear h;go_enter func57,ntmps57;go_wp2;go_ret;exact⟨rfl,rfl⟩
/- -/
def zyD(c:ColB):∀u∈colV c,u.oneCell'=true:=by
 intro u b;simp[colV]at b;rcases b with rfl|rfl<;>rfl
def zj0{cs f:List (List Value)}{e:Array Oper}{Q:Exit->Act->World->Prop}{rest:List Oper}{a:Act}{c:Option Tmp}{A:TypeId}{pos:String}{j:Array Edge}{s x:Operand}(base:Nat)(i:Value)(y:a.eval s=i)(t:OwnG colE w base i cs)(m:Value)(z:a.eval x=m)(v:RdG colE w m f)(d:∀x∈f,∀u∈x,u.oneCell'=true)(r:(cs.length+f.length)*24<=140737488355328)(b:base<=w.heap.size)(B:Nat)(l:World)(p:Below B l w)(k:B<=base)(h:∀n w',OwnG colE w' base n (cs++f)->Below B l w'->w.grownBy w' i.ownBlock->wpList prog e Q rest (a.put c n) w') :wpList prog e Q (⟨c,.call ⟨.builtin .append,#[s,x],#[22,22]⟩,A,pos,j,none⟩::rest) a w :=
 zcD (E:=colE) zbK base i y t m z v d r (by omega) b B l p k h
def zyC(v:Value)(cs:List ColB)(w:World)(h:RdC w v cs)(hn:cs.length*24<=140737488351360) :Calls prog 53 #[v] w fun e w'=>∃l,e=.returned l/\OwnC w' w.heap.size l cs/\Lz w w':=by
 obtain⟨s,cap,k,b,c,_⟩:=RdG.shape h;generalize hgl:(cs.map colV).length=n9 at k b;rw[Ad]at hgl;cases s with
 | none=>
  obtain rfl:cap=0:=c rfl;obtain rfl:n9=0:=by omega
  obtain rfl:cs=[]:=AR hgl;clear h c b hgl;subst k;have y:=fun u:World=>Bm (P:=prog) u 22 62 none 0 0 0 0 underlying22;go_enter func53,ntmps53;go_wp2;go_ret;exact⟨_,rfl,OwnC.nil _ _,Ac _ _⟩
 | some ad=>
  subst k;have r:=h_ (RdG.later h zbK ((Ac w.heap.size w).alloc l_ (.cells #[] 62)) l_);have m:=h_ (show ∀x∈cs.map colV,∀u∈x,u.oneCell'=true from fun x hx u z=>by
   obtain⟨t,A,rfl⟩:=Au.1 hx;exact zyD t u z)
  have p:=h_ (show OwnG colE (w.alloc (.cells #[] 62)) w.heap.size (.slice (some ⟨w.heap.size,0,none⟩) 0 0) []from zdR colE w w.heap.size l_);have n:=h_ ((Ac w.heap.size w).alloc l_ (.cells #[] 62));clear h c b hgl;have y:=fun u:World=>Bm (P:=prog) u 22 62 (some ad) n9 cap 0 0 underlying22;go_enter func53,ntmps53;go_wp2_with (with_reducible refine zj0 w.heap.size _ ?hs p.o _ ?hx r.o m.o ?hn ?hbase w.heap.size w n.o l_ ?_)
  case hs=>rfl
  case hx=>rfl
  case hn=>simp;omega
  case hbase=>simp
  intro C w4 d f _;rw[AA]at d;have j:=h_ d;have i:=h_ f;clear d f;go_wp2;go_ret;exact⟨_,rfl,j.o,i.o⟩
def zlZ(v:Value)(l:Bs)(w:World)(h:Rd w v l)(hn:l.length<=70368744177664) :Calls prog 54 #[v] w (RetB w l):=by
 obtain⟨t,cap,j,b,c,_⟩:=RdG.shape h.toG;have e:(oneB l).length=l.length:=by simp[oneB]
 rw[e]at j b;obtain⟨s,d⟩:=nm_ l.length;rw[<-d]at j b;cases t with
 | none=>
  obtain rfl:cap=0:=c rfl;obtain rfl:s=0:=by omega
  obtain rfl:l=[]:=AR d.symm;clear h c b e d;subst j;have x:=fun u:World=>Bm (P:=prog) u 34 5 none 0 0 0 0 underlying34;go_enter func54,ntmps54;go_wp2;go_ret;exact⟨_,rfl,zaE _ _,Ac _ _⟩
 | some ad=>
  subst j;have r:=h.later ((Ac w.heap.size w).alloc l_ (.cells #[] 5)) l_;have p:=own_empty w w.heap.size l_;have n:=(Ac w.heap.size w).alloc l_ (.cells #[] 5);clear h c b e d;have x:=fun u:World=>Bm (P:=prog) u 34 5 (some ad) s cap 0 0 underlying34;go_enter func54,ntmps54;go_wp2_with (with_reducible refine zeU w.heap.size _ [] ?hs p _ l ?hx r ?hn ?hbase w.heap.size w n l_ ?_)
  case hs=>rfl
  case hx=>rfl
  case hn=>simp;omega
  case hbase=>simp
  intro y w4 f i _ _;rw[AA]at f;have m:=h_ f;have k:=h_ i;clear f i p n r;go_wp2;go_ret;exact⟨_,rfl,m.o,k.o⟩
def OwnAt(w:World)(base:Nat)(v:Value)(qs:List PairB)(j:Nat):Prop:=∃rv,w.cell? (adr v (j*2))=some rv/\OwnE w base rv (qs.getD j default).1
def OwnAt.later{w w':World}{base j:Nat}{v:Value}{qs:List PairB}(h:OwnAt w base v qs j)(c:Lz w w'):OwnAt w' base v qs j:=by
 obtain⟨rv,b,d⟩:=h;exact⟨rv,(c.cell (p:=adr v (j*2)) (AI w _ b)).trans b,d.later c l_⟩
def OwnAt.set {k:Nat}{c:Array Value}(h:OwnAt w base v qs j)(f:adr v (j*2)=⟨g,j*2,none⟩)(m:j≠k)(i:w.heap[g]?=some (.cells c 69 (0,0)))(u:Value):OwnAt (w.setCell ⟨g,k*2,none⟩ u) base v qs j:=by
 obtain⟨rv,b,d⟩:=h;rw[f]at b;refine⟨rv,by rw[f];exact zfU b (by omega),?_⟩;exact OwnG.stay d (S:=fun q=>q=g) ((Only.refl (fun q=>q=g) w).setCell (p:=⟨g,k*2,none⟩) rfl _) fun q l e=>by
  subst e;exact OwnG.notOf d i (by decide) l
def OwnAt.new(h:OwnAt w base v qs j):zmK w base v qs j:=by
 obtain⟨rv,b,c⟩:=h;exact⟨rv,b,c.from12⟩
def zI5(w:World)(base:Nat)(v:Value)(qs:List PairB):Prop:=OwnP w base v qs/\∀j,j<qs.length->OwnAt w base v qs j
def zI5.new{w:World}{base:Nat}{v:Value}{qs:List PairB}(h:zI5 w base v qs)(c:qs.length<=140737488351232):NewP w base v qs :=
 NewP.of12 h.1 c (fun j b=>(h.2 j b).new) l_
/- -/
def NwO(w:World)(cs:List ColB)(e:Ending)(w':World):Prop :=
 ∃v,e=.returned (.tuple #[v,.int .i64 (errS (colsL cs):Nat)])/\Lz w w' /\
  ((errS (colsL cs)≠0/\v=.pointer none)\/(errS (colsL cs)=0/\∃g bv,v=.pointer (some ⟨g,0,none⟩)/\∀Q:Nat->Prop,(∀j,Q j->j<w.heap.size)->Wr w' w.heap.size g bv cs [] Q))
def zsY {c:World} {d:Value}(E:CS cs)(A:errS (colsL cs)=0)(r:Lz w c)(i:Lz c f)(u:Own c w.heap.size d (hdB (colsL cs)))(G:OwnC f c.heap.size n cs)(I:cs.length<=8)(y:∀j,Q j->j<w.heap.size) :Wr (f.alloc (.cells #[n,d,.int .i64 0,.int .i64 0,.slice none 0 0] 112)) w.heap.size f.heap.size d cs [] Q:=by
 obtain⟨H,v⟩:=TrS.nil E A;obtain⟨z,x⟩:=za5 f (.cells #[n,d,.int .i64 0,.int .i64 0,.slice none 0 0] 112);have D:=i.size;have C:=r.size;have l:∀k,d.ownBlock=some k->k<c.heap.size:=fun k t=>(u.lt14 t).2;have s:∀k,d.ownBlock=some k->w.heap.size<=k:=fun k t=>(u.lt14 t).1;refine⟨H,by omega,?_,fun e=>by have:=l _ e;omega,fun j m=>?_,n,.slice none 0 0,?_,?_,?_⟩
 .rw[v];exact(u.later i l_).later x l_
 .have:=y j m;exact⟨by omega,fun e=>by have:=s j e;omega⟩
 .rw[v];exact z
 .have h:=(OwnG.off (Q:=fun j=>j<c.heap.size) G (by rw[Ad];omega) (fun j m p=>by omega)).more (Q':=fun j=>j<c.heap.size\/Ban Q f.heap.size d j) zbK fun j m p b=>by
   rcases b with b|b|b|b
   .exact p b
   .have:=y j b;omega
   .omega
   have:=l j b;omega
  exact(h.keep zbK fun j m _=>x.block j m).more zbK fun j _ p b=>p (.inr b)
 rw[v];exact OffS.nil _ _
def zwK(v:Value)(cs:List ColB)(w:World)(l:RdC w v cs)(s:CS cs)(U:Tabs w) :Calls prog 27 #[v] w (NwO w cs):=by
 have j:=h_ (zmQ v cs w l s U);obtain⟨O,X,S,rfl⟩:=l.lit12;have M:=h_ l;have I:=h_ s;have p:=h_ (show hdW (colsL cs)=if errS (colsL cs)≠0 then([],errS (colsL cs))else(hdB (colsL cs),0)from rfl);have z:=h_ (fun h:errS (colsL cs)=0=>show cs.length<=8 from by have:=(zaO h).2.1;rw[za4]at this;exact this);unfold NwO;obtain⟨E,t⟩:=nm_ (errS (colsL cs));have n:=h_ t;rw[<-t]at p z ⊢;obtain⟨H,i⟩:=nm_ (hdB (colsL cs));have r:=h_ i;rw[<-i]at p;rw[p.o]at j;clear l s t i;by_cases k:E=0
 .subst k;have V:=z.o rfl;go_enter func27,ntmps27;go_wp2_with fail;refine j.mono ?_;rintro e x⟨D,rfl,d,c⟩;replace d:Own x w.heap.size D H:=d;obtain⟨A,G,C,rfl⟩:=d.lit13;have L:=h_ d;have b:=h_ c;have y:=h_ (zyC (.slice O X S) cs x (M.later c l_) (by omega));clear d c j;go_wp2_with fail;refine y.mono ?_;rintro e Y⟨cv,rfl,u,c⟩;obtain⟨Z,n2,c2,rfl⟩:=(u.rd (by omega)).lit12;have m:=h_ u;have f:=h_ c;clear u c y;go_wp2;go_ret2;refine⟨_,rfl,(b.trans (f.mono b.size)).trans ((Ac _ _).alloc (by have:=b.size;have:=f.size;omega) _),?_⟩;refine .inr ⟨by first|trivial|rfl,Y.heap.size,.slice A G C,rfl,fun Q T=>?_⟩;exact zsY I.o n.symm b.o f.o (by rw[<-r.o];exact L.o) m.o V T
 have q:((E:Int)!=0)=true:=by rw[Ao];omega
 have J:=h_ k;rw[Ab k]at j;clear k;go_enter func27,ntmps27;go_wp2_with fail;refine j.mono ?_;rintro e x⟨D,rfl,d,c⟩;obtain⟨A,G,C,rfl⟩:=d.lit13;have b:=h_ c;clear d c j;go_wp2;go_ret2;exact⟨_,rfl,b.o,.inl ⟨J.o,rfl⟩⟩
def StO.from {d:World}(h:StO d N g bv cs Q E B b e w')(c:Lz w d):StO w N g bv cs Q E B b e w':=by
 obtain⟨x,f,j,n,m,i,hp⟩:=h;refine⟨x,f,j,n.base c.size,m,(zbF c l_).trans i,?_⟩;rcases hp with h|h
 .exact .inl h
 exact .inr fun k l=>Ar c.size (h k l)
def StO.as {f:Nat} {d:Bs}(h:StO w N g bv cs Q E B es e w')(j:f=E)(i:d=B)(c:b=es):StO w N g bv cs Q f d b e w':=by
 subst j i c;exact h
def zjO(h:4096<=es.length):actE cs es a=13/\actB cs es a=[]/\actS cs es a=es:=by
 have b:actE cs es a=13:=by unfold actE;rw[Ab h]
 unfold actB actS;rw[b];exact⟨rfl,Aa (by decide),Aa (by decide)⟩
def zD5(h:¬4096<=es.length)(c:a.1=0)(b:clcE cs a.2≠0):actE cs es a=clcE cs a.2/\actB cs es a=[]/\actS cs es a=es:=by
 have d:actE cs es a=clcE cs a.2:=by unfold actE;rw[Aa h,Ab ⟨c,b⟩]
 unfold actB actS;rw[d,Aa b,Aa b];exact⟨rfl,rfl,rfl⟩
def zpQ(h:¬4096<=es.length)(c:a.1=0->clcE cs a.2=0):actE cs es a=layE cs es (actX cs es a)/\actB cs es a=layB cs es (actX cs es a)/\actS cs es a=layS cs es (actX cs es a):=by
 have d:actE cs es a=layE cs es (actX cs es a):=by unfold actE;rw[Aa h,Aa fun b=>b.2 (c b.1)]
 unfold actB actS layB layS;rw[d];exact⟨rfl,rfl,rfl⟩
def zo6(N g:Nat)(bv lv:Value)(cs:List ColB)(es:List EntB)(ps:List PairB)(Q:Nat->Prop)(w:World)(m:Wr w N g bv cs es Q)(hQ:∀j,Q j->j<w.heap.size)(O:RdP w lv ps)(S:PSO ps)(hl:ps.length<=4000)(U:Tabs w)(hF:Frs w) :Calls prog 33 #[.pointer (some ⟨g,0,none⟩),lv] w (StO w N g bv cs Q (actE cs es (0,ps)) (actB cs es (0,ps)) (actS cs es (0,ps))):=by
 have z:=h_ (zi6 N g bv cs es Q w m);have A1:=h_ (fun h=>zjO (cs:=cs) (es:=es) (a:=(0,ps)) h);have A2:=h_ (fun h k=>zD5 (cs:=cs) (es:=es) (a:=(0,ps)) h rfl k);have A3:=h_ (fun h k=>zpQ (cs:=cs) (es:=es) (a:=(0,ps)) h fun _=>k);have C:=h_ (show actX cs es (0,ps)=(0,(trE cs es).2.1+1,clcO cs ps)from Ab rfl);have AO:=h_ (zmB (cs:=cs) (es:=es) (a:=(0,ps)) m.trs S);have G:=h_ m;have HQ:=h_ hQ;have HT:=h_ U;have HF:=h_ hF;obtain⟨sv,vv,L,T,hV⟩:=m.box;obtain⟨al,nl,cl,rfl⟩:=O.lit12;have X:=h_ (zgK sv (.slice al nl cl) cs ps w T.1 O m.trs.sch S U (by omega));obtain⟨ac,nc,cc,rfl⟩:=(show RdC w sv cs from T.1).lit12;obtain⟨c0,c1,c2,I,c4⟩:=L.cells;have v:=m.trs.seq;have r:=h_ L;obtain⟨A,y⟩:=nm_ ((trE cs es).2.1);rw[<-y]at C v r I;have q1:A+1<=9223372036854775807:=by omega
 have q2:-9223372036854775808<=A+1:=by omega
 clear m hQ U hF L T hV O S y;by_cases p:4096<=es.length
 .obtain⟨c,d,f⟩:=A1.o p;rw[Ab p]at z;have H:=h_ (Al c (Al d f));clear c d f p;go_enter func33,ntmps33;go_wp2_with fail;refine z.mono ?_;rintro e w1⟨rfl,rfl⟩;go_wp2;go_ret2;exact StO.no G.o (Ac _ _) H.1 H.2.1 H.2.2 rfl
 rw[Aa p]at z;have l:=h_ p;clear p;go_enter func33,ntmps33;go_wp2_with fail;refine z.mono ?_;rintro e w1⟨rfl,rfl⟩;go_wp2_with fail;refine X.mono ?_;rintro e w2⟨xv,rfl,n,V⟩;obtain⟨Z,nx,cx,rfl⟩:=n.rd.lit12;have b:=h_ V;have s:=h_ n.rd;have t:=r.later V;clear n V X c0 c1 c2 I c4;obtain⟨c0,c1,c2,I,c4⟩:=t.cells;obtain⟨E,M⟩:=nm_ (clcE cs ps);rw[<-M];have D:=h_ M;clear M t;by_cases J:E=0
 .subst J;obtain⟨c,d,f⟩:=A3.o l.o D.symm;rw[C.o]at c d f;have i:=AO.o;rw[C.o]at i;have u:=G.later b.o;have Y:=h_ ((zmM N g bv (.agg #[.int .i64 0,.int .i64 (A+1),.slice Z nx cx]) cs es (0,A+1,clcO cs ps) Q w2 u (fun j hj=>AE (HQ.o j hj) b.size) (by have:=l.o;omega) ⟨_,rfl,s.o⟩ i (HT.later b.o) (HF.later b.o)).mono fun e w' h=>(h.from b.o).as c d f);clear c d f i u s;go_wp2_with fail;refine Y.mono ?_;rintro e w3⟨x,bn,rfl,n,hw,hO,hp⟩;obtain⟨Z,nx,cx,rfl⟩:=n.lit13;have HH:=h_ (Al n (Al hw (Al hO hp)));clear n hw hO hp Y;go_wp2;go_ret2;exact⟨_,_,rfl,HH.o⟩
 have q:((E:Int)!=0)=true:=by rw[Ao];omega
 have HN:=h_ J;clear J;go_wp2;go_ret2;obtain⟨c,d,f⟩:=A2.o l.o (by rw[<-D.o];exact HN.o);exact StO.no G.o b.o (by rw[c];exact D.symm) d f rfl
def zt0(N g:Nat)(bv:Value)(cs:List ColB)(es:List EntB)(qs:List PairB)(Q:Nat->Prop)(w:World)(f:Wr w N g bv cs es Q)(J:∀j,Q j->j<w.heap.size)(I:PSO qs)(k:Int)(M:k≠0)(L:Tabs w)(G:Frs w) :Calls prog 36 #[.pointer (some ⟨g,0,none⟩)] w (StO w N g bv cs Q (actE cs es (k,qs)) (actB cs es (k,qs)) (actS cs es (k,qs))):=by
 have t:=h_ (zi6 N g bv cs es Q w f);have D:=h_ (fun h=>zjO (cs:=cs) (es:=es) (a:=(k,qs)) h);have i:=fun h=>zpQ (cs:=cs) (es:=es) (a:=(k,qs)) h fun h=>absurd h M;have S:actX cs es (k,qs)=(1,(trE cs es).2.1,(trE cs es).2.2.1):=Aa M;have u:=zmB (cs:=cs) (es:=es) (a:=(k,qs)) f.trs I;have U:=h_ f;obtain⟨sv,vv,E,Y,z⟩:=f.box;obtain⟨V,Z,X,rfl⟩:=z.rd.lit12;rw[S]at i u;have l:∀j,Q j->j<w.drew.heap.size:=J;have s:=fun h=>zmM N g bv (.agg #[.int .i64 1,.int .i64 (trE cs es).2.1,.slice V Z X]) cs es (1,(trE cs es).2.1,(trE cs es).2.2.1) Q w.drew f.drew l h ⟨_,rfl,z.rd.drew⟩ u (L.later (Ac _ _).drew) (G.later (Ac _ _).drew);have b:=h_ E;obtain⟨sq,c⟩:=nm_ ((trE cs es).2.1);obtain⟨vw,m⟩:=nm_ ((trE cs es).2.2.1);rw[<-c]at b;rw[<-c,<-m]at s i;have q0:=(b.later (Ac _ _).drew).cells;obtain⟨c0,c1,c2,c3,c4⟩:=b.cells;clear f J l L G E Y z I c m u;by_cases d:4096<=es.length
 .obtain⟨n,p,r⟩:=D.o d;rw[Ab d]at t;have y:=h_ (Al n (Al p r));clear n p r d i s;go_enter func36,ntmps36;go_wp2_with fail;refine t.mono ?_;rintro e w1⟨rfl,rfl⟩;go_wp2;go_ret2;exact StO.no U.o (Ac _ _) y.1 y.2.1 y.2.2 rfl
 rw[Aa d]at t;obtain⟨n,p,r⟩:=i d;have v:=h_ ((s (by omega)).mono fun e w' h=>(h.from (Ac w.heap.size w).drew).as n p r);have Q1:=h_ (fun wz(C:Lz w wz)=>Al C (Al (b.later C).cells.2.2.2.1 (b.later C).cells.2.2.2.2));clear n p r d i s D;go_enter func36,ntmps36;go_wp2_with fail;refine t.mono ?_;rintro e w1⟨rfl,rfl⟩;go_wp2_with fail;go_region_with (go_at_call 59;refine v.mono ?_;rintro e w3⟨x,bn,rfl,A,O,H,hp⟩)
 all_goals
  obtain⟨ax,nx,cx,rfl⟩:=A.lit13;have T:=h_ (Al A (Al O (Al H hp)));clear A O H hp;go_wp2;go_ret2;exact⟨_,_,rfl,T.o⟩
section
variable{w:World}{N g:Nat}{bv:Value}{cs:List ColB}{es:List EntB}{Q:Nat->Prop}
def zwJ(d:Wr w N g bv cs es Q):Calls prog 46 #[.pointer (some ⟨g,0,none⟩)] w fun e w'=>e=.returned (.int .i64 (trE cs es).2.1)/\w=w':=by
 obtain⟨m,n,c,_⟩:=d.box;obtain⟨h,i,j,f,k⟩:=c.cells;obtain⟨l,b⟩:=nm_ ((trE cs es).2.1);rw[<-b]at f ⊢;clear d c b;go_enter func46,ntmps46;go_wp2;go_ret;exact⟨rfl,rfl⟩
def zt1(c:Wr w N g bv cs es Q):Calls prog 49 #[.pointer (some ⟨g,0,none⟩)] w fun e w'=>e=.returned (.int .i64 (es.length:Int))/\w=w':=by
 obtain⟨k,l,b,_⟩:=c.box;obtain⟨f,h,d,i,j⟩:=b.cells;obtain⟨m,hm⟩:=nm_ es.length;rw[<-hm]at d ⊢;clear c b hm;go_enter func49,ntmps49;go_wp2;go_ret;exact⟨rfl,rfl⟩
def zpT(b:Wr w N g bv cs es Q):Calls prog 29 #[.pointer (some ⟨g,0,none⟩)] w (RetB w (trE cs es).1):=by
 obtain⟨z,A,f,_⟩:=b.box;obtain⟨m,n,p,r,s⟩:=f.cells;have c:=h_ (zlZ bv (trE cs es).1 w b.rd (by have:=b.trs.small;omega));obtain⟨l,y,t,rfl⟩:=b.own.lit13;obtain⟨L,h⟩:=nm_ ((trE cs es).1);rw[<-h]at c ⊢;clear b f h;go_enter func29,ntmps29;go_wp2_with fail;refine c.mono ?_;rintro e C⟨v,rfl,d,i⟩;obtain⟨k,x,u,rfl⟩:=d.lit13;have j:=h_ (Al d i);clear d i c;go_wp2;go_ret;exact⟨_,rfl,j.o⟩
def zsZ(hW:Wr w N g bv cs es Q):Calls prog 48 #[.pointer (some ⟨g,0,none⟩)] w fun e w'=>∃v,e=.returned v/\zI5 w' w.heap.size v (trE cs es).2.2.1/\Lz w w':=by
 obtain⟨sv,vv,hB,hS,hV⟩:=hW.box;obtain⟨c0,c1,c2,c3,c4⟩:=hB.cells;have u:=hW.trs.set;have E:=u.few;have d:∀k,k<(trE cs es).2.2.1.length->((trE cs es).2.2.1.getD k default).1.length<=8:=fun k hk=>by
  have hm:(trE cs es).2.2.1.getD k default∈(trE cs es).2.2.1:=by simp[List.getD,hk]
  obtain⟨g1,g2,_⟩:=zaQ (u.all _ hm).1;have:=((zlB (colsL cs)).1 g1).1.2;unfold colsL at this;rw[Ad]at this;omega
 have A:=hV.rd;obtain⟨qs,ah⟩:=nm_ ((trE cs es).2.2.1);rw[<-ah]at d A E ⊢;have aB:=h_ d;obtain⟨us,M,ak,O⟩:=id A;have aJ:us.length=qs.length:=by rw[M,Ad]
 have CP:=h_ (zkR vv us w ak O (by omega));have HU:=h_ (Al M O);obtain⟨av,nv,cv,rfl⟩:=A.lit12;clear hW hB hS hV u ah d M ak O A;go_enter func48,ntmps48;go_wp2_with fail;refine CP.mono ?_;rintro e w3⟨T,rfl,ho,hb⟩;have f:=h_ (show OwnP w3 w.heap.size T qs from⟨us,HU.1,ho,fun t ht=>⟨(HU.2 t ht).later hb l_,fun g hg=>(HU.2 t ht).offNew (ho.lt hg).1⟩⟩);have ax:=h_ hb;obtain⟨n,hn⟩:=nm_ qs.length;have G:=(f.rd (by omega)).len;rw[<-hn]at G E;have y:=h_ hn;obtain⟨a4,n4,k4,rfl⟩:=(f.rd (by rw[<-hn];omega)).lit12;obtain⟨T,m⟩:=nm_ (.slice a4 n4 k4:Value);rw[<-m]at f G ⊢;clear ho hb CP HU aJ hn m c0 c1 c2 c3 c4;go_wp2;go_loopw [16] (fun i wr=>∃k:Nat,k<=n/\i=.int .i64 k/\Hid (OwnP wr w.heap.size T qs)/\Hid (Lz w wr)/\Hid (∀j,j<k->OwnAt wr w.heap.size T qs j)) (fun i _=>n-(intOf i).toNat)
 case atStart=>exact⟨0,by omega,rfl,f,ax,h_ (fun j hj=>absurd hj (by omega))⟩
 clear f;obtain⟨k,hk,rfl,X,HB,J⟩:=hrel;by_cases aH:k<n
 .have k1:k<qs.length:=by rw[<-y.o];exact aH
  obtain⟨b,o,rv,hi,c0,c1,re,a0⟩:=(X.rd (by rw[<-y.o];omega)).get k1;obtain⟨g,cap,m,aZ,a3,d⟩:=X.row (by omega) (by rw[<-y.o];omega);have D:∀q,adr T q=⟨g,q,none⟩:=fun q=>by rw[m,zaF,A5]
  have af:T.ownBlock=some g:=by rw[m];rfl
  obtain⟨aG,C⟩:=d k k1;have ae:=(hi wr).symm.trans (aG wr);simp only[Result.ok.injEq,Value.pointer.injEq,Option.some.injEq,Addr.mk.injEq,and_true]at ae;obtain⟨rfl,rfl⟩:=ae;obtain⟨ao,nn,ad,rfl⟩:=re.lit;have ai:=aB.o k k1;obtain⟨p,hp⟩:=nm_ (qs.getD k default);rw[<-hp]at c1 re C ai;have aa:=h_ hp;rcases p with⟨r,x⟩;dsimp only at c1 re C ai;have U:=h_ (new1 wr (.cells #[.slice ao nn ad,.int .i64 x] 69));have I:=bT HB U.2.2;have CC:=h_ (zlV _ r _ (re.later U.2.2 l_) (by omega));have Z:=h_ (X.later U.2.2 l_);have ab:=h_ C;have Y:=h_ af;have a6:=U.1;have a8:=HB.size;have a7:=I.size;have H:=h_ D;clear hp k1 hi d re C X m D af;go_wp2_with fail;refine CC.mono ?_;rintro e w5⟨v5,rfl,l,z⟩;obtain⟨s,n5,h,rfl⟩:=(l.rd (by omega)).lit;have f:=h_ (Z.later z l_);have V:=h_ (I.trans (z.mono (by omega)));obtain⟨⟨x5,aF⟩,a1,aj⟩:=ab.o w5 f.o;obtain⟨ty,L⟩:∃c,w5.heap[b]?=some (.cells c 69 (0,0)):=by
   obtain⟨ts,_,hG,_⟩:=f.o;exact hG.own_type Y.o
  have aA:=h_ (aj _ (l.rd (by omega)) (l.offB (by omega)));have ay:=h_ (V.setCell (p:=⟨b,k*2,none⟩) (by show w.heap.size<=b;omega) (.slice s n5 h));have ag:OwnE (w5.setCell ⟨b,k*2,none⟩ (.slice s n5 h)) w.heap.size (.slice s n5 h) r :=
   OwnG.stay (l.lower (by omega)) (S:=fun q=>q=b) ((Only.refl (fun q=>q=b) w5).setCell (p:=⟨b,k*2,none⟩) rfl _) fun q hq e=>by
    subst e;exact OwnG.notOf l L (by decide) hq
  have az:=h_ (show ∀j,j<k+1->OwnAt (w5.setCell ⟨b,k*2,none⟩ (.slice s n5 h)) w.heap.size T qs j from fun j hj=>by
   by_cases e:j=k
   .subst e
    exact⟨.slice s n5 h,by rw[H.o];exact zhB aF,by rw[<-aa.o];exact ag⟩
   .have h9:=(((J.o j (by omega)).later U.2.2).later z)
    exact h9.set (H.o _) (by omega) L _)
  clear l z ab aj Z CC I U c0 c1 f V H aa J L ag Y;go_wp2;go_roundw
  case rel=>exact⟨k+1,by omega,by go_num,aA,ay,az⟩
  simp[intOf];omega
 obtain rfl:k=n:=by omega
 go_wp2;go_ret;exact⟨_,rfl,⟨X.o,fun j hj=>J.o j (by rw[y.o];exact hj)⟩,HB.o⟩
end
section
variable(w:World)
end
/- -/
def OpN(w:World)(b:Bs)(e:Ending)(w':World):Prop :=
 ∃v,e=.returned (.tuple #[v,.int .i64 ((trD b).2.2.2.1:Nat),.int .i64 ((trD b).2.2.2.2:Nat)])/\Lz w w' /\
  (((trD b).2.2.2.2≠0/\v=.pointer none)\/((trD b).2.2.2.2=0/\∃g bv,v=.pointer (some ⟨g,0,none⟩)/\Wr w' w.heap.size g bv (trD b).1 (trD b).2.1 fun j=>j<w.heap.size))
def zsX {m:Value}{b:Bs}(C:TrS cs es)(x:(trE cs es).1=b)(p:Lz w w4)(h:Lz w4 f)(y:OffG colE w4 m (cs.map colV) fun j=>j<w.heap.size)(z:OffS w4 n (trE cs es).2.2.1 fun j=>j<w.heap.size)(s:Own f w4.heap.size bv b) :Wr (f.alloc (.cells #[m,bv,.int .i64 (es.length:Int),.int .i64 (trE cs es).2.1,n] 112)) w.heap.size f.heap.size bv cs es fun j=>j<w.heap.size:=by
 obtain⟨t,r⟩:=za5 f (.cells #[m,bv,.int .i64 (es.length:Int),.int .i64 (trE cs es).2.1,n] 112);have u:=p.size;have v:=h.size;have d:∀k,bv.ownBlock=some k->w4.heap.size<=k/\k<f.heap.size:=fun k l=>s.lt14 l;have c:∀j,j<w4.heap.size->¬(j<w.heap.size)->¬Ban (fun j=>j<w.heap.size) f.heap.size bv j:=fun j i A c=>by
  rcases c with c|c|c
  .exact A c
  .omega
  have:=(d j c).1;omega
 have l:=h.trans (r.mono v);refine⟨C,by omega,?_,fun e=>by have:=(d _ e).2;omega,fun j i=>⟨by omega,fun e=>by have:=(d _ e).1;omega⟩,m,n,t,?_,?_⟩
 .rw[x];exact(s.base u).later r l_
 .exact(y.more zbK c).keep zbK fun j i _=>l.block j i
 exact(z.more c).keep fun j i _=>l.block j i
def zpS(v:Value)(l:Bs)(w:World)(h:Rd w v l)(hl:l.length<=70368744177664)(hT:Tabs w)(hF:Frs w) :Calls prog 42 #[v] w (OpN w l):=by
 obtain⟨ao,cap,hv,_⟩:=id h.shape;subst hv;have DC:=h_ (ze5 (.slice ao l.length cap) l w h hT hF);have CL:=h_ (fun I(n:Lz w I)=>zlZ (.slice ao l.length cap) l I (h.later n l_) hl);have u:=h_ (zzI (b:=l));have HT:=h_ hT;have HF:=h_ hF;unfold OpN;unfold zmL at DC;obtain⟨cs,C⟩:=nm_ ((trD l).1);obtain⟨es,D⟩:=nm_ ((trD l).2.1);obtain⟨p,hp⟩:=nm_ ((trD l).2.2.2.1);obtain⟨x,hx⟩:=nm_ ((trD l).2.2.2.2);rw[<-C,<-D,<-hp,<-hx]at DC u;rw[<-C,<-D,<-hp,<-hx];clear h C D hp hx hT hF hl;go_enter func42,ntmps42;go_wp2_with fail;refine DC.mono ?_;rintro e s⟨tv,rfl,af,ab,i⟩;obtain⟨sv,ev,rfl,hR,hZ⟩:=af s (Only.refl _ _);have ad:OffG colE s sv (cs.map colV) fun j=>j<w.heap.size:=zh0 zbK (by
  obtain⟨s',e',he,az,_⟩:=af _ (ze0 s w.heap.size);cases he;exact az)
 obtain⟨Z,ne,ce,rfl⟩:=hZ.lit;obtain⟨J,M,L,rfl⟩:=hR.lit12;have aE:=hZ.len;have aF:=hZ.small;have N:=za5 s (.cells #[.slice J M L,.slice Z ne ce] 55);obtain⟨w3,G⟩:=nm_ (s.alloc (.cells #[.slice J M L,.slice Z ne ce] 55));obtain⟨g,hg⟩:=nm_ s.heap.size;rw[<-G,<-hg]at N;have y:=h_ (show Tbox w3 g (.slice J M L) (.slice Z ne ce)from N.1);have V:=h_ G;have HG:=h_ hg;have Y:Lz s w3:=by rw[hg]at N;exact N.2
 have c:=h_ (i.trans (Y.mono i.size));have S:=h_ (hR.later Y l_);have X:=h_ (hZ.later Y l_);have T:=h_ (ad.keep zbK (w':=w3) fun j hj _=>Y.block j hj);have O:=h_ ab;obtain⟨c0,c1⟩:=y.cells;clear DC i hR ad hZ ab N Y G hg;by_cases h0:x=0
 .subst h0;obtain⟨t1,t2,t3,t4,t5⟩:=u.o rfl;have ht:TrS cs es:=⟨O.o,t1,t4⟩;have VW:=h_ (ztC (.agg #[.slice J M L,.slice Z ne ce]) cs es w3 ⟨_,_,rfl,S.o,X.o⟩ O.o t1 (HT.later c.o) (HF.later c.o));unfold zFL at VW;have aG:=ht.seq;have HS:=h_ ht;have HL:=h_ t2;have aP:=h_ t4;obtain⟨sq,f⟩:=nm_ ((trE cs es).2.1);obtain⟨vw,E⟩:=nm_ ((trE cs es).2.2.1);rw[<-f,<-E,t4]at VW;have U:=h_ (Al f E);obtain⟨m,hm⟩:=nm_ es.length;rw[<-hm]at aE aF;have HM:=h_ hm;clear t1 t2 t3 t4 t5 ht aG f E hm u;go_wp2_with fail;rw[<-V.o,<-HG.o];go_wp2_with fail;refine VW.mono ?_;rintro e w4⟨vv,rfl,hv,i⟩;obtain⟨av,nv,cv,rfl⟩:=hv.rd.lit12;have d:=bT c i;have au:=h_ (y.later i);have aq:=h_ (T.keep zbK (w':=w4) fun j hj _=>i.block j hj);have ar:=h_ (hv.more (Q':=fun j=>j<w.heap.size) fun j _ h k=>h (AE k c.size))
  have an:=h_ (fun I(n:Lz w4 I)=>(CL.o I (d.trans (n.mono d.size))).mono
   (fun e w' h=>show(∃rv,e=.returned rv/\Own w' w4.heap.size rv l)/\Lz w4 w' from by
    obtain⟨rv,he,hn,i⟩:=h;exact⟨⟨rv,he,hn.base n.size⟩,n.trans (i.mono n.size)⟩))
  have Q1:=h_ (fun I(n:Lz w4 I)=>Al n (au.later n).cells);clear i hv VW CL c0 c1 y c S X T;go_wp2_with fail;have H:Lz w4 w4.drew:=(Ac _ _).drew;go_region_held3 (fun z=>Lz w4 z/\z.cell? ⟨g,0,none⟩=some (.slice J M L)/\z.cell? ⟨g,1,none⟩=some (.slice Z ne ce)) (first|(exact Q1.o _ H)|(exact Q1.o _ (H.alloc H.size _))|go_keep)
   ((first
    | (go_at_call 54;refine(an.o _ (by assumption)).mono ?_;rintro e w6⟨⟨bv,rfl,A⟩,m3⟩;obtain⟨a6,n6,c6,rfl⟩:=A.lit13;clear H;have H:=m3;clear m3)))
  have ap:=h_ A;have t:=h_ H;clear A H;go_wp2;go_ret3;have r:=zsX HS.o HL.o d.o t.o aq.o (by rw[<-U.2];exact ar.o) ap.o;rw[<-U.1,<-HM.o]at r;have aB:Lz w (w6.alloc (.cells #[.slice J M L,.slice a6 n6 c6,.int .i64 (m:Int),.int .i64 sq,.slice av nv cv] 112)):=(d.trans (t.mono d.size)).trans ((Ac _ _).alloc (by have:=d.size;have:=t.size;omega) _);exact⟨_,rfl,aB,_,rfl,_,r⟩
 have q:((x:Int)!=0)=true:=by rw[Ao];omega
 have HN:=h_ h0;clear h0;go_wp2;go_ret3;exact⟨_,rfl,by rw[<-V.o];exact c.o,.inl ⟨HN.o,rfl⟩⟩
/- -/
section
variable{cs:List ColB}{es:List EntB}{a:ActB}
def ze1(h:TrS cs es)(c:PSO a.2):(trE cs (actS cs es a)).1=(trE cs es).1++actB cs es a:=by
 unfold actS actB;by_cases b:actE cs es a=0
 .rw[Ab b,Ab b,(zpP h c b).2]
 rw[Aa b,Aa b,AV]
def zc4(cs:List ColB)(es:List EntB)(a:ActB):(actB cs es a).length<=1048591:=by
 unfold actB;split
 ·exact entW_small _ _
 simp
def TrS.back(h:TrS cs es):(trD (trE cs es).1).1=cs/\(trD (trE cs es).1).2.1=es/\(trD (trE cs es).1).2.2.2.1=(trE cs es).1.length/\(trD (trE cs es).1).2.2.2.2=0:=(zDN h.en h.ok).2
end
end
