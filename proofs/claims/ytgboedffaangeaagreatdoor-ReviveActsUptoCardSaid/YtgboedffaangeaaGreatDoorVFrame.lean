/- -/
import Derived.Test.YtgboedffaangeaaGreatDoorVColWr
import Derived.Deep.AppendLies
set_option maxHeartbeats 16000000
set_option linter.all false
set_option maxRecDepth 1000000
namespace Go.Proofs.YtgboedffaangeaaGreatDoor
open _root_.Go.Proofs.Tryz Go.RowKit
section
def RetW(w:World)(r:Bs×Nat)(e:Ending)(w':World):Prop :=
 ∃v,e=.returned (.tuple #[v,.int .i64 (r.2:Nat)])/\Own w' w.heap.size v r.1/\Lz w w'
def RetW.none{w:World}{r:Bs×Nat}{k:Nat}{y:Int}(h:r=([],k))(a:y=k):RetW w r (.returned (.tuple #[.slice none 0 0,.int .i64 y])) w:=by
 subst h;subst a;exact⟨_,rfl,zaE w _,Ac _ _⟩
variable {l:Bs} {y:Int} {k n:Nat} {v:Value} {w w':World}
def RetW.own{r:Bs×Nat}(h:r=(l,k))(b:Own w' w.heap.size v l)(a:Lz w w')(c:y=(k:Nat)) :RetW w r (.returned (.tuple #[v,.int .i64 y])) w':=by
 subst h c;exact⟨_,rfl,b,a⟩
def zgC(k:Int)(v:Value)(l:Bs)(w:World)(h:Rd w v l) :Calls prog 70 #[.int .i64 k,v] w (RetW w (wrF k l)):=by
 have D:=h.len;have H:=h.small;by_cases E:k<0
 .have a:wrF k l=([],10):=by unfold wrF;rw[Ab (.inl E)]
  have b:=h_ a;clear a;go_enter func70,ntmps70;go_wp2;go_ret2;exact RetW.none b.o rfl
 by_cases G:2<k
 .have a:wrF k l=([],10):=by unfold wrF;rw[Ab (.inr G)]
  have b:=h_ a;clear a;go_enter func70,ntmps70;go_wp2;go_ret2;exact RetW.none b.o rfl
 obtain⟨n,rfl⟩:=Bq (show 0<=k by omega);by_cases A:1048576<l.length
 .have a:wrF (n:Int) l=([],13):=by unfold wrF;rw[Aa (by omega),Ab A]
  have b:=h_ a;clear a;go_enter func70,ntmps70;go_wp2;go_ret2;exact RetW.none b.o rfl
 have a:wrF (n:Int) l=(frB n l,0):=by unfold wrF;rw[Aa (by omega),Aa A,Aw]
 have b:=h_ a;clear a;have m:=zaA l.length (by omega);have j:=zbG l;have s:=h_ (Al m j);clear m j;have C:cellB (UInt8.ofNat n)=.int .u8 (n:Int):=by unfold cellB;rw[UInt8.toNat_ofNat'];congr 1;omega
 have g:=zkS w w.heap.size l_ [UInt8.ofNat n] (by simp[maxLen]);rw[show(za7 [UInt8.ofNat n]).toArray=#[.int .u8 (n:Int)]from by simp[za7,C]]at g;clear C;have c:Lz w (w.alloc (.cells #[.int .u8 (n:Int)] 5 (0,0))):=(Ac _ _).alloc l_ _;go_enter func70,ntmps70;go_wp2_with fail;refine(zhE v l _ (h.alloc _)).mono ?_;rintro e M⟨J,rfl,p,d⟩;have i:=c.trans (d.mono c.size);have u:=g.later d l_;have y:=p.rd (by have:=s.o;omega);clear g c p d;go_wp2_with (with_reducible refine wpl_append w.heap.size _ [UInt8.ofNat n] ?hs u _ (encB l) ?hx y ?hn ?hbase w.heap.size w i l_ ?_)
 case hs=>rfl
 case hx=>rfl
 case hn=>have:=s.o;simp;omega
 case hbase=>exact i.size
 intro I N r f _;rw[show[UInt8.ofNat n]++encB l=frX n l from rfl]at r;have z:=r.rd (by have:=s.o;have:=zhU n l;omega);go_wp2_with fail;refine(zF1 I _ _ z).mono ?_;rintro e w4⟨L,rfl,x,t⟩;go_wp2;go_ret2;exact RetW.own b.o (x.base f.size) (f.trans (t.mono f.size)) rfl
def Rd.cut3(h:Rd w v l)(a c:Nat)(A:a<=c)(C:c<=l.length) :∃s,(∀u,(Instr.slice 34 v (some (.int .i64 (a:Int))) (some (.int .i64 (c:Int))) (some (.int .i64 (c:Int)))).run prog u=.ok s u)/\∀w',Rd w' v l->Rd w' s ((l.take c).drop a):=by
 obtain⟨⟨f,cap,rfl,p,k,e⟩,r,z⟩:=h;refine⟨.slice (if c=a then f else f.map (·.add a)) (c-a) (c-a),fun u=>?_,fun w' x=>?_⟩
 .rw[run_slice_lhm (P:=prog) u 34 f l.length cap underlying34 .i64 .i64 .i64 a c c (by omega) (by omega) (by omega) (by omega)];simp[go_sem,Result.andThen,sliced]
 have d:((l.take c).drop a).length=c-a:=by simp;omega
 have g:∀b o,0<c-a->f=some ⟨b,o,none⟩->(if c=a then f else f.map (·.add a))=some ⟨b,o+a,none⟩:=by
  intro b o hp j;subst j;rw[Aa (by omega)];simp[Addr.add]
 refine⟨⟨_,_,by rw[d],by rw[d];omega,?_,?_⟩,?_,by rw[d];omega⟩
 .intro y;by_cases m:c=a
  .omega
  rw[Aa m]at y;have:f=none:=by cases f<;>simp_all
  have:=k this;omega
 .intro hp;rw[d]at hp;obtain⟨b,o,j⟩:=e (by omega);exact⟨b,o+a,g b o hp j⟩
 intro i n;rw[d]at n;obtain⟨b,o,j⟩:=e (by omega);have m:=x.cells (a+i) (by omega);rw[g b o (by omega) j];subst j;have t:adr (.slice (some ⟨b,o+a,none⟩) (c-a) (c-a)) i=adr (.slice (some ⟨b,o,none⟩) l.length cap) (a+i):=by
  simp only[adr,Addr.add];split<;>split<;>simp_all<;>omega
 rw[t,m];congr 2;unfold at8;simp[List.getD];rw[Cv (by omega)]
def Rd.upto3(h:Rd w v l)(a:Nat)(j:a<=l.length) :∃b,(∀u,(Instr.slice 34 v none (some (.int .i64 (a:Int))) (some (.int .i64 (a:Int)))).run prog u=.ok b u)/\∀w',Rd w' v l->Rd w' b (l.take a):=by
 obtain⟨b,m,k⟩:=h.cut3 0 a (Bg _) j;refine⟨b,fun u=>?_,fun w' i=>by have:=k w' i;rwa[Bz]at this⟩;obtain⟨⟨d,cap,rfl,e,g,c⟩,f,n⟩:=h;rw[<-m u,run_slice_lhm (P:=prog) u 34 d l.length cap underlying34 .i64 .i64 .i64 ((0:Nat):Int) a a (by omega) (by omega) (by omega) (by omega),
  run_slice_hm (P:=prog) u 34 d l.length cap underlying34 .i64 .i64 a a (by omega) (by omega) (by omega)]
 simp
def zl4(v:Value)(l:Bs)(c:Nat)(w:World)(h:Rd w v l)(j:c+4<=l.length) :Calls prog 209 #[v,.int .i64 (c:Int)] w fun e w'=>∃f g,e=.returned (.tuple #[f,g])/\Rd w' f (l.take c)/\Rd w' g ((l.take (c+4)).drop c)/\Lz w w':=by
 have m:=h.small;obtain⟨f,k,a⟩:=h.upto3 c (by omega);obtain⟨g,d,b⟩:=h.cut3 c (c+4) (by omega) j;rw[show((c+4:Nat):Int)=(c:Int)+4 from by omega]at d;have i:=h_ (Al a b);clear a b;go_enter func209,ntmps209;go_wp2;go_region
 all_goals go_wp2
 all_goals go_ret2
 all_goals exact⟨_,_,rfl,i.1 _ h.drew,i.2 _ h.drew,(Ac _ _).drew⟩
def zaL{b:Func}{t u v x:Tmp}(h:b.results=#[.tmp t,.tmp u,.tmp v,.tmp x])(a:Array Value)(P:Program)(w:World) :(results b a).run P w=.ok (.tuple #[a.getD t undef,a.getD u undef,a.getD v undef,a.getD x undef]) w:=by
 simp[results,h]
def RetN(w:World)(r:Nat×Bs×Nat×Nat)(e:Ending)(w':World):Prop :=
 ∃v,e=.returned (.tuple #[.int .i64 (r.1:Nat),v,.int .i64 (r.2.2.1:Nat),.int .i64 (r.2.2.2:Nat)])/\Own w' w.heap.size v r.2.1/\Lz w w'
def RetN.none{w w':World}{r:Nat×Bs×Nat×Nat}{k:Nat}{y:Int}(h:r=(0,[],0,k))(a:Lz w w')(b:y=k):RetN w r (.returned (.tuple #[.int .i64 0,.slice none 0 0,.int .i64 0,.int .i64 y])) w':=by
 subst h;subst b;exact⟨_,rfl,zaE w' _,a⟩
def RetN.own{r:Nat×Bs×Nat×Nat} {e:Nat} {x z:Int}(h:r=(k,l,n,e))(b:Own w' w.heap.size v l)(a:Lz w w')(c:x=(k:Nat))(d:y=(n:Nat))(f:z=(e:Nat)) :RetN w r (.returned (.tuple #[.int .i64 x,v,.int .i64 y,.int .i64 z])) w':=by
 subst h c d f;exact⟨_,rfl,b,a⟩
def zy4(h:n+5<=l.length):Crc.good (l.take (n+5))↔(l.take (n+1+4)).drop (n+1)=Crc.put (Crc.sum (l.take (n+1))):=by
 unfold Crc.good;rw[Aq,A7 h,show n+5-4=n+1 from by omega,Cf,A7 (by omega)];exact⟨fun a=>a.2.symm,fun a=>⟨by omega,a.symm⟩⟩
def znJ(v:Value)(l:Bs)(w:World)(h:Rd w v l) :Calls prog 172 #[v] w (RetN w (nxF l)):=by
 have I:=h.len;have av:=h.small;by_cases z:l.length=0
 .have J:nxF l=(0,[],0,5):=by unfold nxF;rw[Ab z]
  have Q:=h_ J;rw[z]at I;clear J z;go_enter func172,ntmps172;go_wp2
  (try simp only[Exit.inBlock,Exit.then]);refine bodyPost_ret (zaL rfl _ _ _) rfl ?_
  exact RetN.none Q.o (Ac _ _) rfl
 have hp:0<l.length:=by omega
 have aj:∀u,(Instr.indexAt 34 v (.int .i64 0)).run prog u=.ok (.pointer (some (adr v 0))) u:=h.idx 0 hp;have ai:=h.cells 0 hp;have am:=zfB l 0;have an:=zdG l 0;have au:((l.length:Int)==0)=false:=by rw[Co];exact fun H=>by have:=beq_iff_eq.1 H;omega
 by_cases h2:2<at8 l 0
 .have J:nxF l=(0,[],0,10):=by unfold nxF;rw[Aa z,Ab h2]
  have Q:=h_ J;clear J z;go_enter func172,ntmps172;go_wp2
  (try simp only[Exit.inBlock,Exit.then]);refine bodyPost_ret (zaL rfl _ _ _) rfl ?_
  exact RetN.none Q.o (Ac _ _) rfl
 obtain⟨M,L,C⟩:=h.from 1 (by omega);have L:∀u,(Instr.slice 34 v (some (.int .i64 1)) none none).run prog u=.ok M u:=L;have x:=C w h;have k:nxF l=nxF l:=rfl
 conv at k=>rhs;unfold nxF
 rw[Aa z,Aa h2]at k;have X:=zp5 (b:=l.drop 1) (p:=(getB (l.drop 1) 1048576).1) (n:=(getB (l.drop 1) 1048576).2.1) (e:=(getB (l.drop 1) 1048576).2.2) rfl;rcases hg:getB (l.drop 1) 1048576 with⟨p,n,er⟩
 rw[hg]at k X;dsimp only at k X;obtain⟨ap,Y,aq,ar⟩:=X;rw[Ay]at Y;have HD:=h_ C;have O:=h_ hg;clear C hg z;by_cases U:er=0
 .subst U;rw[Aa (by simp)]at k;by_cases h5:l.length<n+5
  .rw[Ab h5]at k;have y:=h_ k;clear k;go_enter func172,ntmps172;go_wp2_with fail;refine(zbI M _ 1048576 (by omega) (by omega) w x).mono ?_;rintro e N⟨Z,rfl,j,f⟩;rw[O.o]at j ⊢;dsimp only at j ⊢;go_wp2
   (try simp only[Exit.inBlock,Exit.then]);refine bodyPost_ret (zaL rfl _ _ _) rfl ?_
   exact RetN.none y.o f rfl
  rw[Aa h5]at k;have r:=zy4 (l:=l) (n:=n) (by omega);have m:∀w',Lz w w'->w'.cell? (adr v 0)=some (.int .u8 (at8 l 0)):=fun w' S=>(h.later S l_).cells 0 hp;have t:=Crc.sum_lt (l.take (n+1));obtain⟨c,T⟩:=nm_ (n+1:Nat);have ao:(1:Int)+(n:Int)=(c:Int):=by omega
  rw[<-T]at r t;have HC:=h_ T;clear T;by_cases G:(l.take (c+4)).drop c=Crc.put (Crc.sum (l.take c))
  .rw[Ab (r.2 G)]at k;have y:=h_ k;have V:((l.take (c+4)).drop c==Crc.put (Crc.sum (l.take c)))=true:=beq_iff_eq.2 G;clear k r G;go_enter func172,ntmps172;go_wp2_with fail;refine(zbI M _ 1048576 (by omega) (by omega) w x).mono ?_;rintro e N⟨Z,rfl,j,f⟩;rw[O.o]at j ⊢;dsimp only at j ⊢;go_wp2_with fail;refine(zl4 v l c N (h.later f l_) (by omega)).mono ?_;rintro e w2⟨va,vb,rfl,s,i,g⟩;replace j:=j.later g l_;replace g:=f.trans (g.mono f.size);go_wp2_with fail;refine(zuI va _ w2 s).mono ?_;rintro e w3⟨rfl,a⟩;replace i:=i.later a l_;replace j:=j.later a l_;replace a:=g.trans (a.mono g.size);clear s;go_wp2_with fail;refine(zuJ _ t w3).mono ?_;rintro e w4⟨v4,rfl,D,d⟩;replace i:=i.later d l_;replace j:=j.later d l_;replace d:=a.trans (d.mono a.size);have E:=D.rd (by simp[Crc.put_length]);go_wp2_with fail;refine(bytes_Equal vb v4 _ _ w4 i E).mono ?_;rintro e w5⟨rfl,rfl⟩;have A:=m _ d;go_wp2
   (try simp only[Exit.inBlock,Exit.then]);refine bodyPost_ret (zaL rfl _ _ _) rfl ?_
   exact RetN.own y.o j d (by omega) (by have:=HC.o;omega) rfl
  rw[Aa (fun H=>G (r.1 H))]at k;have y:=h_ k;have V:((l.take (c+4)).drop c==Crc.put (Crc.sum (l.take c)))=false:=by rw[Co];exact fun H=>G (beq_iff_eq.1 H)
  clear k r G;go_enter func172,ntmps172;go_wp2_with fail;refine(zbI M _ 1048576 (by omega) (by omega) w x).mono ?_;rintro e N⟨Z,rfl,j,f⟩;rw[O.o]at j ⊢;dsimp only at j ⊢;go_wp2_with fail;refine(zl4 v l c N (h.later f l_) (by omega)).mono ?_;rintro e w2⟨va,vb,rfl,s,i,g⟩;replace j:=j.later g l_;replace g:=f.trans (g.mono f.size);go_wp2_with fail;refine(zuI va _ w2 s).mono ?_;rintro e w3⟨rfl,a⟩;replace i:=i.later a l_;replace j:=j.later a l_;replace a:=g.trans (a.mono g.size);clear s;go_wp2_with fail;refine(zuJ _ t w3).mono ?_;rintro e w4⟨v4,rfl,D,d⟩;replace i:=i.later d l_;replace j:=j.later d l_;replace d:=a.trans (d.mono a.size);have E:=D.rd (by simp[Crc.put_length]);go_wp2_with fail;refine(bytes_Equal vb v4 _ _ w4 i E).mono ?_;rintro e w5⟨rfl,rfl⟩;have A:=m _ d;go_wp2
  (try simp only[Exit.inBlock,Exit.then]);refine bodyPost_ret (zaL rfl _ _ _) rfl ?_
  exact RetN.none y.o d rfl
 rw[Ab U]at k;have y:=h_ k;have ak:((er:Int)!=0)=true:=by simp;omega
 clear k U;go_enter func172,ntmps172;go_wp2_with fail;refine(zbI M _ 1048576 (by omega) (by omega) w x).mono ?_;rintro e N⟨Z,rfl,j,f⟩;rw[O.o];dsimp only;go_wp2
 (try simp only[Exit.inBlock,Exit.then]);refine bodyPost_ret (zaL rfl _ _ _) rfl ?_
 exact RetN.none y.o f rfl
/- -/
def zg3(k:Int)(v:Value)(l:Bs)(w:World)(h:Rd w v l) :Calls prog 121 #[.int .i64 k,v] w (RetW w (wrF k l)):=by
 have D:=h.len;have H:=h.small;by_cases E:k<0
 .have a:wrF k l=([],10):=by unfold wrF;rw[Ab (.inl E)]
  have b:=h_ a;clear a;go_enter func121,ntmps121;go_wp2;go_ret2;exact RetW.none b.o rfl
 by_cases G:2<k
 .have a:wrF k l=([],10):=by unfold wrF;rw[Ab (.inr G)]
  have b:=h_ a;clear a;go_enter func121,ntmps121;go_wp2;go_ret2;exact RetW.none b.o rfl
 obtain⟨n,rfl⟩:=Bq (show 0<=k by omega);by_cases A:1048576<l.length
 .have a:wrF (n:Int) l=([],13):=by unfold wrF;rw[Aa (by omega),Ab A]
  have b:=h_ a;clear a;go_enter func121,ntmps121;go_wp2;go_ret2;exact RetW.none b.o rfl
 have a:wrF (n:Int) l=(frB n l,0):=by unfold wrF;rw[Aa (by omega),Aa A,Aw]
 have b:=h_ a;clear a;have m:=zaA l.length (by omega);have j:=zbG l;have s:=h_ (Al m j);clear m j;have C:cellB (UInt8.ofNat n)=.int .u8 (n:Int):=by unfold cellB;rw[UInt8.toNat_ofNat'];congr 1;omega
 have g:=zkS w w.heap.size l_ [UInt8.ofNat n] (by simp[maxLen]);rw[show(za7 [UInt8.ofNat n]).toArray=#[.int .u8 (n:Int)]from by simp[za7,C]]at g;clear C;have c:Lz w (w.alloc (.cells #[.int .u8 (n:Int)] 5 (0,0))):=(Ac _ _).alloc l_ _;go_enter func121,ntmps121;go_wp2_with fail;refine(zkH v l _ (h.alloc _)).mono ?_;rintro e M⟨J,rfl,p,d⟩;have i:=c.trans (d.mono c.size);have u:=g.later d l_;have y:=p.rd (by have:=s.o;omega);clear g c p d;go_wp2_with (with_reducible refine wpl_append w.heap.size _ [UInt8.ofNat n] ?hs u _ (encB l) ?hx y ?hn ?hbase w.heap.size w i l_ ?_)
 case hs=>rfl
 case hx=>rfl
 case hn=>have:=s.o;simp;omega
 case hbase=>exact i.size
 intro I N r f _;rw[show[UInt8.ofNat n]++encB l=frX n l from rfl]at r;have z:=r.rd (by have:=s.o;have:=zhU n l;omega);go_wp2_with fail;refine(zE0 I _ _ z).mono ?_;rintro e w4⟨L,rfl,x,t⟩;go_wp2;go_ret2;exact RetW.own b.o (x.base f.size) (f.trans (t.mono f.size)) rfl
def zn4(v:Value)(l:Bs)(w:World)(h:Rd w v l) :Calls prog 90 #[v] w (RetN w (nxF l)):=by
 have z:=h.len;have ah:=h.small;by_cases k:l.length=0
 .have A:nxF l=(0,[],0,5):=by unfold nxF;rw[Ab k]
  have H:=h_ A;rw[k]at z;clear A k;go_enter func90,ntmps90;go_wp2
  (try simp only[Exit.inBlock,Exit.then]);refine bodyPost_ret (zaL rfl _ _ _) rfl ?_
  exact RetN.none H.o (Ac _ _) rfl
 have hp:0<l.length:=by omega
 have X:∀u,(Instr.indexAt 34 v (.int .i64 0)).run prog u=.ok (.pointer (some (adr v 0))) u:=h.idx 0 hp;have V:=h.cells 0 hp;have aa:=zfB l 0;have ab:=zdG l 0;have ag:((l.length:Int)==0)=false:=by rw[Co];exact fun hh=>by have:=beq_iff_eq.1 hh;omega
 by_cases T:2<at8 l 0
 .have A:nxF l=(0,[],0,10):=by unfold nxF;rw[Aa k,Ab T]
  have H:=h_ A;clear A k;go_enter func90,ntmps90;go_wp2
  (try simp only[Exit.inBlock,Exit.then]);refine bodyPost_ret (zaL rfl _ _ _) rfl ?_
  exact RetN.none H.o (Ac _ _) rfl
 obtain⟨D,C,r⟩:=h.from 1 (by omega);have C:∀u,(Instr.slice 34 v (some (.int .i64 1)) none none).run prog u=.ok D u:=C;have i:=r w h;have f:nxF l=nxF l:=rfl
 conv at f=>rhs;unfold nxF
 rw[Aa k,Aa T]at f;have L:=zp5 (b:=l.drop 1) (p:=(getB (l.drop 1) 1048576).1) (n:=(getB (l.drop 1) 1048576).2.1) (e:=(getB (l.drop 1) 1048576).2.2) rfl;rcases hg:getB (l.drop 1) 1048576 with⟨p,n,S⟩
 rw[hg]at f L;dsimp only at f L;obtain⟨ad,M,ae,af⟩:=L;rw[Ay]at M;have HD:=h_ r;have E:=h_ hg;clear r hg k;by_cases J:S=0
 .subst J;rw[Aa (by simp)]at f;by_cases U:l.length<n+5
  .rw[Ab U]at f;have j:=h_ f;clear f;go_enter func90,ntmps90;go_wp2_with fail;refine(zbT D _ 1048576 (by omega) (by omega) w i).mono ?_;rintro e s⟨Q,rfl,d,a⟩;rw[E.o]at d ⊢;dsimp only at d ⊢;go_wp2
   (try simp only[Exit.inBlock,Exit.then]);refine bodyPost_ret (zaL rfl _ _ _) rfl ?_
   exact RetN.none j.o a rfl
  rw[Aa U]at f;obtain⟨Z,O,y⟩:=h.upto (n+5) (by omega);rw[show((n+5:Nat):Int)=(n:Int)+5 from by omega]at O;have g:∀w',Lz w w'->w'.cell? (adr v 0)=some (.int .u8 (at8 l 0)):=fun w' I=>(h.later I l_).cells 0 hp;have x:=h_ y;clear y;by_cases t:Crc.good (l.take (n+5))
  .rw[Ab t]at f;have d:zkV (l.take (n+5))=(l.take (n+5-4),true):=(by unfold zkV;rw[Ab t,Aq,A7 (by omega),Cf,A7 (by omega)]);have j:=h_ f;have G:=h_ d;clear f t d;go_enter func90,ntmps90;go_wp2_with fail;refine(zbT D _ 1048576 (by omega) (by omega) w i).mono ?_;rintro e s⟨Q,rfl,d,a⟩;rw[E.o]at d ⊢;dsimp only at d ⊢;go_wp2_with fail;refine(zvO Z _ s (x.o s (h.later a l_))).mono ?_;rintro e w2⟨v3,rfl,N,c⟩;rw[G.o];replace d:=d.later c l_;replace c:=a.trans (c.mono a.size);have m:=g _ c;go_wp2
   (try simp only[Exit.inBlock,Exit.then]);refine bodyPost_ret (zaL rfl _ _ _) rfl ?_
   exact RetN.own j.o d c (by omega) (by omega) rfl
  rw[Aa t]at f;have d:zkV (l.take (n+5))=([],false):=by unfold zkV;rw[Aa t]
  have j:=h_ f;have G:=h_ d;clear f t d;go_enter func90,ntmps90;go_wp2_with fail;refine(zbT D _ 1048576 (by omega) (by omega) w i).mono ?_;rintro e s⟨Q,rfl,d,a⟩;rw[E.o]at d ⊢;dsimp only at d ⊢;go_wp2_with fail;refine(zvO Z _ s (x.o s (h.later a l_))).mono ?_;rintro e w2⟨v3,rfl,N,c⟩;rw[G.o];replace d:=d.later c l_;replace c:=a.trans (c.mono a.size);have m:=g _ c;go_wp2
  (try simp only[Exit.inBlock,Exit.then]);refine bodyPost_ret (zaL rfl _ _ _) rfl ?_
  exact RetN.none j.o c rfl
 rw[Ab J]at f;have j:=h_ f;have Y:((S:Int)!=0)=true:=by simp;omega
 clear f J;go_enter func90,ntmps90;go_wp2_with fail;refine(zbT D _ 1048576 (by omega) (by omega) w i).mono ?_;rintro e s⟨Q,rfl,d,a⟩;rw[E.o];dsimp only;go_wp2
 (try simp only[Exit.inBlock,Exit.then]);refine bodyPost_ret (zaL rfl _ _ _) rfl ?_
 exact RetN.none j.o a rfl
end
section
open Go.Shelf
def zl6:∀(cs:List CellB)(i:Nat)(c:CellB),i<cs.length->(((cs.map cellVs).flatten.set (i*2) (.int .u64 (c.1:Int))).set (i*2+1) (.string c.2))=((cs.set i c).map cellVs).flatten
 | [],i,c,h=>by simp at h
 | x::r,0,c,h=>by simp[cellVs]
 | x::r,i+1,c,h=>by
  have ih:=zl6 r i c (by simpa using h);rw[Bc,AT,AT,Bt,Bt,<-ih];rw[show(i+1)*2=i*2+2 from by omega]
  rfl
section
variable{w w':World}{v:Value}{cs:List CellB}{base:Nat}
variable {cap g i:Nat}
def OwnE.setE(h:OwnE w base v cs)(e:i<cs.length)(l:v=.slice (some ⟨g,0,none⟩) cs.length cap) :∀c:CellB,OwnE ((w.setCell ⟨g,i*2,none⟩ (.int .u64 (c.1:Int))).setCell ⟨g,i*2+1,none⟩ (.string c.2)) base v (cs.set i c):=by
 obtain⟨⟨f,j⟩,s⟩:=h;rw[Ad]at j f;rcases j with⟨rfl,k⟩|⟨m,a,b,rfl,d,n,k,hm,p,r⟩
 .exact absurd e (by omega)
 simp only[Value.slice.injEq,Option.some.injEq,Addr.mk.injEq]at l;obtain⟨⟨rfl,_⟩,_,rfl⟩:=l;refine fun c=>⟨⟨?_,.inr ⟨m,a,(b.setIfInBounds (i*2) (.int .u64 (c.1:Int))).setIfInBounds (i*2+1) (.string c.2),by rw[Ad,Be],d,block_setCell (block_setCell n _) _,by rw[Ad,Be];exact k,hm,by simpa using p,?_⟩⟩,zl5 _,zoV _⟩
 .rw[<-zl6 cs i c e,Be,Be,Ad,Be];exact f
 rw[<-zl6 cs i c e,Ad,Be,CZ,CZ,List.take_set,List.take_set];rw[r]
def OwnE.atE(h:OwnE w base v cs)(A:i<cs.length)(E:cs.length<=140737488351232)(s:v=.slice (some ⟨g,0,none⟩) cs.length cap) :(∀u,(Instr.indexAt 67 v (.int .i64 (i:Int))).run prog u=.ok (.pointer (some ⟨g,i*2,none⟩)) u) /\w.cell? ⟨g,i*2,none⟩=some (.int .u64 ((cs.getD i default).1:Int))/\w.cell? ⟨g,i*2+1,none⟩=some (.string (cs.getD i default).2) /\w.frozen? ⟨g,i*2,none⟩=false/\w.frozen? ⟨g,i*2+1,none⟩=false /\(∀u,(w.setCell ⟨g,i*2,none⟩ u).cell? ⟨g,i*2+1,none⟩=some (.string (cs.getD i default).2)/\(w.setCell ⟨g,i*2,none⟩ u).frozen? ⟨g,i*2+1,none⟩=false):=by
 have p:=h.rd E;have m:i<(cs.map cellVs).length:=by simpa using A
 have t:=RdG.idx p zd5 i m;have r:=fun j u=>RdG.cells p i m j u;rw[getD_map cellVs cs i A default]at r;have d:=r 0 _ rfl;have b:=r 1 _ rfl;have e:∀k,adr v k=⟨g,k,none⟩:=fun k=>by rw[s,zaF,A5]
 rw[e]at t d b;have D:zeR.n=2:=rfl;rw[D]at t d b;have C:∃a z,w.heap[g]?=some (.cells a z (0,0)):=by
  obtain⟨⟨_,y⟩,_⟩:=h;rw[Ad]at y;rcases y with⟨l,_⟩|⟨G,x,a,l,_,f,_⟩
  .rw[s]at l;cases l
  rw[s]at l;cases l;exact⟨a,_,f⟩
 obtain⟨a,z,f⟩:=C;refine⟨t,d,b,At _ _ _ _ _ f,At _ _ _ _ _ f,fun u=>⟨?_,At _ _ _ _ _ (block_setCell f _)⟩⟩;have c:w.cell? ⟨g,i*2+1,none⟩=some (.string (cs.getD i default).2):=b;rw[Ag _ _ _ _ _ _ f]at c;rw[Ag _ _ _ _ _ _ (block_setCell f _),CU,Aa (by omega)];exact c
end
def zC0:(prog.info? 65).map (fun i=>(i.zero,i.size,i.bytes))=some (some (.agg #[.int .u64 0,.string ⟨#[]⟩]),2,24):=by kernel_rfl
def znK:∀n:Nat,((List.replicate n ((0,⟨#[]⟩):CellB)).map cellVs).flatten=(List.range (n*2)).map (fun i=>(#[Value.int .u64 0,.string ⟨#[]⟩]:Array Value)[i%2]!)
 | 0=>rfl
 | n+1=>by
  rw[C3,AT,Bt,znK n,show(n+1)*2=n*2+1+1 from by omega,Ci,AT,Ci,AT,A6,AT,A6];show Value.int .u64 0::Value.string ⟨#[]⟩::_=_;congr 1;congr 1;refine BI fun i _=>?_;simp only[Function.comp];rw[show(Nat.succ (Nat.succ i))%2=i%2 from by omega]
def zxY(n:Nat)(j:n<=1024)(u:World):(Instr.makeSlice 67 (.int .i64 (n:Int)) (.int .i64 (n:Int))).run prog u = .ok (.slice (some ⟨u.heap.size,0,none⟩) n n) (u.alloc (.cells (List.replicate n (cellVs (0,⟨#[]⟩))).flatten.toArray 65)):=by
 obtain⟨e,d,a,b,c⟩:=info_parts zC0;have h:=run_make (P:=prog) u 67 65 e (.agg #[.int .u64 0,.string ⟨#[]⟩]) underlying67 d a .i64 .i64 (n:Int) (n:Int) (by omega) (Int.le_refl _) (by rw[c];omega) (by omega);rw[h,b,Aw,<-CD,znK];congr 3;simp[madeCells,Value.cells];apply Array.ext
 .simp
 intro i f g;simp
def zB5(w:World)(base n:Nat)(a:base<=w.heap.size)(b:n<=1024) :OwnE (w.alloc (.cells (List.replicate n (cellVs (0,⟨#[]⟩))).flatten.toArray 65)) base (.slice (some ⟨w.heap.size,0,none⟩) n n) (List.replicate n (0,⟨#[]⟩)):=by
 rw[<-CD];have:=zdS zeR w base a ((List.replicate n ((0,⟨#[]⟩):CellB)).map cellVs) (zl5 _) (zoV _) (by rw[Ad,BN];omega);rw[Ad,BN]at this;exact this
def zC9{α:Type}(L:List α)(n k:Nat)(x z:α)(a:L.length=k)(b:k<n):(L++List.replicate (n-k) z).set k x=(L++[x])++List.replicate (n-(k+1)) z:=by
 rw[List.set_append_right _ _ (by omega),show n-k=(n-(k+1))+1 from by omega,C3,a,BT,Bw,An];rfl
def zpM(v:Value)(ps:List PairB)(k:Nat)(w:World)(Y:RdP w v ps)(hw:∀p∈ps,k<p.1.length)(hn:ps.length<=1024) :Calls prog 163 #[v,.int .i64 (k:Int)] w fun e w'=>∃u,e=.returned u/\OwnE w' w.heap.size u (colB k ps)/\Lz w w':=by
 have ac:=Y.len;obtain⟨n,C⟩:=nm_ ps.length;rw[<-C]at ac hn;have ad:=zxY n hn;have HN:=h_ C;have HP:=h_ Y;have HW:=h_ hw;have c:=h_ (zB5 w w.heap.size n l_ hn);have G:=h_ (show Lz w (w.alloc (.cells (List.replicate n (cellVs (0,⟨#[]⟩))).flatten.toArray 65))from(Ac _ _).alloc l_ _);clear Y hw C;go_enter func163,ntmps163;go_wp2;generalize w.alloc (.cells (List.replicate n (cellVs (0,⟨#[]⟩))).flatten.toArray 65)=w0 at *;obtain⟨g,hg⟩:=nm_ w.heap.size;rw[<-hg]at c ⊢;have T:=h_ hg;obtain⟨v5,D⟩:=nm_ (Value.slice (some ⟨g,0,none⟩) n n);rw[<-D]at c ⊢;have H:=h_ D;clear D hg ad;go_loopw [13] (fun i wr=>∃j:Nat,j<=n/\i=.int .i64 j/\Hid (Lz w wr)/\Hid (OwnE wr g v5 (colB k (ps.take j)++List.replicate (n-j) (0,⟨#[]⟩)))) (fun i _=>n-(intOf i).toNat)
 case atStart=>exact⟨0,by omega,rfl,G,h_ (by rw[AU];exact c.o)⟩
 clear G c;obtain⟨j,hj,rfl,E,O⟩:=hrel;by_cases M:j<n
 .have d1:decide ((j:Int)<(n:Int))=true:=Ah (by omega);have z:j<ps.length:=by rw[<-HN.o];exact M
  have f:ps.getD j default∈ps:=by
   have e:ps.getD j default=ps[j]:=(by simp[List.getD,z]);rw[e];exact AM _
  have N:=HW.o _ f;obtain⟨b,o,rv,al,c0,c1,d,J⟩:=HP.get z;obtain⟨ao,nn,cap,rfl⟩:=d.lit;have az:=(E.cell (p:=⟨b,o,none⟩) J).trans c0;have Z:=(E.cell (p:=⟨b,o+1,none⟩) J).trans c1;obtain⟨x,hx⟩:=nm_ ((ps.getD j default).2);rw[<-hx]at Z;obtain⟨b2,o2,ab,a,_⟩:=d.get N;obtain⟨Q,I⟩:=nm_ (wr.alloc (.cells #[.slice ao nn cap,.int .i64 x] 69));have r:Lz wr Q:=by rw[I];exact(Ac _ _).alloc l_ _
  have l:=bT E r;obtain⟨e0,e1⟩:=a Q (d.later l.o l_);have m:=O.later r l_;have A:(colB k (ps.take j)++List.replicate (n-j) ((0,⟨#[]⟩):CellB)).length=n:=by rw[Ae,zbR,Aq,BN];omega
  obtain⟨i0,f0,f1,f2,f3,V⟩:=m.atE (i:=j) (by omega) (by omega) (g:=g) (cap:=n) (by rw[A];exact H.o);have h:=m.setE (i:=j) (by omega) (g:=g) (cap:=n) (by rw[A];exact H.o);have L:(colB k (ps.take j)).length=j:=by rw[zbR,Aq];omega
  have s:=zs8 (k:=k) z;rcases hcg:(ps.getD j default).1.getD k default with⟨y,t⟩
  rw[hcg]at e0 e1 s;dsimp only at e0 e1;have X:=(V (.int .u64 (y:Int))).1;have ay:=(V (.int .u64 (y:Int))).2;have U:=h_ (show OwnE ((Q.setCell ⟨g,j*2,none⟩ (.int .u64 (y:Int))).setCell ⟨g,j*2+1,none⟩ (.string t)) g v5 (colB k (ps.take (j+1))++List.replicate (n-(j+1)) (0,⟨#[]⟩))from by
   have:=h (y,t);rw[zC9 _ n j (y,t) _ L M]at this;rw[s];exact this)
  have S:=h_ (show Lz w ((Q.setCell ⟨g,j*2,none⟩ (.int .u64 (y:Int))).setCell ⟨g,j*2+1,none⟩ (.string t))from
   (l.setCell (p:=⟨g,j*2,none⟩) (by rw[T.o];exact l_) _).setCell (p:=⟨g,j*2+1,none⟩) (by rw[T.o];exact l_) _)
  generalize hvA:((colB k (ps.take j)++List.replicate (n-j) ((0,⟨#[]⟩):CellB)).getD j default).1=vA at f0;generalize hvB:((colB k (ps.take j)++List.replicate (n-j) ((0,⟨#[]⟩):CellB)).getD j default).2=vB at f1 X;generalize j*2=j2 at *;subst I;clear L hx d a s hcg h m V A f N c0 c1 E O r l hvA hvB;go_wp2;go_roundw
  case rel=>exact⟨j+1,by omega,by go_num,S,U⟩
  simp[intOf];omega
 obtain rfl:j=n:=by omega
 have d1:decide ((j:Int)<(j:Int))=false:=Af (by omega);have HF:=h_ (show OwnE wr w.heap.size v5 (colB k ps)from by
  have:=O.o;rw[BT,List.replicate_zero,AV,Am (by rw[<-HN.o];exact l_)]at this;rw[<-T.o];exact this)
 clear O;go_wp2;go_ret;exact⟨_,rfl,HF.o,E.o⟩
def zDQ{kind:Int}{l:List Ce}(h:∀c∈l,Fit kind c):sumT l<=256*l.length:=by
 induction l with
 | nil=>simp[sumT]
 | cons c r ih=>
  have e:=ih (fun x d=>h x (by simp[d]));have b:=h c (by simp);have f:c.2.length<=256:=by
   by_cases a:kind=3\/kind=4
   .exact(b.text a).2.1
   rw[(b.num a).1];simp
  rw[sumT,Ap];omega
def zuV(sv av:Value)(cs:List ColB)(ps:List PairB)(w:World)(hR:RdC w sv cs)(hP:RdP w av ps)(hC:CS cs)(I:PSO ps)(hT:Tabs w) :Calls prog 114 #[sv,av] w fun e w'=>∃b,e=.returned (.tuple #[b,.int .i64 (chkZ cs ps:Nat)])/\Own w' w.heap.size b (if chkZ cs ps=0 then btWr (kindsL cs) (psL ps)else[])/\Lz w w':=by
 have z:=h_ (zdL sv av cs ps w hR hP hC I hT);have T:=zvK (cs:=cs) I;obtain⟨ck,aO⟩:=nm_ (chkZ cs ps);rw[<-aO]at z T ⊢;clear aO;by_cases h0:ck=0
 .subst h0;rw[Ab rfl];have X:=(T rfl).1;have ac:=X.few;have ap:=X.cols;have ba:=hP.len;have a9:=hR.len;obtain⟨n,hn⟩:=nm_ ps.length;obtain⟨K,hK⟩:=nm_ cs.length;rw[<-hn]at ba ac;rw[<-hK]at a9 ap;have HN:=h_ hn;have HK:=h_ hK;have am:=h_ X;have HR:=h_ hR;have HP:=h_ hP;have HC:=h_ hC;have aD:=h_ I;have HT:=h_ hT;clear hR hP hC I T X hn hK hT;go_enter func114,ntmps114;go_wp2_with fail;refine z.mono ?_;rintro e w1⟨rfl,h⟩;have y:=h_ h;clear h z;go_wp2_with fail;refine(zcW (n:Int) (by omega) (by omega) w1).mono ?_;rintro e w2⟨ov,rfl,hO,h⟩;rw[Aw]at hO;have ay:=bT y h;have A:=h_ (hO.base (base':=w.heap.size) y.size);have bm:=zaA n (by omega);clear h hO y;go_wp2;go_loopw [7,26] (fun b i wr=>∃k:Nat,k<=K/\i=.int .i64 k/\Hid (Lz w wr)/\Hid (Own wr w.heap.size b (encU n++zaJ ((kindsL cs).take k) 0 (zaT ps)))/\Hid ((encU n++zaJ ((kindsL cs).take k) 0 (zaT ps)).length<=10+k*272384)) (fun _ i _=>K-(intOf i).toNat)
  case atStart=>exact⟨0,by omega,rfl,ay,h_ (by rw[AU,zaJ,AV];exact A.o),h_ (by rw[AU,zaJ,AV];omega)⟩
  clear ay A;obtain⟨k,hk,rfl,Q,S,Z⟩:=hrel;by_cases aR:k<K
  .have O:k<cs.length:=(by rw[<-HK.o];exact aR);have d1:decide ((k:Int)<(K:Int))=true:=Ah (by omega);have Y:∀p∈ps,k<p.1.length:=fun p hp=>(by rw[am.wide p hp];exact O);have U:=zsH Y;obtain⟨f1,f2,f3⟩:=am.col O;have ar:=HR.later Q.o l_;obtain⟨b,o,M,L,_⟩:=ar.get O;obtain⟨e0,e1⟩:=L _ ar;rcases hcg:cs.getD k default with⟨nm,kd⟩
   rw[hcg]at e0 e1 f1 f2 f3;dsimp only at e0 e1 f1 f2 f3;have aL:wrE kd (cesL (colB k ps))=0:=by
    unfold wrE;rw[Aa (by omega)];refine zw6 (fun c hc=>?_);rw[U]at hc;exact f2 c hc
   have ae:10*(colB k ps).length+sumT (cesL (colB k ps))<=1000000:=by
    have h1:sumT (cesL (colB k ps))<=256*(cesL (colB k ps)).length:=by
     rw[U];exact zDQ f2
    rw[za8]at h1;rw[zbR]at h1 ⊢;have:=am.few;omega
   have ab:=zwD aD.o Y;obtain⟨a,g⟩:=nm_ (wr.alloc (.cells #[.string nm,.int .i64 kd] 62));have m:Lz wr a:=(by rw[g];exact(Ac _ _).alloc l_ _);have d:=bT Q m;have D:=h_ (S.later m l_);have s:a.heap[wr.heap.size]?=some (.cells #[.string nm,.int .i64 kd] 62 (0,0)):=(by rw[g];exact AB _ _);obtain⟨b7,r⟩:=nm_ wr.heap.size;have au:b7<a.heap.size:=(by rw[r];exact(Aj.1 s).1);rw[<-r]at s;have CO:=h_ (fun wz(hz:Lz a wz)=>show Calls prog 163 #[av,.int .i64 (k:Int)] wz fun e w'=>(∃u,e=.returned u/\RdE w' u (colB k ps))/\Lz a w'/\w'.cell? ⟨b7,1,none⟩=some (.int .i64 kd)from by
    refine(zpM av ps k wz (HP.later (d.trans (hz.mono d.size)) l_) Y (by rw[<-HN.o];exact ac)).mono ?_;rintro e w'⟨u,he,hu,h⟩;have J:=hz.trans (h.mono hz.size);refine⟨⟨u,he,hu.rd (by rw[zbR,<-HN.o];omega)⟩,J,?_⟩;rw[Ag _ _ _ _ _ _ ((J.block b7 au).trans s)];rfl)
   have CW:=h_ (fun wz u(hz:Lz a wz)(hu:RdE wz u (colB k ps))=>show Calls prog 162 #[.int .i64 kd,u] wz fun e w'=>(∃b,e=.returned (.tuple #[b,.int .i64 0])/\Own w' a.heap.size b (wrC kd (btCol k (zaT ps))))/\Lz a w'/\w'.cell? ⟨b7,1,none⟩=some (.int .i64 kd)from by
    refine(zs5 kd u (colB k ps) wz hu ab (HT.later (d.trans (hz.mono d.size))) (fun _=>ae)).mono ?_;rintro e w'⟨b,he,hO,h⟩;rw[aL]at he hO;rw[Ab rfl,U]at hO;have J:=hz.trans (h.mono hz.size);refine⟨⟨b,he,hO.base hz.size⟩,J,?_⟩;rw[Ag _ _ _ _ _ _ ((J.block b7 au).trans s)];rfl)
   have aS:a.cell? ⟨b7,1,none⟩=some (.int .i64 kd):=(by rw[Ag _ _ _ _ _ _ s];rfl);have aj:=h_ f3;have aQ:(kindsL cs).take (k+1)=(kindsL cs).take k++[kd]:=by
    have a8:k<(kindsL cs).length:=(by unfold kindsL;rw[Ad];exact O);rw[zaH a8 0];unfold kindsL;simp[List.getD,O]at hcg ⊢;rw[hcg]
   have ad:((kindsL cs).take k).length=k:=(by rw[Aq];unfold kindsL;rw[Ad];omega);have aB:=h_ aQ;have aA:=h_ ad;have E:=h_ g;have aF:=h_ r;clear U f1 f2 f3 hcg aL ae Y L ar aQ ad ab g m s au r Q S;go_wp2;rw[<-E.o]
   try rw[<-aF.o]
   have m0:Lz a a.drew:=(Ac _ _).drew;have m1:a.drew.cell? ⟨b7,1,none⟩=some (.int .i64 kd):=aS;go_region_held3 (fun u=>Lz a u/\u.cell? ⟨b7,1,none⟩=some (.int .i64 kd)) (first|(exact⟨m0,m1⟩)|go_keep)
    ((first
     | (go_at_call 163;refine(CO.o _ (by first|exact(Ac _ _).drew|assumption)).mono ?_;rintro e w8⟨⟨cv,rfl,a7⟩,m3,m4⟩;clear m0 m1;have m0:=m3;have m1:=m4;clear m3 m4)
     | (go_at_call 162;refine(CW.o _ _ (by assumption) (by assumption)).mono ?_;rintro e w9⟨⟨bv,rfl,aM⟩,m3,m4⟩;clear m0 m1;have m0:=m3;have m1:=m4;clear m3 m4)))
   have l:=bT d m0;have C:=h_ (D.later m0 l_);have f:=h_ (aM.rd (by have:=aj.o;omega));have bs:=h_ d.size;clear m0 m1 aM a7 CO CW D d aS E aF e0 e1 M;go_wp2_with (with_reducible refine wpl_append w.heap.size _ _ ?hsO C.o _ _ ?hxO f.o ?hnO l.o.size w.heap.size w l.o l_ ?_)
   case hsO=>rfl
   case hxO=>rfl
   case hnO=>have:=Z.o;have:=aj.o;omega
   intro v5 w5 H G aq;have ai:=h_ G;have al:=h_ (show Own w5 w.heap.size v5 (encU n++zaJ ((kindsL cs).take (k+1)) 0 (zaT ps))from by rw[aB.o,zd6,aA.o,A5,<-An];exact H);have ak:=h_ (show(encU n++zaJ ((kindsL cs).take (k+1)) 0 (zaT ps)).length<=10+(k+1)*272384 from by
    have h1:=Z.o;have h2:=aj.o;rw[aB.o,zd6,aA.o,A5,<-An,Ae];omega)
   clear H G aq l C f;go_wp2;go_roundw
   case rel=>exact⟨k+1,by omega,by go_num,ai,al,ak⟩
   simp[intOf];omega
  obtain rfl:k=K:=by omega
  have d1:decide ((k:Int)<(k:Int))=false:=Af (by omega);have t:(kindsL cs).take k=kindsL cs:=Am (by unfold kindsL;rw[Ad,<-HK.o];exact l_);have A:=h_ (show Own wr w.heap.size u7 ((encU n++zaJ (kindsL cs) 0 (zaT ps))++btWs ((ps.map fun p=>p.2).take 0))from by rw[AU,btWs,AV];have:=S.o;rw[t]at this;exact this);have aZ:=h_ (show(encU n++zaJ (kindsL cs) 0 (zaT ps)).length<=2500000 from by have:=Z.o;rw[t]at this;omega);clear t S Z aR;go_wp2;go_loopw [7,46] (fun b i wr=>∃j:Nat,j<=n/\i=.int .i64 j/\Hid (Lz w wr)/\Hid (Own wr w.heap.size b ((encU n++zaJ (kindsL cs) 0 (zaT ps))++btWs ((ps.map fun p=>p.2).take j)))/\Hid ((btWs ((ps.map fun p=>p.2).take j)).length<=10*j)) (fun _ i _=>n-(intOf i).toNat)
  case atStart=>exact⟨0,by omega,rfl,Q,A,h_ (by rw[AU];simp[btWs])⟩
  clear Q A;obtain⟨j,hj,rfl,Q,S,Z⟩:=hrel;by_cases aP:j<n
  .have V:j<ps.length:=(by rw[<-HN.o];exact aP);have d2:decide ((j:Int)<(n:Int))=true:=Ah (by omega);have hr:=HP.later Q.o l_;obtain⟨b,o,rv,M,a6,aN,aT,_⟩:=hr.get V;obtain⟨ao,nn,cap,rfl⟩:=aT.lit;have N:=(aD.get V).2;have aw:(ps.map fun p=>p.2).take (j+1)=(ps.map fun p=>p.2).take j++[(ps.getD j default).2]:=by
    rw[zaH (by rw[Ad];exact V) 0];simp[List.getD,V]
   obtain⟨x,hx⟩:=nm_ ((ps.getD j default).2);rw[<-hx]at aN N aw;have aE:=h_ aw;have az:=h_ N;have bz:=zaA (zig x) (zeS x N.1 N.2);obtain⟨a,g⟩:=nm_ (wr.alloc (.cells #[.slice ao nn cap,.int .i64 x] 69));have m:Lz wr a:=(by rw[g];exact(Ac _ _).alloc l_ _);have d:=bT Q m;have D:=h_ (S.later m l_);have E:=h_ g;clear hx aw hr aT N m Q S g;go_wp2_with fail;rw[<-E.o];refine(zv3 x az.1 az.2 a).mono ?_;rintro e w3⟨yv,rfl,aI,h⟩;have l:=bT d h;have C:=h_ (D.later h l_);have f:=h_ (aI.rd (by omega));clear h aI d D a6 aN M E;go_wp2_with (with_reducible refine wpl_append w.heap.size _ _ ?hsW C.o _ _ ?hxW f.o ?hnW l.o.size w.heap.size w l.o l_ ?_)
   case hsW=>rfl
   case hxW=>rfl
   case hnW=>rw[Ae];have:=Z.o;have:=aZ.o;omega
   intro v5 w5 H G aq;have ai:=h_ G;have al:=h_ (show Own w5 w.heap.size v5 ((encU n++zaJ (kindsL cs) 0 (zaT ps))++btWs ((ps.map fun p=>p.2).take (j+1)))from by rw[aE.o,zf9,<-An];exact H);have ak:=h_ (show(btWs ((ps.map fun p=>p.2).take (j+1))).length<=10*(j+1)from by rw[aE.o,zf9,Ae];have:=Z.o;omega);clear H G aq l C f;go_wp2;go_roundw
   case rel=>exact⟨j+1,by omega,by go_num,ai,al,ak⟩
   simp[intOf];omega
  obtain rfl:j=n:=by omega
  have d2:decide ((j:Int)<(j:Int))=false:=Af (by omega);have t:(ps.map fun p=>p.2).take j=ps.map fun p=>p.2:=Am (by rw[Ad,<-HN.o];exact l_);have a0:=h_ (show Own wr w.heap.size u7 (btWr (kindsL cs) (psL ps))from by
   have:=S.o;rw[t]at this;unfold btWr;rw[zdQ,zeD,zAW,<-HN.o,<-An];exact this)
  clear t S Z aP;go_wp2;go_ret2;exact⟨_,rfl,a0.o,Q.o⟩
 rw[Aa h0];have hq:((ck:Int)!=0)=true:=by rw[Ao];omega
 clear hR hP hC I T h0 hT;go_enter func114,ntmps114;go_wp2_with fail;refine z.mono ?_;rintro e w1⟨rfl,h⟩;have y:=h_ h;clear h z;go_wp2;go_ret2;exact⟨_,rfl,zaE _ _,y.o⟩
/- -/
def zlE(sv ev:Value)(cs:List ColB)(x:EntB)(w:World)(hR:RdC w sv cs)(hE:RdN w ev x)(hC:CS cs)(hX:EnO x)(hT:Tabs w)(hF:Frs w) :Calls prog 79 #[sv,ev] w (RetW w (entW cs x)):=by
 obtain⟨kind,seq,ps⟩:=x;obtain⟨pv,rfl,hP⟩:=hE;dsimp only at hP;obtain⟨ao,no,co,rfl⟩:=hP.lit12;have EC:=h_ (fun c(b:Lz w c)=>zlF sv _ cs (kind,seq,ps) c (hR.later b l_) ⟨_,rfl,hP.later b l_⟩ hC hX (hT.later b));have H:entW cs (kind,seq,ps)=if entE cs (kind,seq,ps)≠0 then([],entE cs (kind,seq,ps))else wrF (2-kind) (entP cs (kind,seq,ps)):=rfl;have b:=zb8 (cs:=cs) (x:=(kind,seq,ps));obtain⟨N1,N2⟩:=za5 w (.cells #[.int .i64 kind,.int .i64 seq,.slice ao no co] 123);obtain⟨w0,J⟩:=nm_ (w.alloc (.cells #[.int .i64 kind,.int .i64 seq,.slice ao no co] 123));rw[<-J]at N1 N2;obtain⟨g,hg⟩:=nm_ w.heap.size;rw[<-hg]at N1;have t:=h_ (show Ebox w0 g kind seq (.slice ao no co)from N1);have p:=h_ N2;have S:=h_ J;have HG:=h_ hg;obtain⟨E,hE⟩:=nm_ (entE cs (kind,seq,ps));rw[<-hE]at EC H b;by_cases h0:E=0
 .subst h0;rw[Aa (by simp)]at H;obtain⟨_,hk,hs,I⟩:=b.1 rfl;dsimp only at hk hs I;have M:=zv0 hX.2.2 I;have X:=zFN cs ps;dsimp only at M;have Z:=h_ (fun c(b:Lz w c)=>zuV sv (.slice ao no co) cs ps c (hR.later b l_) (hP.later b l_) hC hX.2.2 (hT.later b));rw[I,Ab rfl]at Z;obtain⟨n,rfl⟩:=Bq hs.1;have hn:n<=281474976710656:=by omega
  have ai:=zaA n (by omega);have H:entW cs (kind,(n:Int),ps)=wrF (2-kind) (encU n++btWr (kindsL cs) (psL ps)):=H;obtain⟨L,hL⟩:=nm_ (btWr (kindsL cs) (psL ps));rw[<-hL]at M Z H X;have ad:=h_ X;have HW:=h_ H;rw[H];have r:=h_ (Al ai M);have HF:=h_ hF;clear hR hP hC hX hT hF b I H hL hE M X ai hs N1 N2 J hg;rcases hk with rfl|rfl
  .go_enter func79,ntmps79;go_wp2_with fail;rw[<-S.o,<-HG.o];refine(EC.o w0 p.o).mono ?_;rintro e w1⟨rfl,d⟩;have i:=bT p d;have l:=h_ (t.later d);obtain⟨c0,c1,c2⟩:=l.cells;clear d t;go_wp2_with fail;refine(Z.o w1 i.o).mono ?_;rintro e a⟨bv,rfl,m,d⟩;have j:=bT i d;have A:=l.later d;have G:=m.rd (by have:=r.2;omega);have u:=h_ (fun c(b:Lz a c)=>G.later b l_);clear c0 c1 c2;have C:=HF.later j.o;have Y:=fun c(b:Lz a c)=>(A.later b).cells;have qf:=fun c(b:Lz a c)=>C.later b;have Q:=h_ (fun c(b:Lz a c)=>Al b (Al (Y c b).1 (Al (Y c b).2.1 (qf c b).1)))
   have WU:=h_ (fun c(b:Lz a c)=>(zcW (n:Int) (by omega) (by omega) c).mono (fun e w'(h:RetB c (encU (n:Int).toNat) e w')=>show(∃s,e=.returned s/\Own w' a.heap.size s (encU n))/\Lz a w' from by
    obtain⟨s,U,m,d⟩:=h;rw[Aw]at m;exact⟨⟨s,U,m.base b.size⟩,b.trans (d.mono b.size)⟩))
   have FW:=h_ (fun k c v(b:Lz a c)(ho:Own c a.heap.size v (encU n++L))=>(zgC k v (encU n++L) c (ho.rd (by have:=r.o;rw[Ae];omega))).mono (fun e w' h=>show(∃y,e=.returned (.tuple #[y,.int .i64 ((wrF k (encU n++L)).2:Nat)])/\Own w' a.heap.size y (wrF k (encU n++L)).1)/\Lz a w' from by
    obtain⟨y,U,m,d⟩:=h;exact⟨⟨y,U,m.base b.size⟩,b.trans (d.mono b.size)⟩))
   have aF:IntKind.u64.wrap (n:Int)=(n:Int):=by
    have:IntKind.u64.wrap (n:Int)=(n:Int)%18446744073709551616:=(by simp[IntKind.wrap,IntKind.signed,IntKind.bits]);omega
   have f:Lz a a.drew:=(Ac _ _).drew;clear d m G A C Y qf l Z EC;go_wp2;go_region_held3 (fun z=>Lz a z/\z.cell? ⟨g,0,none⟩=some (.int .i64 0)/\z.cell? ⟨g,1,none⟩=some (.int .i64 (n:Int))/\z.cell? ⟨0,0,none⟩=some (.int .i64 2)) (first|(exact Q.o _ f)|go_keep)
    ((first
     | (go_at_call 95;refine(WU.o _ (by assumption)).mono ?_;rintro e w6⟨⟨s,rfl,T⟩,m3⟩;clear f;have f:=m3;clear m3)
     | (go_at_call 70;refine(FW.o _ _ _ (by assumption) (by assumption)).mono ?_;rintro e w8⟨⟨y,rfl,D⟩,m3⟩;clear f;have f:=m3;clear m3)
     | (refine zd8 a.heap.size s (encU n) bv L (by rfl) (by rfl) (by assumption) (by rfl) (u.o _ f) ad.o (by have:=r.o;omega) f.size a.heap.size a f l_ ?_;intro va wa aE m3 V;clear f V T;have f:=m3;clear m3)))
   have N:=bT j f;have O:=h_ (D.base (base':=w.heap.size) j.size);clear f D WU FW Q u;go_wp2;go_ret2;exact⟨_,rfl,O.o,N.o⟩
  go_enter func79,ntmps79;go_wp2_with fail;rw[<-S.o,<-HG.o];refine(EC.o w0 p.o).mono ?_;rintro e w1⟨rfl,d⟩;have i:=bT p d;have l:=h_ (t.later d);obtain⟨c0,c1,c2⟩:=l.cells;clear d t;go_wp2_with fail;refine(Z.o w1 i.o).mono ?_;rintro e a⟨bv,rfl,m,d⟩;have j:=bT i d;have A:=l.later d;have G:=m.rd (by have:=r.2;omega);have u:=h_ (fun c(b:Lz a c)=>G.later b l_);clear c0 c1 c2;have C:=HF.later j.o;have Y:=fun c(b:Lz a c)=>(A.later b).cells;have qf:=fun c(b:Lz a c)=>C.later b;have Q:=h_ (fun c(b:Lz a c)=>Al b (Al (Y c b).1 (Al (Y c b).2.1 (qf c b).2)));have WU:=h_ (fun c(b:Lz a c)=>(zcW (n:Int) (by omega) (by omega) c).mono (fun e w'(h:RetB c (encU (n:Int).toNat) e w')=>show(∃s,e=.returned s/\Own w' a.heap.size s (encU n))/\Lz a w' from by
   obtain⟨s,U,m,d⟩:=h;rw[Aw]at m;exact⟨⟨s,U,m.base b.size⟩,b.trans (d.mono b.size)⟩))
  have FW:=h_ (fun k c v(b:Lz a c)(ho:Own c a.heap.size v (encU n++L))=>(zgC k v (encU n++L) c (ho.rd (by have:=r.o;rw[Ae];omega))).mono (fun e w' h=>show(∃y,e=.returned (.tuple #[y,.int .i64 ((wrF k (encU n++L)).2:Nat)])/\Own w' a.heap.size y (wrF k (encU n++L)).1)/\Lz a w' from by
   obtain⟨y,U,m,d⟩:=h;exact⟨⟨y,U,m.base b.size⟩,b.trans (d.mono b.size)⟩))
  have aF:IntKind.u64.wrap (n:Int)=(n:Int):=by
   have:IntKind.u64.wrap (n:Int)=(n:Int)%18446744073709551616:=(by simp[IntKind.wrap,IntKind.signed,IntKind.bits]);omega
  have f:Lz a a.drew:=(Ac _ _).drew;clear d m G A C Y qf l Z EC;go_wp2;go_region_held3 (fun z=>Lz a z/\z.cell? ⟨g,0,none⟩=some (.int .i64 1)/\z.cell? ⟨g,1,none⟩=some (.int .i64 (n:Int))/\z.cell? ⟨0,1,none⟩=some (.int .i64 1)) (first|(exact Q.o _ f)|go_keep)
   ((first
    | (go_at_call 95;refine(WU.o _ (by assumption)).mono ?_;rintro e w6⟨⟨s,rfl,T⟩,m3⟩;clear f;have f:=m3;clear m3)
    | (go_at_call 70;refine(FW.o _ _ _ (by assumption) (by assumption)).mono ?_;rintro e w8⟨⟨y,rfl,D⟩,m3⟩;clear f;have f:=m3;clear m3)
    | (refine zd8 a.heap.size s (encU n) bv L (by rfl) (by rfl) (by assumption) (by rfl) (u.o _ f) ad.o (by have:=r.o;omega) f.size a.heap.size a f l_ ?_;intro va wa aE m3 V;clear f V T;have f:=m3;clear m3)))
  have N:=bT j f;have O:=h_ (D.base (base':=w.heap.size) j.size);clear f D WU FW Q u;go_wp2;go_ret2;exact⟨_,rfl,O.o,N.o⟩
 rw[Ab h0]at H;have q:((E:Int)!=0)=true:=by rw[Ao];omega
 have HW:=h_ H;clear hR hP hC hX hT hF b h0 H hE N1 N2 J hg;go_enter func79,ntmps79;go_wp2_with fail;rw[<-S.o,<-HG.o];refine(EC.o w0 p.o).mono ?_;rintro e w1⟨rfl,d⟩;have i:=bT p d;clear d t;go_wp2;go_ret2;rw[HW.o];exact⟨_,rfl,zaE _ _,i.o⟩
end
section
open Go.Shelf
variable {l:Bs} {kind s:Int} {cs:List CellB} {b base g k:Nat} {a v:Value} {w w':World}
def zc9 {a:Nat}{x y:Array Value}{T U:TypeId}{z f:Nat×Nat}(e:w.heap[a]?=some (.cells x T z))(c:w.heap[b]?=some (.cells y U f))(d:T≠U):a≠b:=by
 rintro rfl;rw[e]at c;injection c with c;injection c with _ h3 _;exact d h3
def OwnE.own_type {q:Nat}(h:OwnE w base v cs)(b:v.ownBlock=some q):∃a,w.heap[q]?=some (.cells a 65 (0,0)):=by
 rcases h.1.2 with⟨rfl,_⟩|⟨g,cap,a,rfl,_,c,_⟩
 .cases b
 simp only[Value.ownBlock]at b;injection b with b
 subst b;exact⟨a,c⟩
def ztX{E:Elt}{vs:List (List Value)}(h:OwnG E w base v vs):∃a c cap,v=.slice a c cap:=by
 rcases h.1.2 with⟨rfl,_⟩|⟨q,cap,b,rfl,_⟩
 .exact⟨_,_,_,rfl⟩
 exact⟨_,_,_,rfl⟩
structure Lays(w w':World)(base gP gs ga n j:Nat)(us:List TriB)(u:TriB)(c:CellB)(rv:Value):Prop where
 own:OwnM w' base gP (us.set j (rv,(u.2.1++[c],u.2.2)))
 set:w'.heap[gs]?=some (.cells #[.slice (some ⟨gP,0,none⟩) n n] 33 (0,0))
 at_:w'.heap[ga]?=some (.cells #[.int .i64 (((j+1)%n:Nat):Int)] 3 (0,0))
 only:Only (fun q=>q=ga\/q=gP\/u.1.ownBlock=some q) w w'
 place:rv.ownBlock=u.1.ownBlock\/∀q,rv.ownBlock=some q->w.heap.size<=q
def zsQ(base gP f b n j:Nat)(us:List TriB)(u:TriB)(x:Nat)(t:ByteArray)(w:World)(N:OwnM w base gP us)(hn:us.length=n)(Z:us[j]?=some u)(hl:u.2.1.length+1<=1024)(hs:w.heap[f]?=some (.cells #[.slice (some ⟨gP,0,none⟩) n n] 33 (0,0)))(ha:w.heap[b]?=some (.cells #[.int .i64 (j:Int)] 3 (0,0))) :Calls prog 258 #[.agg #[.int .u64 (x:Int),.string t],.pointer (some ⟨f,0,none⟩),.pointer (some ⟨b,0,none⟩)] w fun e w'=>e=.returned (.tuple #[])/\∃rv,Lays w w' base gP f b n j us u (x,t) rv:=by
 have ah:j<n:=by rw[<-hn];exact(AG.1 Z).1
 have ag:=N.few;rw[hn]at ag;have n1:f≠b:=zc9 hs ha (by decide);have n2:f≠gP:=zc9 hs N.blk (by decide);have n3:b≠gP:=zc9 ha N.blk (by decide);have aA:=N.lt;have ak:f<w.heap.size:=(Aj.1 hs).1;have a:b<w.heap.size:=(Aj.1 ha).1;obtain⟨W,Y⟩:=nm_ (w.alloc (.cells #[.int .u64 (x:Int),.string t] 65));have C:Lz w W:=by rw[Y];exact(Ac _ _).alloc l_ _
 have H:W.heap[w.heap.size]?=some (.cells #[.int .u64 (x:Int),.string t] 65 (0,0)):=by rw[Y];exact AB _ _
 have T:W.heap.size=w.heap.size+1:=by rw[Y,Az]
 have m:=N.later C;have J:W.heap[f]?=some (.cells #[.slice (some ⟨gP,0,none⟩) n n] 33 (0,0)):=(C.block f ak).trans hs;have G:W.heap[b]?=some (.cells #[.int .i64 (j:Int)] 3 (0,0)):=(C.block b a).trans ha;obtain⟨B,hB⟩:=nm_ w.heap.size;rw[<-hB]at H T;have b0:W.cell? ⟨B,0,none⟩=some (.int .u64 (x:Int)):=by rw[Ag _ _ _ _ _ _ H];rfl
 have b1:W.cell? ⟨B,1,none⟩=some (.string t):=by rw[Ag _ _ _ _ _ _ H];rfl
 have s0:W.cell? ⟨f,0,none⟩=some (.slice (some ⟨gP,0,none⟩) n n):=by rw[Ag _ _ _ _ _ _ J];rfl
 have a0:W.cell? ⟨b,0,none⟩=some (.int .i64 (j:Int)):=by rw[Ag _ _ _ _ _ _ G];rfl
 have ba:∀u9,(Instr.indexAt 33 (.slice (some ⟨gP,0,none⟩) n n) (.int .i64 (j:Int))).run prog u9=.ok (.pointer (some ⟨gP,2*j,none⟩)) u9:=by
  have:=N.idx (i:=j) (by rw[hn];exact ah);rw[hn]at this;exact this
 have bb:∀u9,(Builtin.len_ #[33] 3 #[.slice (some ⟨gP,0,none⟩) n n]).run prog u9=.ok (.int .i64 (n:Int)) u9:=by
  have:=N.len;rw[hn]at this;exact this
 obtain⟨k9,_,f9,_⟩:=m.cell Z;have O:Lz W (W.alloc (.cells #[.int .u64 (x:Int),.string t] 65)):=(Ac _ _).alloc l_ _;have V:(W.alloc (.cells #[.int .u64 (x:Int),.string t] 65)).cell? ⟨gP,2*j,none⟩=some u.1:=((m.later O).cell Z).1;have D:=m.rows j u Z;have M:=h_ (show OwnG zeR ((W.alloc (.cells #[.int .u64 (x:Int),.string t] 65)).drew) (gP+1) u.1 (u.2.1.map cellVs)from(D.alloc _).drew);obtain⟨rv,I⟩:=nm_ u.1;rw[<-I]at k9 V M;have E:=h_ I;have Q:=h_ (show ∀q,rv.ownBlock=some q->q≠gP/\q≠f/\q≠b from fun q U=>by
  obtain⟨aw,hc⟩:=OwnE.own_type D (by rw[<-I];exact U);exact⟨zc9 hc m.blk (by decide),zc9 hc J (by decide),zc9 hc G (by decide)⟩)
 have ao:=h_ (zcI W (x,t));have ac:=h_ (show gP+1<=W.heap.size from by have:=m.lt;omega);have aq:=h_ (show f<W.heap.size/\b<W.heap.size/\f≠b/\f≠gP/\b≠gP from⟨by omega,by omega,n1,n2,n3⟩);have ab:=h_ m;have ar:=h_ J;have ap:=h_ G;have v:=h_ C;have au:=h_ Y;have HB:=h_ hB;have a1:=h_ T;have s9:=s0;have a9:=a0;rw[Y]at s9 a9;have HJ:=h_ Z;have aZ:=h_ ah;clear N Z hs ha n1 n2 n3 aA ak a H m J G O D I C Y hB T;go_enter func258,ntmps258;go_wp2_with fail;rw[<-au.o];rw[<-HB.o];clear s9 a9;go_region_law (first
  | (refine zqD zd5 (gP+1) rv (cellVs (x,t)) ⟨W.heap.size,0,none⟩ (by rfl) (by rfl) M.o (by rfl) rfl (by intro z hz;simp[cellVs]at hz;rcases hz with rfl|rfl<;>rfl) ao.o (by simp;show _*24<=_;omega) (by simp;omega) (by show gP+1<=(W.alloc _).heap.size;rw[Az];have:=ac.o;omega) (gP+1) _ (Ac _ _) l_ ?_;intro v9 w9 q1 q2 q3 q4;obtain⟨l,s,d,aE⟩:=ztX q1;subst aE;have c9:w9.cell? ⟨gP,2*j,none⟩=some rv:=(Bi (q2.block gP (by omega))).trans V;have ax:w9.frozen? ⟨gP,2*j,none⟩=false:=(World.frozen?_of_block ((q2.block gP (by omega)).trans (AS W _ _ (by have:=ac.o;omega)))).trans f9;have Q1:=h_ q1;have y:=h_ q3;have Q4:=h_ q4;have Q2:=h_ q2;clear q1 q2 q3 q4))
 all_goals(
  have a:Lz W ((W.alloc (.cells #[.int .u64 (x:Int),.string t] 65)).drew):=((Ac _ _).alloc l_ _).drew;have k:w9.grownBy (w9.setCell ⟨gP,2*j,none⟩ (.slice l s d)) (some gP):=za0 (World.grownBy.refl _ _) _;obtain⟨m1,m2,m3,m4,m5⟩:=aq.o;have az:=ab.lt;have S:=(ab.later a).grow HJ.o (rv:=.slice l s d) (c:=(x,t)) (w':=w9) (by
   have:=Q1.o;show OwnG zeR w9 (gP+1) _ ((u.2.1++[(x,t)]).map cellVs);rw[AC];exact this) (by rw[<-E.o];exact y.o) (by rw[<-E.o];exact Q4.o) (by omega)
  have L:(w9.setCell ⟨gP,2*j,none⟩ (.slice l s d)).heap[f]?=some (.cells #[.slice (some ⟨gP,0,none⟩) n n] 33 (0,0)) :=
   (k.block f (by have:=y.size;have:=a.size;omega) (fun e=>by injection e with e;omega)).trans ((y.block f (by have:=a.size;omega) (fun e=>(Q.o f e.symm).2.1 rfl)).trans ((a.block f m1).trans ar.o))
  have A:(w9.setCell ⟨gP,2*j,none⟩ (.slice l s d)).heap[b]?=some (.cells #[.int .i64 (j:Int)] 3 (0,0)) :=
   (k.block b (by have:=y.size;have:=a.size;omega) (fun e=>by injection e with e;omega)).trans ((y.block b (by have:=a.size;omega) (fun e=>(Q.o b e.symm).2.2 rfl)).trans ((a.block b m2).trans ap.o))
  have p:Only (fun q=>q=gP\/u.1.ownBlock=some q) w (w9.setCell ⟨gP,2*j,none⟩ (.slice l s d)):=by
   have e1:=v.size;refine⟨k.os.trans (y.os.trans (a.os.trans v.os)),k.tape.trans (y.tape.trans (a.tape.trans v.tape)),k.output.trans (y.output.trans (a.output.trans v.output)),Ar e1 (Ar a.size (Ar y.size k.size)),fun q h1 X=>?_⟩;have aB:q≠gP:=fun e=>X (.inl e);have aC:some q≠rv.ownBlock:=fun e=>X (.inr (by rw[<-E.o];exact e.symm));exact(k.block q (by have:=y.size;have:=a.size;omega) (fun e=>by injection e with e;exact aB e)).trans ((y.block q (by have:=a.size;omega) aC).trans ((a.block q (by omega)).trans (v.block q h1)))
  generalize w9.setCell ⟨gP,2*j,none⟩ (.slice l s d)=WX at *;obtain⟨r,hr⟩:=nm_ ((j+1)%n);have aL:Int.tmod ((j:Int)+1) (n:Int)=(r:Int):=by
   rw[Int.tmod_eq_emod_of_nonneg (by omega),hr];rfl
  have bc:((n:Int)==0)=false:=by rw[As];omega
  have s7:WX.cell? ⟨f,0,none⟩=some (.slice (some ⟨gP,0,none⟩) n n):=by rw[Ag _ _ _ _ _ _ L];rfl
  have a7:WX.cell? ⟨b,0,none⟩=some (.int .i64 (j:Int)):=by rw[Ag _ _ _ _ _ _ A];rfl
  have af:WX.frozen? ⟨b,0,none⟩=false:=At _ _ _ _ _ A;have g:WX.grownBy (WX.setCell ⟨b,0,none⟩ (.int .i64 (r:Int))) (some b):=za0 (World.grownBy.refl _ _) _;have aa:=h_ (show Lays w (WX.setCell ⟨b,0,none⟩ (.int .i64 (r:Int))) base gP f b n j us u (x,t) (.slice l s d)from by
   refine⟨S.aside g (fun q U=>?_),?_,?_,?_,?_⟩
   .injection U with U
    subst U;refine⟨m5,fun z hz e=>?_⟩;obtain⟨i,hi⟩:=AW hz;obtain⟨aw,hc⟩:=OwnE.own_type (S.rows i z hi) e;exact zc9 hc A (by decide) rfl
   .exact(g.block f (Aj.1 L).1 (fun e=>by injection e with e;exact m3 e)).trans L
   .rw[block_setCell A _,<-hr];rfl
   .refine⟨g.os.trans p.os,g.tape.trans p.tape,g.output.trans p.output,Ar p.size g.size,fun q h1 X=>?_⟩
    exact(g.block q (by have:=p.size;omega) (fun e=>by injection e with e;exact X (.inl e))).trans (p.block q h1 (fun h3=>X (.inr h3)))
   .rcases Q4.o with h|h
    .exact .inl (by rw[<-E.o];exact h)
    .refine .inr (fun q U=>?_)
     have h1:=h q U;have X:=a.size;have h3:=v.size;omega)
  clear S L A p g hr k a az m1 m2 m3 m4 m5 Q1 Q2 y Q4 c9 ax k9 V f9 b0 b1 s0 a0;go_wp2;go_end0;exact⟨rfl,_,aa.o⟩)
def zuU(v:Value)(w:World)(c:∃a b cap,v=.slice a b cap) :Calls prog 244 #[v] w fun e w'=>e=.returned (.func (.func 258) #[] #[.pointer (some ⟨w.heap.size,0,none⟩),.pointer (some ⟨w.heap.size+1,0,none⟩)]) /\w'=(w.alloc (.cells #[v] 33)).alloc (.cells #[.int .i64 0] 3):=by
 obtain⟨a,b,cap,rfl⟩:∃a b cap,v=.slice a b cap:=c;go_enter func244,ntmps244;go_wp2;go_ret;exact⟨rfl,rfl⟩
def zrC(n:Nat)(j:n<=1024)(u:World):(Instr.makeSlice 33 (.int .u64 (n:Int)) (.int .u64 (n:Int))).run prog u = .ok (.slice (some ⟨u.heap.size,0,none⟩) n n) (u.alloc (.cells (List.replicate n (triV (.slice none 0 0,([],0)))).flatten.toArray 69)):=by
 obtain⟨e,d,a,b,c⟩:=info_parts zrK;have h:=run_make (P:=prog) u 33 69 e (.agg #[.slice none 0 0,.int .i64 0]) underlying33 d a .u64 .u64 (n:Int) (n:Int) (by omega) (Int.le_refl _) (by rw[c];omega) (by omega);rw[h,b,Aw,<-CD,zl7];congr 3;simp[madeCells,Value.cells];apply Array.ext
 .simp
 intro i f g;simp
/- -/
def OwnE.same9(h:OwnE w base v cs)(j:∀q,v.ownBlock=some q->w'.heap[q]?=w.heap[q]?):OwnE w' base v cs:=by
 obtain⟨⟨d,e⟩,f⟩:=h;refine⟨⟨d,?_⟩,f⟩;rcases e with⟨rfl,c⟩|⟨g,cap,a,rfl,b,i,c⟩
 .exact .inl ⟨rfl,c⟩
 exact .inr ⟨g,cap,a,rfl,b,(j g rfl).trans i,c⟩
def zE1 {most:Nat}:(rdU l k most).1<2^64:=by
 unfold rdU;split
 ·simp
 split
 ·simp
 rename_i h _;exact(zaY _ (Av h)).1
def zD8(w0:World)(g:Nat)(v:Value)(l:Bs)(R:List Bp×Nat×Nat)(e:Ending)(w':World):Prop :=
 Only (fun j=>j=g) w0 w'/\((R.2.2=0/\∃tv ps,e=.returned tv/\NewP w' w0.heap.size tv ps/\PSO ps/\psL ps=R.1/\Rdr w' g v l R.2.1) \/
  (R.2.2≠0/\e=.panicked [{ v:=zaU g R.2.2,recovered:=false}]/\zj7 w' g v l R.2.1 R.2.2))
def zhJ {a:World}{R:List Bp×Nat×Nat} {x:Nat}(c:Only (fun j=>j=g) a w')(d:R.2.1=k/\R.2.2=x)(e:x≠0)(b:zj7 w' g v l k x) :zD8 a g v l R (.panicked [{ v:=zaU g x,recovered:=false}]) w':=by
 obtain⟨rfl,rfl⟩:=d;exact⟨c,.inr ⟨e,rfl,b⟩⟩
def zJ7 {b:World}(a:Tabs w)(d:zcN<=g)(h:Only (fun j=>j=g) w b):Tabs b :=
 zgS a fun j c=>h.block j (AE c (zoL a)) (fun e=>by omega)
def zyJ(sv:Value)(cs:List ColB)(g:Nat)(v:Value)(l:Bs)(k0:Nat)(w:World)(hR:Rdr w g v l k0)(hC:CS cs)(hT:Tabs w)(hg:zcN<=g)(bz:∀wz,Only (fun j=>j=g) w wz->RdC wz sv cs) :Calls prog 216 #[.pointer (some ⟨g,0,none⟩),sv] w (zD8 w g v l (bat (ltE cs) (errS (colsL cs)) l (kindsL cs) k0)):=by
 have da:=hR.lt;have bp:=bz w (Only.refl _ _);have dT:=bp.len;have SC:=Ai (zb0 sv cs w bp hC hT);have cO:=Ai (fun wz(h:Only (fun j=>j=g) w wz)=>zJ7 hT hg h);obtain⟨E,hE⟩:=nm_ (errS (colsL cs));obtain⟨R,aH⟩:=nm_ (bat (ltE cs) (errS (colsL cs)) l (kindsL cs) k0);rw[<-aH];rw[<-hE]at SC aH;by_cases bq:E=0
 .subst bq;have bX:R=btRd (ltE cs) l (kindsL cs) k0:=by rw[aH];unfold bat;rw[Aa (by simp)]
  have bx:(rdU l k0 1024).1<=1024:=by
   unfold rdU;split
   ·omega
   split<;>dsimp only<;>omega
  have aX:=Ai (fun h=>bX.trans (zsL h));have aY:=Ai (fun(h:(rdU l k0 1024).2.2≠0)=>show R.2.1=(rdU l k0 1024).2.1/\R.2.2=(rdU l k0 1024).2.2 from by rw[bX];unfold btRd;rw[Ab h];exact⟨rfl,rfl⟩);have dK:cs.length<=8:=by have:=(zaO hE.symm).2.1;rw[za4]at this;exact this
  obtain⟨K,bV⟩:=nm_ cs.length;rw[<-bV]at dT dK;have cv:=Ai bV;have cN:=Ai bz;have ae:=Ai hR;have ab:=Ai da;have HG:=Ai hg;have cQ:=Ai (fun q(M:q<l.length)=>(⟨hR.rd.block M,hR.off q M⟩:_/\_));clear aH bX bV bz hR da hg bp hE hT;go_enter func216,ntmps216;go_wp2_with fail;refine SC.mono ?_;rintro e w1⟨rfl,hb⟩;have aR:=Ai (show Only (fun j=>j=g) w w1 from(Only.refl _ _).below hb (AK _));have bh:=Ai (ae.later hb (AK _));clear hb SC ae;go_wp2_with fail;refine(zc8 g v l k0 w1 bh.o 1024 (by decide)).mono ?_;intro e w2 U;rcases hr:rdU l k0 1024 with⟨n,k1,x1⟩;rw[hr]at U bx aX aY;dsimp only at U bx aX aY ⊢;by_cases bD:x1=0
  .subst bD;obtain⟨rfl,af,c6⟩:=U.ok rfl;have aZ:=Ai (aX.o rfl);have bO:=Ai (aR.grown af rfl);have cD:=Ai c6;have dV:=zrC n bx;have bP:=Ai (OwnM.made w2 w.heap.size n bO.size bx);have b1:Lz w2 (w2.alloc (.cells (List.replicate n (triV (.slice none 0 0,([],0)))).flatten.toArray 69)):=(Ac _ _).alloc (AK _) _;have cE:=Ai (cD.later b1 (AK _));have aU:=Ai (bO.below b1 (AK _));clear U af c6 hr aR bh aX aY b1;go_wp2_with fail;generalize w2.alloc (.cells (List.replicate n (triV (.slice none 0 0,([],0)))).flatten.toArray 69)=w3 at *;generalize w2.heap.size=gP at *;clear bO cD dV;refine(zuU (.slice (some ⟨gP,0,none⟩) n n) w3 ⟨_,_,_,rfl⟩).mono ?_;rintro e w4⟨rfl,dh⟩;obtain⟨N0,N1,N2,N3⟩:=new2 w3 (.cells #[.slice (some ⟨gP,0,none⟩) n n] 33) (.cells #[.int .i64 0] 3);rw[<-dh]at N0 N1 N2 N3;have V:=Ai (show w.heap.size<=gP from bP.lo);have bH:=Ai (aU.below N3 (AK _));have cF:=Ai (cE.later N3 (AK _));have bQ:=Ai (bP.later N3);have dY:=aU.size;obtain⟨gs,Z⟩:=nm_ w3.heap.size;obtain⟨ga,b4⟩:=nm_ (w3.heap.size+1);rw[<-b4];rw[<-Z];rw[<-Z]at N1;rw[<-b4]at N2;have bL:=Ai (show w.heap.size<=gs/\w.heap.size<=ga from by omega);obtain⟨v7,bC⟩:=nm_ (Value.slice (some ⟨gP,0,none⟩) n n);rw[<-bC]at N1 ⊢;have aG:=Ai bC;have cJ:=Ai N1;have cl:=Ai N2;have bN:=Ai (show(List.replicate n ((.slice none 0 0,([],0)):TriB)).length=n by simp)
   have cR:=Ai (show ∀t∈List.replicate n ((.slice none 0 0,([],0)):TriB),t.2.1.length<=0 from fun t ht=>by
     have:=BO ht;subst this;simp)
   have aQ:=Ai (show([]:List (List Ce)).length=0/\zi3 (List.replicate n ((.slice none 0 0,([],0)):TriB)) []/\R=zcO (ltE cs) l n [] ((kindsL cs).drop 0) k1 from⟨rfl,fun i t H=>by
     have:=BO (AZ H);subst this;exact⟨rfl,rfl,CES.nil9⟩,by rw[Bz];exact aZ.o⟩)
   have eg:∀u9,(Builtin.len_ #[33] 3 #[v7]).run prog u9=.ok (.int .i64 (n:Int)) u9:=by
    have:=bQ.len;rw[bN.o,<-bC]at this;exact this
   clear N0 N1 N2 N3 dh dY Z b4 bC aZ bP cE aU;go_wp2;go_loopw [28] (fun i wr=> ∃(k kk:Nat)(ts:List TriB)(m:List (List Ce)),k<=K/\i=.int .i64 k/\Hid (Rdr wr g v l kk)/\Hid (Only (fun j=>j=g) w wr)/\Hid (OwnM wr w.heap.size gP ts)/\Hid (ts.length=n)/\Hid (∀t∈ts,t.2.1.length<=k) /\
     Hid (wr.heap[gs]? = some (.cells #[v7] 33 (0,0)))/\Hid (wr.heap[ga]? = some (.cells #[.int .i64 0] 3 (0,0))) /\
     Hid (m.length=k/\zi3 ts m/\R=zcO (ltE cs) l n m ((kindsL cs).drop k) kk)) (fun i _=>K-(intOf i).toNat)
   case atStart=>exact⟨0,k1,_,[],by omega,rfl,cF,bH,bQ,bN,cR,cJ,cl,aQ⟩
   clear cF bH bQ bN cR cJ cl aQ;obtain⟨k,kk,ts,m,hk,rfl,O,d,G,HL,bR,HS,HA,HJ⟩:=hrel;by_cases df:k<K
   .have d1:decide ((k:Int)<(K:Int))=true:=Ah (by omega);have bw:k<cs.length:=(by rw[<-cv.o];exact df);have b9:=cN.o wr d.o;obtain⟨b,o,a8,J,_⟩:=b9.get bw;obtain⟨e0,e1⟩:=J _ b9;rcases hcg:cs.getD k default with⟨nm,kd⟩
    rw[hcg]at e0 e1;dsimp only at e0 e1;have du:=Ai hcg;obtain⟨W5,bZ⟩:=nm_ (wr.alloc (.cells #[.string nm,.int .i64 kd] 62));have aI:Lz wr W5:=(by rw[bZ];exact(Ac _ _).alloc (AK _) _);have cG:=Ai (O.later aI (AK _));have aV:=Ai (d.below aI (AK _));have X:=Ai (G.later aI);have bk:=Ai ((aI.block gs (Aj.1 HS.o).1).trans HS.o);have bf:=Ai ((aI.block ga (Aj.1 HA.o).1).trans HA.o);have dz:=Ai O.le;have TK:=Ai (zuK kd (n:Int) g v l kk W5 cG.o (cO.o _ aV.o) HG.o);have cS:=Ai bZ;clear b9 J hcg aI bZ O d G HS HA;go_wp2_with fail;rw[<-cS.o];refine TK.mono ?_;rintro e w6⟨D,a7⟩;have T:=Ai (aV.trans9 D (fun j _ h=>h));have aS:=Ai (X.aside (r:=some g) ⟨D.os,D.tape,D.output,D.size,fun j A I=>D.block j A (fun e=>I (by rw[e]))⟩ (fun q M=>by
      injection M with M
      subst M;refine⟨by have:=ab.o;have:=V.o;omega,fun t ht e=> ?_⟩;obtain⟨i,H⟩:=AW ht;have:=(OwnE.lt (X.rows i t H) e).1;have:=ab.o;have:=V.o;omega))
    have cK:=Ai ((D.block gs (Aj.1 bk.o).1 (fun e=>by have:=bL.o;have:=ab.o;omega)).trans bk.o);have cm:=Ai ((D.block ga (Aj.1 bf.o).1 (fun e=>by have:=bL.o;have:=ab.o;omega)).trans bf.o);have dd:(kindsL cs).drop k=kd::(kindsL cs).drop (k+1):=by
     have dS:k<(kindsL cs).length:=(by unfold kindsL;rw[Ad];exact bw);have he:(kindsL cs)[k]?=some kd:=by
      have:=du.o;simp[List.getD,bw]at this;unfold kindsL;rw[List.getElem?_map,AJ bw,this];rfl
     rw[Bf dS,(AG.1 he).2]
    obtain⟨bu,aa,Y⟩:=HJ.o;rw[dd]at Y;by_cases aw:(rdK l kd n kk).2.2=0
    .obtain⟨_,tv,aM,rfl,bt,c2,b3,bY⟩|⟨h9,_,_⟩:=a7
     case inr=>exact absurd aw h9
     have ae:=Ai (show R=zcO (ltE cs) l n (m++[(rdK l kd n kk).1]) ((kindsL cs).drop (k+1)) (rdK l kd n kk).2.1 from by rw[Y,zm4 aw]);obtain⟨_,_,_,_,de,_⟩:=zoU dz.o aw;have b7:aM.length=n:=by
      have:(cesL aM).length=n:=(by rw[b3];omega);rw[za8]at this;exact this
     have bg:=Ai b7;have dv:=Ai b3;obtain⟨k2,dc⟩:=nm_ ((rdK l kd n kk).2.1);rw[<-dc]at bY ae;have aW:=Ai bY;obtain⟨bl,b2⟩:=nm_ W5.heap.size;rw[<-b2]at bt;have ad:=Ai bt;have cq:=Ai c2;have bi:=Ai aa;have dw:=Ai bu;have dt:=Ai (show ∀t∈ts, ∀q,t.1.ownBlock=some q->q<bl from fun t ht q e=>by
       obtain⟨i,H⟩:=AW ht;have:=(OwnE.lt (X.rows i t H) e).2;omega)
     have cu:=Ai (show gP<bl/\gs<bl/\ga<bl from by
       rw[b2];exact⟨X.lt,(Aj.1 bk.o).1,(Aj.1 bf.o).1⟩)
     have dU:=(bt.rd (by omega)).len;rw[b7]at dU;clear D bt c2 b3 bY dc b2 aa bu Y dd de b7 cG aV X bk bf TK HJ aw cS e0 e1 a8;go_wp2;go_loopw [39] (fun i wi=> ∃(j:Nat)(us:List TriB),j<=n/\i=.int .i64 j/\Hid (Rdr wi g v l k2)/\Hid (Only (fun j=>j=g) w wi)/\Hid (OwnM wi w.heap.size gP us)/\Hid (us.length=n)/\Hid (OwnE wi bl tv aM) /\
       Hid (wi.heap[gs]? = some (.cells #[v7] 33 (0,0)))/\Hid (wi.heap[ga]? = some (.cells #[.int .i64 ((j%n:Nat):Int)] 3 (0,0))) /\
       Hid (∀(i:Nat)(t:TriB),ts[i]? = some t->∃u,us[i]? = some u/\u.2.2=t.2.2/\u.2.1=if i<j then t.2.1++[aM.getD i default]else t.2.1)/\Hid (∀u∈us, ∀q,u.1.ownBlock=some q->tv.ownBlock≠some q)) (fun i _=>n-(intOf i).toNat)
     case atStart=>exact⟨0,ts,by omega,rfl,aW,T,aS,HL,ad,cK,Ai (by rw[Nat.zero_mod];exact cm.o),Ai (fun i t H=>⟨t,H,rfl,by rw[Aa (by omega)]⟩),Ai (fun t ht q A I=>by have h3:=dt.o t ht q A;have:=(OwnE.lt ad.o I).1;omega)⟩
     clear aW T aS cK cm ad;obtain⟨j,us,hj,rfl,O,d,G,c,ad,HS,HA,aF,aP⟩:=hrel;by_cases ah:j<n
     .have d2:decide ((j:Int)<(n:Int))=true:=Ah (by omega);obtain⟨u,U⟩:∃u,us[j]?=some u:=⟨us[j]'(by rw[c.o];exact ah),AJ (by rw[c.o];exact ah)⟩;have eD:u.2.1.length<=k:=by
       obtain⟨t9,dg⟩:∃t,ts[j]?=some t:=⟨ts[j]'(by rw[HL.o];exact ah),AJ (by rw[HL.o];exact ah)⟩;obtain⟨u9,I,_,h3⟩:=aF.o j t9 dg;rw[U]at I;injection I with I;subst I;rw[Aa (by omega)]at h3;rw[h3];exact bR.o t9 (AZ dg)
      have b6:=ad.rd (by rw[bg.o];omega);obtain⟨b,o,a8,J,_⟩:=b6.get (i:=j) (by rw[bg.o];exact ah);obtain⟨e0,e1⟩:=J _ b6;rcases hcg:aM.getD j default with⟨x,t⟩
      rw[hcg]at e0 e1;dsimp only at e0 e1;have cp:=Ai hcg;obtain⟨W8,b0⟩:=nm_ (wr.alloc (.cells #[.int .u64 (x:Int),.string t] 65));have ao:Lz wr W8:=(by rw[b0];exact(Ac _ _).alloc (AK _) _);have aE:=Ai (O.later ao (AK _));have ay:=Ai (d.below ao (AK _));have aT:=Ai (G.later ao);have S:=Ai (ad.later ao (AK _));have cL:=Ai ((ao.block gs (Aj.1 HS.o).1).trans HS.o);have cn:=Ai ((ao.block ga (Aj.1 HA.o).1).trans HA.o);have HU:=Ai U;have LY:=Ai (zsQ w.heap.size gP gs ga n j us u x t W8 aT.o c.o U (by omega) (by rw[<-aG.o];exact cL.o) (by rw[cn.o,BA ah]));have cT:=Ai b0;clear b6 J hcg ao b0 O d G ad HS HA U;go_wp2_with fail;rw[<-cT.o];refine LY.mono ?_;rintro e w9⟨rfl,rv,hY⟩;have bc:=hY.only;have az:∀q,q=ga\/q=gP\/u.1.ownBlock=some q->w.heap.size<=q:=fun q h=>by
       rcases h with rfl|rfl|h
       .exact bL.2
       .exact V.o
       have:=(OwnE.lt (aT.rows j u HU.o) h).1;have:=V.o;omega
      have dC:=Ai (aE.same (bc.block g aE.lt (fun h=>by have:=az g h;have:=ab.o;omega)) (fun i H=>bc.block _ (aE.rd.block H) (fun h=>by have:=az _ h;have:=(cQ.o i H).1;omega)));have cB:=Ai (ay.trans9 bc (fun q A I=>by have:=az q I;omega));have dB:=Ai hY.own;have dE:=Ai (by have:=hY.set;rw[<-aG.o]at this;exact this);have bK:=Ai hY.at_;have cA:=Ai (S.same9 (fun q M=>bc.block q (OwnE.lt S.o M).2 (fun h=>by
        rcases h with rfl|rfl|h
        · have:=(OwnE.lt S.o M).1;have:=cu.2.2;omega
        · have:=(OwnE.lt S.o M).1;have:=cu.1;omega
        · exact aP.o u (AZ HU.o) q h M)))
      have cH:=Ai (show ∀(i:Nat)(t':TriB),ts[i]? = some t'->∃Q,(us.set j ((rv,(u.2.1++[(x,t)],u.2.2)):TriB))[i]? = some Q/\Q.2.2=t'.2.2/\Q.2.1=if i<j+1 then t'.2.1++[aM.getD i default]else t'.2.1 from fun i t' H=>by
        obtain⟨Q,A,I,h3⟩:=aF.o i t' H;by_cases dP:i=j
        · subst dP
          rw[HU.o]at A;injection A with A
          subst A;rw[Aa (by omega)]at h3;refine⟨_,CF (by rw[c.o];exact ah),I, ?_⟩;rw[Ab (by omega),cp.o];show u.2.1++_=_;rw[h3]
        · refine⟨Q,by rw[BW (by omega)];exact A,I, ?_⟩
          rw[h3];by_cases h5:i<j
          · rw[Ab h5,Ab (by omega)]
          · rw[Aa h5,Aa (by omega)])
      have co:=Ai (show ∀Q∈us.set j ((rv,(u.2.1++[(x,t)],u.2.2)):TriB), ∀q,Q.1.ownBlock=some q->tv.ownBlock≠some q from fun Q dX q A I=>by
        rcases Bu dX with h3|rfl
        · exact aP.o Q h3 q A I
        · rcases hY.place with h4|h4
          · exact aP.o u (AZ HU.o) q (by rw[<-h4];exact A) I
          · have h5:=h4 q A
            have h6:=(OwnE.lt S.o I).2;omega)
      have cz:=Ai (show(us.set j ((rv,(u.2.1++[(x,t)],u.2.2)):TriB)).length=n by rw[Be];exact c.o);clear bc az hY LY aE ay aT S cL cn HU cT aF aP c e0 e1 a8;go_wp2;go_roundw
      case rel=>exact⟨j+1,_,by omega,by go_num,dC,cB,dB,cz,cA,dE,bK,cH,co⟩
      simp[intOf];omega
     obtain rfl:j=n:=(by omega);have d2:decide ((j:Int)<(j:Int))=false:=Af (by omega);have cU:=Ai (show ∀u∈us,u.2.1.length<=k+1 from fun u U=>by
       obtain⟨i,H⟩:=AW U;have f:i<j:=by rw[<-c.o];exact(AG.1 H).1
       obtain⟨Q,A,_,h3⟩:=aF.o i (ts[i]'(by rw[HL.o];exact f)) (AJ (by rw[HL.o];exact f));rw[H]at A;injection A with A;subst A;have h4:=bR.o (ts[i]'(by rw[HL.o];exact f)) (AM _);rw[h3];split
       · rw[Ae,AN];omega
       · omega)
     have dy:=Ai (show(m++[(rdK l kd j kk).1]).length=k+1/\zi3 us (m++[(rdK l kd j kk).1])/\R=zcO (ltE cs) l j (m++[(rdK l kd j kk).1]) ((kindsL cs).drop (k+1)) k2 from by
       refine⟨by rw[Ae,AN,dw.o], ?_,ae.o⟩;intro i u H;have f:i<j:=by rw[<-c.o];exact(AG.1 H).1
       obtain⟨Q,A,I,h3⟩:=aF.o i (ts[i]'(by rw[HL.o];exact f)) (AJ (by rw[HL.o];exact f));rw[H]at A;injection A with A;subst A;obtain⟨r1,r2,r3⟩:=bi.o i (ts[i]'(by rw[HL.o];exact f)) (AJ (by rw[HL.o];exact f));rw[Ab f]at h3;refine⟨?_,by rw[I];exact r2,by rw[h3];exact r3.snoc9 (cq.get (by rw[bg.o];exact f))⟩;rw[h3,zfL,r1,AC,C7, <-dv.o,znR (by rw[bg.o];exact f)])
     have bK:=Ai (show wr.heap[ga]?=some (.cells #[.int .i64 0] 3 (0,0))from by rw[HA.o,Nat.mod_self];rfl);clear aF aP ad cq ah HA;go_wp2;go_roundw
     case rel=>exact⟨k+1,k2,us,_,by omega,by go_num,O,d,G,c,cU,HS,bK,dy⟩
     simp[intOf];omega
    obtain⟨h9,_,_,_,_,_,_,_⟩|⟨_,rfl,hE⟩:=a7
    .exact absurd h9 aw
    have HF:=Ai (zhJ (R:=R) T.o (by rw[Y,zo1 aw];exact⟨rfl,rfl⟩) aw hE);clear hE Y D;go_wp2;exact⟨rfl,HF.o⟩
   obtain rfl:k=K:=(by omega);have d1:decide ((k:Int)<(k:Int))=false:=Af (by omega);obtain⟨bu,aa,Y⟩:=HJ.o;rw[Bj (by unfold kindsL;rw[Ad,<-cv.o];exact AK _),zo0]at Y;have aZ:=Ai (show R=zcL (ltE cs) l n m [] n kk from Y);have bi:=Ai aa;have aQ:=Ai (show([]:List Int).length=0/\(∀x∈([]:List Int),inW x)/\(∀(j:Nat)(u:TriB),ts[j]?=some u->j<0->u.2.2=([]:List Int).getD j 0)/\R=zcL (ltE cs) l n m [] (n-0) kk from⟨rfl,fun x hx=>absurd hx (by simp),fun j u _ h=>absurd h (by omega),aZ.o⟩);have cI:=Ai (show ∀(j:Nat)(t:TriB),ts[j]?=some t->∃u,ts[j]?=some u/\u.2.1=t.2.1 from fun j t h=>⟨t,h,rfl⟩);clear Y aa HJ aZ df bu HS HA;go_wp2;go_loopw [50] (fun i wi=> ∃(s q:Nat)(us:List TriB)(ws:List Int),s<=n/\i=.int .i64 s/\Hid (Rdr wi g v l q)/\Hid (Only (fun j=>j=g) w wi)/\Hid (OwnM wi w.heap.size gP us)/\Hid (us.length=n)/\Hid (∀(j:Nat)(t:TriB),ts[j]? = some t->∃u,us[j]? = some u/\u.2.1=t.2.1) /\
     Hid (ws.length=s/\(∀x∈ws,inW x)/\(∀(j:Nat)(u:TriB),us[j]? = some u->j<s->u.2.2=ws.getD j 0)/\R=zcL (ltE cs) l n m ws (n-s) q)) (fun i _=>n-(intOf i).toNat)
   case atStart=>exact⟨0,kk,ts,[],by omega,rfl,O,d,G,HL,cI,aQ⟩
   clear O d G aQ cI;obtain⟨s,q,us,ws,dM,rfl,O,d,G,c,bm,HJ⟩:=hrel;by_cases f:s<n
   .have d5:decide ((s:Int)<(n:Int))=true:=Ah (by omega);obtain⟨u,U⟩:∃u,us[s]?=some u:=⟨us[s]'(by rw[c.o];exact f),AJ (by rw[c.o];exact f)⟩;have dL:∀u9,(Instr.indexAt 33 v7 (.int .i64 (s:Int))).run prog u9=.ok (.pointer (some ⟨gP,2*s,none⟩)) u9:=by
     have:=G.idx (i:=s) (by rw[c.o];exact f);rw[c.o,<-aG.o]at this;exact this
    obtain⟨au,av,ar,C⟩:=HJ.o;rw[show n-s=(n-(s+1))+1 from by omega]at C;have aC:=Ai (fun h=>C.trans (znZ h));have ak:=Ai (fun h I=>C.trans (zm3 h I));have al:=Ai (fun h I=>C.trans (zsM h I));have bn:=Ai au;have cW:=Ai av;have cV:=Ai ar;go_wp2_with fail;refine(zn5 g v l q wr O.o).mono ?_;intro e w5 aq;have bb:=zE1 (l:=l) (k:=q) (most:=18446744073709551615);rcases hr:rdU l q 18446744073709551615 with⟨y,k5,x5⟩;rw[hr]at aq aC ak al bb;dsimp only at aq aC ak al bb ⊢;by_cases bE:x5=0
    .subst bE;obtain⟨rfl,ap,a6⟩:=aq.ok rfl;obtain⟨z,hz⟩:=nm_ (zag y);have cX:=Ai (show inW z from by rw[hz];exact zjP (by omega));rw[<-hz]at ak al ⊢
     have X:=Ai (G.aside ap (fun q9 M=>by
       injection M with M
       subst M;refine⟨by have:=ab.o;have:=V.o;omega,fun t ht e=> ?_⟩;obtain⟨i,H⟩:=AW ht;have:=(OwnE.lt (G.rows i t H) e).1;have:=ab.o;have:=V.o;omega))
     have a5:=d.grown ap rfl;obtain⟨_,c9,_,f9⟩:=X.cell U;have aS:=Ai (X.put U z);have Z:w5.grownBy (w5.setCell ⟨gP,2*s+1,none⟩ (.int .i64 z)) (some gP):=za0 (World.grownBy.refl _ _) _;have bB:(us.set s (u.1,(u.2.1,z)))[s]?=some (u.1,(u.2.1,z)):=CF (by rw[c.o];exact f);obtain⟨_,dH,_,_⟩:=aS.cell bB;have aW:=Ai (show Rdr (w5.setCell ⟨gP,2*s+1,none⟩ (.int .i64 z)) g v l k5 from
       a6.same (Z.block g a6.lt (fun e=>by injection e with e;have:=ab.o;have:=V.o;omega)) (fun i H=>
         Z.block _ (a6.rd.block H) (fun e=>by injection e with e;have:=(cQ.o i H).1;have:=V.o;omega)))
     have T:=Ai (show Only (fun j=>j=g) w (w5.setCell ⟨gP,2*s+1,none⟩ (.int .i64 z))from
       a5.far9 Z (fun q M=>by injection M with M;rw[<-M];exact V.o))
     have cy:=Ai (show(us.set s ((u.1,(u.2.1,z)):TriB)).length=n by rw[Be];exact c.o);have cM:=Ai (show ∀(j:Nat)(t:TriB),ts[j]? = some t->∃Q,(us.set s ((u.1,(u.2.1,z)):TriB))[j]? = some Q/\Q.2.1=t.2.1 from fun j t hj=>by
       obtain⟨Q,A,I⟩:=bm.o j t hj;by_cases b5:j=s
       · subst b5
         rw[U]at A;injection A with A
         subst A;exact⟨_,bB,I⟩
       · exact⟨Q,by rw[BW (by omega)];exact A,I⟩)
     by_cases N:z=0
     .have hF:=ak.o rfl N;have M:(z !=0)=false:=(by rw[N];rfl);clear aq hr C au av ar bb O d G HJ aC ak al ap a6 a5 Z hz N;go_wp2_with fail;refine(zaC g v l k5 (w5.setCell ⟨gP,2*s+1,none⟩ (.int .i64 z)) aW.o 2 (by decide)).mono ?_;rintro e w8⟨rfl,bv,br⟩;have HF:=Ai (zhJ (R:=R) (T.grown bv rfl) (by rw[hF];exact⟨rfl,rfl⟩) (by decide) br);clear hF bv br;go_wp2;exact⟨rfl,HF.o⟩
     have M:(z !=0)=true:=by rw[Ao];exact N
     have bM:=Ai (show(ws++[z]).length=s+1/\(∀x∈ws++[z],inW x)/\(∀(j:Nat)(Q:TriB),(us.set s ((u.1,(u.2.1,z)):TriB))[j]? = some Q->j<s+1->Q.2.2=(ws++[z]).getD j 0)/\R=zcL (ltE cs) l n m (ws++[z]) (n-(s+1)) k5 from by
       refine⟨by rw[Ae,AN,bn.o],fun x hx=>by
         rcases AD.1 hx with hx|hx
         · exact cW.o x hx
         · rw[AH.1 hx];exact cX.o,fun j Q hj eh=> ?_,al.o rfl N⟩
       by_cases b5:j=s
       · subst b5
         rw[bB]at hj;injection hj with hj
         subst hj;have:=bn.o;simp[List.getD, <-this]
       · rw[BW (by omega)]at hj
         rw[cV.o j Q hj (by omega)];have:=bn.o;unfold List.getD;rw[Cs (by omega)])
     clear aq hr C au av ar bb O d G HJ aC ak al ap a6 a5 Z hz N bn cV cW cX bm c;go_wp2_with fail;refine(zaD _ _ _).mono ?_;rintro e w8⟨rfl,rfl⟩;clear bB U c9 dH f9 X dL M;go_wp2;go_roundw
     case rel=>exact⟨s+1,k5,_,_,by omega,by go_num,aW,T,aS,cy,cM,bM⟩
     simp[intOf];omega
    obtain⟨rfl,ap,c3⟩:=aq.no bE;have HF:=Ai (zhJ (R:=R) (d.grown ap rfl) (by rw[aC.o bE];exact⟨rfl,rfl⟩) bE c3);clear aq hr C au av ar bb O d G HJ aC ak al ap c3;go_wp2;exact⟨rfl,HF.o⟩
   obtain rfl:s=n:=(by omega);have d5:decide ((s:Int)<(s:Int))=false:=Af (by omega);obtain⟨au,av,ar,C⟩:=HJ.o;rw[BT,znY]at C;have hL:∀(i:Nat)(u:TriB),us[i]?=some u->i<s/\cesL u.2.1=(btRows s m).getD i []/\CES u.2.1/\u.2.2=ws.getD i 0:=fun i u H=>by
    have f:i<s:=(by rw[<-c.o];exact(AG.1 H).1);obtain⟨Q,A,I⟩:=bm.o i (ts[i]'(by rw[HL.o];exact f)) (AJ (by rw[HL.o];exact f));rw[H]at A;injection A with A
    subst A;obtain⟨r1,r2,r3⟩:=bi.o i (ts[i]'(by rw[HL.o];exact f)) (AJ (by rw[HL.o];exact f));refine⟨f,?_,by rw[I];exact r3,ar i u H f⟩;rw[I,r1];unfold btRows;simp[List.getD,f]
   have bs:=zcQ s m;obtain⟨L,c5⟩:=nm_ (btRows s m);rw[<-c5]at hL bs C;have ct:=Ai (show btAsc (ltE cs) L=true->∀wz,Only (fun j=>j=g) w wz->Rdr wz g v l q->OwnM wz w.heap.size gP us->zD8 w g v l R (.returned v7) wz from fun ha wz g1 g2 g3=>by
     rw[Aa (by rw[ha];simp)]at C;refine⟨g1, .inl ⟨by rw[C],v7,us.map (·.2),rfl, ?_, ?_, ?_,by rw[C];exact g2⟩⟩
     · have:=g3.new
       rw[c.o, <-aG.o]at this;exact this
     · intro p hp
       obtain⟨u,U,rfl⟩:=Au.1 hp;obtain⟨i,H⟩:=AW U;obtain⟨a1,a2,a3,a4⟩:=hL i u H;refine⟨a3, ?_⟩;rw[a4];have db:i<ws.length :=by omega
       have e:ws.getD i 0=ws[i]:=by simp[List.getD,db]
       rw[e];exact av _ (AM db)
     · rw[C]
       show psL (us.map (·.2))=L.zip ws;unfold psL;rw[A6];apply List.ext_getElem
       · rw[Ad,Bd,c.o,bs,au,Nat.min_self]
       · intro i A I
         have H:i<us.length :=by simpa using A
         obtain⟨a1,a2,a3,a4⟩:=hL i us[i] (by simp[H]);rw[List.getElem_map,List.getElem_zip];have e1:L.getD i []=L[i]'(by omega):=by
           have:i<L.length :=by omega
           simp[List.getD,this]
         have e2:ws.getD i 0=ws[i]'(by omega):=by
           have:i<ws.length :=by omega
           simp[List.getD,this]
         rw[<-e1, <-e2, <-a2, <-a4];rfl)
   have dA:=Ai (show btAsc (ltE cs) L=false->R.2.1=q/\R.2.2=9 from fun ha=>by
     rw[C,Ab ha];exact⟨rfl,rfl⟩)
   have cw:=Ai hL;have cx:=Ai bs;have cC:=Ai (show ∀j,j+1<1->ltE cs (L.getD j []) (L.getD (j+1) [])=true from fun j hj=>absurd hj (by omega));clear C au av ar hL bs c5 f HJ bm bi HL bR dM;go_wp2;go_loopw [13] (fun i wi=> ∃p:Nat,1<=p/\i=.int .i64 p/\Hid (Rdr wi g v l q)/\Hid (Only (fun j=>j=g) w wi)/\Hid (OwnM wi w.heap.size gP us) /\
     Hid (∀j,j+1<p->ltE cs (L.getD j []) (L.getD (j+1) [])=true)) (fun i _=>s-(intOf i).toNat)
   case atStart=>exact⟨1,by omega,rfl,O,d,G,cC⟩
   clear O d G cC;obtain⟨p,eC,rfl,O,d,G,HJ⟩:=hrel;by_cases dW:p<s
   .have d8:decide ((p:Int)<(s:Int))=true:=Ah (by omega);obtain⟨j,hj⟩:∃j,p=j+1:=⟨p-1,by omega⟩;have dR:IntKind.i64.wrap ((p:Int)-1)=(j:Int):=(by rw[IntKind.wrap_i64];have:=G.few;have:=c.o;omega);obtain⟨ua,aK⟩:∃u,us[j]?=some u:=⟨us[j]'(by rw[c.o];omega),AJ (by rw[c.o];omega)⟩;obtain⟨ub,aL⟩:∃u,us[p]?=some u:=⟨us[p]'(by rw[c.o];omega),AJ (by rw[c.o];omega)⟩;have dN:∀u9,(Instr.indexAt 33 v7 (.int .i64 (j:Int))).run prog u9=.ok (.pointer (some ⟨gP,2*j,none⟩)) u9:=by
     have:=G.idx (i:=j) (by rw[c.o];omega);rw[c.o,<-aG.o]at this;exact this
    have dO:∀u9,(Instr.indexAt 33 v7 (.int .i64 (p:Int))).run prog u9=.ok (.pointer (some ⟨gP,2*p,none⟩)) u9:=by
     have:=G.idx (i:=p) (by rw[c.o];omega);rw[c.o,<-aG.o]at this;exact this
    obtain⟨ka,_,_,_⟩:=G.cell aK;obtain⟨kb,_,_,_⟩:=G.cell aL;obtain⟨_,cb,cc,_⟩:=cw.o j ua aK;obtain⟨_,cd,ce,_⟩:=cw.o p ub aL;have aa:=(G.rows j ua aK).rd (by have:=G.wide ua (AZ aK);omega);have b8:=(G.rows p ub aL).rd (by have:=G.wide ub (AZ aL);omega);obtain⟨z,hz⟩:=nm_ (cmpR cs ua.2.1 ub.2.1);have CP:=Ai (fun wz(hb:Lz wr wz)=>zg2 sv ua.1 ub.1 cs ua.2.1 ub.2.1 wz (cN.o wz (d.below hb (AK _))) (aa.later hb (AK _)) (b8.later hb (AK _)) hC cc ce (cO.o wz (d.below hb (AK _))));rw[<-hz]at CP;obtain⟨ra,a9⟩:=nm_ ua.1;obtain⟨rb,ba⟩:=nm_ ub.1;rw[<-a9]at ka CP;rw[<-ba]at kb CP;have bG:ltE cs (L.getD j []) (L.getD (j+1) [])=decide (z<0):=by
     rw[<-cb,<-hj,<-cd,zH8,hz]
    by_cases N:z<0
    .have aJ:decide (z<0)=true:=Ah N
     have bM:=Ai (show ∀j',j'+1<p+1->ltE cs (L.getD j' []) (L.getD (j'+1) [])=true from fun j' eB=>by
       by_cases dQ:j'=j
       · rw[dQ,bG,aJ]
       · exact HJ.o j' (by omega))
     clear hj hz cb cc cd ce aa b8 a9 ba aK aL bG N HJ;go_wp2_with fail;go_region_with (first
       | (go_at_call 76
          refine(CP.o _ ?hcp).mono ?_
          case hcp=>exact(Ac _ _).drew
          rintro e w7⟨rfl,an⟩)
       | (go_at_call 240
          try rw[aJ]
          refine(zaD _ _ _).mono ?_;rintro e w8⟨rfl,rfl⟩))
     all_goals(
       have aE:=Ai ((O.drew).later an (AK _));have ay:=Ai ((d.drew).below an (AK _));have aT:=Ai (G.later (((Ac _ _).drew).trans an));clear an O d G CP ka kb dN dO dR aJ;go_wp2;go_roundw
       case rel=>exact⟨p+1,by omega,by go_num,aE,ay,aT,bM⟩
       case measure=>simp[intOf];omega)
    have aJ:decide (z<0)=false:=Af N;have dx:=Ai (dA.o (by
      cases ha:btAsc (ltE cs) L with
      | false=>rfl
      | true=>
        have h7:=(zfA _ L).1 ha j (by rw[cx.o, <-hj];exact dW);rw[bG,aJ]at h7;cases h7))
    clear hj hz cb cc cd ce aa b8 a9 ba aK aL bG N HJ;go_wp2_with fail;go_region_with (first
      | (go_at_call 76
         refine(CP.o _ ?hcp).mono ?_
         case hcp=>exact(Ac _ _).drew
         rintro e w7⟨rfl,an⟩)
      | (go_at_call 240
         try rw[aJ]
         refine(zaC g v l q w7 ((O.drew).later an (AK _)) 9 (by decide)).mono ?_;rintro e w8⟨rfl,bv,br⟩;have HF:=Ai (zhJ (R:=R) (((d.drew).below an (AK _)).grown bv rfl) dx.o (by decide) br);refine zwG (a:={ tmps:= #[],defers:=[]}) (w:=w8) ⟨rfl,HF.o⟩ ?_))
    all_goals trivial
   have d8:decide ((p:Int)<(s:Int))=false:=Af (by omega);have HF:=Ai (ct.o ((zfA _ L).2 (fun j hj=>HJ.o j (by have:=cx.o;omega))) wr d.o O.o G.o);clear O d G HJ;go_wp2;go_ret;exact HF.o
  obtain⟨rfl,af,a0⟩:=U.no bD;have HF:=Ai (zhJ (R:=R) (aR.grown af rfl) (aY.o bD) bD a0);clear U af a0 hr aX aY;go_wp2;exact⟨rfl,HF.o⟩
 have M:((E:Int)!=0)=true:=by rw[Ao];omega
 have c7:R.2.1=k0/\R.2.2=E:=by rw[aH];unfold bat;rw[Ab bq];exact⟨rfl,rfl⟩
 have ae:=Ai hR;have dD:=Ai c7;have cr:=Ai bq;clear aH bz hR hg bp hE hT c7 bq;go_enter func216,ntmps216;go_wp2_with fail;refine SC.mono ?_;rintro e w1⟨rfl,hb⟩;have aR:=Ai (show Only (fun j=>j=g) w w1 from(Only.refl _ _).below hb (AK _));have bh:=Ai (ae.later hb (AK _));clear hb SC ae;go_wp2_with fail;refine(zaC g v l k0 w1 bh.o E cr.o).mono ?_;rintro e w2⟨rfl,af,a0⟩;have HF:=Ai (zhJ (R:=R) (aR.grown af rfl) dD.o cr.o a0);clear af a0;go_wp2;exact⟨rfl,HF.o⟩
/- -/
def RdC.only9{cs:List ColB}{S:Nat->Prop}{B:Nat}(a:RdC w v cs){c:World}(f:RdC c v cs)(k:c.heap.size<=B)(d:Only S w w')(e:∀q,S q->B<=q):RdC w' v cs :=
 RdG.same a fun i b=>d.block _ (RdG.block a zbK b) (fun h=>by have g:=RdG.block f zbK b;have j:=e _ h;omega)
/- -/
def zD9(wR:World)(c:Nat)(kd:Int)(R:(Nat×List Bp)×Nat×Nat)(g k x:Nat)(a:World):Prop :=
 Only (fun j=>j=c\/wR.heap.size<=j) wR a/\k=R.2.1/\x=R.2.2/\(x=0->∃tv ps,Ebox a c kd (R.1.1:Int) tv/\NewP a (wR.heap.size+4) tv ps/\PSO ps/\psL ps=R.1.2)
def zp9(args:Array Value)(u:World):(callFunc 214 args).run prog u=.ok (.enter 214 args) u:=zlG func214 (by kernel_rfl) rfl args u
def Ebox.seq(h:Ebox w b kind s a)(n:Int):Ebox (w.setCell ⟨b,1,none⟩ (.int .i64 n)) b kind n a:=by
 have:=block_setCell (k:=1) h (.int .i64 n);unfold Ebox;simpa using this
def Ebox.pairs(h:Ebox w b kind s a)(v:Value):Ebox (w.setCell ⟨b,2,none⟩ v) b kind s v:=by
 have:=block_setCell (k:=2) h v;unfold Ebox;simpa using this
def Ebox.free(h:Ebox w b kind s a)(i:Nat):w.frozen? ⟨b,i,none⟩=false:=At _ _ _ _ _ h
def Ebox.lt(h:Ebox w b kind s a):b<w.heap.size:=(Aj.1 h).1
def zBY(k:Int)(w:World)(b:Frs w)(c:¬(k=1\/k=2)):Calls prog 213 #[.int .i64 k] w fun e w'=>∃x,e=.returned (.tuple #[.int .i64 x,.bool false])/\w=w':=by
 refine(ziM k w b).mono ?_;rintro e w'⟨⟨x,a,_⟩,d⟩;rw[Af c]at a;exact⟨x,a,d⟩
def zBX(k:Int)(w:World)(c:Frs w)(b:k=1\/k=2):Calls prog 213 #[.int .i64 k] w fun e w'=>e=.returned (.tuple #[.int .i64 (2-k),.bool true])/\w=w':=by
 refine(ziM k w c).mono ?_;rintro e w'⟨⟨x,a,f⟩,d⟩;rw[Ah b,f b]at a;exact⟨a,d⟩
def zuD(sv:Value)(cs:List ColB)(R:(Nat×List Bp)×Nat×Nat)(d:World)(g c kb:Nat)(kd:Int)(v:Value)(l:Bs)(w:World)(ag:R=entT cs l)(hR:Rdr w g v l 0)(hc:Ebox w c kd 0 (.slice none 0 0))(ai:w.heap[kb]?=some (.cells #[sv] 22 (0,0)))(al:RdC d sv cs)(hC:CS cs)(hT:Tabs w)(hg:zcN<=g)(ah:c<d.heap.size)(bg:kb<d.heap.size)(bh:kb≠c)(bc:zcN<=c)(bf:d.heap.size<=g)(bk:d.heap.size+4<=w.heap.size)(hb:Lz d w)(hv:∀i,i<l.length->(adr v i).block≠c)(ak:∀wz,Only (fun j=>j=c\/d.heap.size<=j) d wz->RdC wz sv cs) :Calls prog 214 #[.pointer (some ⟨g,0,none⟩),.pointer (some ⟨c,0,none⟩),.pointer (some ⟨kb,0,none⟩)] w fun e m=>∃k x,Kept d.heap.size g w m/\zD9 d c kd R g k x m/\Went g v l k x e m:=by
 have bd:c<w.heap.size:=by omega
 have UI:=h_ (zc8 g v l 0 w hR 281474976710656 (by decide));have u:=zpE (cs:=cs) (l:=l);have y:=zpD (cs:=cs) (l:=l);have b:=zcE (l:=l) (k:=0) (most:=281474976710656) (Bg _);rw[<-ag]at u y;obtain⟨R1,ad⟩:=nm_ (rdU l 0 281474976710656);rw[<-ad]at UI u y b;obtain⟨n,hn⟩:=nm_ R1.1;obtain⟨k1,I⟩:=nm_ R1.2.1;obtain⟨x1,C⟩:=nm_ R1.2.2;rw[<-hn,<-I,<-C]at UI;rw[<-hn,<-I,<-C]at y;rw[<-I,<-C]at u;rw[<-hn,<-C]at b;have X:=h_ u;have M:=h_ y;have L:=h_ (fun h=>(b h).2.2);have a8:=h_ (show ∀h:x1=0,x1=0 from fun h=>h);obtain⟨a9,bl,aW,rfl⟩:=al.lit12;have HC:=h_ hc;have aA:=h_ ai;have Y:=h_ (show Only (fun j=>j=c\/d.heap.size<=j) d w from((Only.refl _ d).below hb l_));have aF:=h_ ak;have HT:=h_ hT;clear u y b hn I C ad ag hc ai al hR hT hb ak;go_enter func214,ntmps214;go_wp2_with fail;refine UI.mono ?_;rintro e m⟨hG,⟨A,rfl,ae⟩|⟨A,rfl,hE⟩⟩
 .subst A;have a:Only (fun j=>j=g) w m:=(Only.refl _ w).grown hG rfl;have D:Ebox m c kd 0 (.slice none 0 0):=a.keep HC.o (by omega);obtain⟨c0,c1,c2⟩:=D.cells;have c3:=D.free 1;have bi:=L.o rfl;obtain⟨q1,q2,q3⟩:=M.o rfl;have H:Only (fun j=>j=c) m (m.setCell ⟨c,1,none⟩ (.int .i64 (n:Int))):=(Only.refl (fun j=>j=c) m).setCell (p:=⟨c,1,none⟩) rfl _;have S:=ae.setVar (p:=⟨c,1,none⟩) (by dsimp only;omega) hv (.int .i64 (n:Int));have Q:=D.seq (n:Int);have U:=H.keep (a.keep aA.o (by omega)) (by omega);have t:Only (fun j=>j=c\/d.heap.size<=j) d (m.setCell ⟨c,1,none⟩ (.int .i64 (n:Int))):=(Y.trans9 a (fun j _ f=>by omega)).trans9 H (fun j _ f=>.inl f);have G:Kept d.heap.size g w (m.setCell ⟨c,1,none⟩ (.int .i64 (n:Int))):=(a.kept (fun j f=>.inr f)).setCell ah _;have T:Tabs (m.setCell ⟨c,1,none⟩ (.int .i64 (n:Int))):=zgS HT.o fun j f=>by
   have aJ:=AE f (zoL HT.o);rw[H.block j (by have:=a.size;omega) (by omega),a.block j aJ (by omega)]
  obtain⟨w3,J⟩:=nm_ (m.setCell ⟨c,1,none⟩ (.int .i64 (n:Int)));rw[<-J]at S Q U t G T;have p0:=cell_of_one U;rw[J]at p0;have a1:=t.size;have a2:=G.size;have CT:=h_ (zyJ _ cs g v l k1 w3 S hC T hg (fun wz hO=>aF.o wz (t.trans9 hO (fun j _ f=>.inr (by omega)))));have aG:=h_ J;have ax:=h_ Q;have aa:=h_ t;have V:=h_ G;have N:=h_ (Al q1 (Al q2 q3));obtain⟨B,hB⟩:=nm_ (batS cs l k1);rw[<-hB]at N;rw[show bat (ltE cs) (errS (colsL cs)) l (kindsL cs) k1=B from hB.symm]at CT;clear a D H S Q U t G T q1 q2 q3 J UI X M L hB ae hG;go_wp2_with fail;rw[<-aG.o];refine CT.mono ?_;clear c0 c1 c2 c3 CT;rintro e w4⟨r,⟨A,tv,ps,rfl,z,aL,aj,af⟩|⟨A,rfl,hE⟩⟩
  .obtain⟨ao,tl,cap,aM⟩:=z.rd.lit12;subst aM;have E:Ebox w4 c kd (n:Int) (.slice none 0 0):=r.keep ax.o (by omega);obtain⟨c0,c1,c2⟩:=E.cells;have c3:=E.free 2;have s:=h_ r;have HN:=h_ z;have aE:=h_ aj;have aD:=h_ af;have O:=h_ A;have ay:=h_ E;have bj:=r.size;clear r z aj af A E p0;go_wp2;go_end0;have aK:Only (fun j=>j=c) w4 (w4.setCell ⟨c,2,none⟩ (.slice ao tl cap)):=(Only.refl (fun j=>j=c) w4).setCell (p:=⟨c,2,none⟩) rfl _;refine⟨B.2.1,0,?_,⟨?_,by rw[N.2.2],by rw[N.2.2];exact O.symm,fun _=>⟨.slice ao tl cap,ps,by rw[N.1];exact ay.pairs _,?_,aL,by rw[N.2.1];exact aE.o⟩⟩,.inl ⟨rfl,rfl,?_⟩⟩
   .exact(V.trans (s.kept (fun j f=>.inr f))).setCell ah _
   .exact(aa.trans9 s.o (fun j _ f=>.inr (by omega))).setCell (p:=⟨c,2,none⟩) (.inl rfl) _
   .exact(HN.only aK (fun q hq=>by omega)).lower (by omega)
   exact aD.setVar (p:=⟨c,2,none⟩) (by dsimp only;omega) hv _
  have s:=h_ r;have HE:=h_ hE;have O:=h_ A;clear r hE A p0;go_wp2;refine⟨rfl,B.2.1,B.2.2,V.trans (s.kept (fun j f=>.inr f)),⟨aa.trans9 s.o (fun j _ f=>.inr (by omega)),by rw[N.2.2],by rw[N.2.2],fun h=>absurd h O.o⟩,.inr ⟨O.o,rfl,HE.o⟩⟩
 have a:Only (fun j=>j=g) w m:=(Only.refl _ w).grown hG rfl;obtain⟨q1,q2⟩:=X.o A;have HE:=h_ hE;have O:=h_ A;have aB:=h_ q1;have aC:=h_ q2;have Z:=h_ a;clear hG hE A q1 q2 a UI M L;go_wp2;refine⟨rfl,k1,x1,Z.kept (fun j f=>.inr f),⟨Y.trans9 Z.o (fun j _ f=>by omega),aB.symm,aC.symm,fun h=>absurd h O.o⟩,.inr ⟨O.o,rfl,HE.o⟩⟩
def RdEO(w:World)(cs:List ColB)(kind:Int)(l:Bs)(e:Ending)(w':World):Prop :=
 Lz w w'/\∃ao n cap ps,e=.returned (.tuple #[.agg #[.int .i64 (entRV cs kind l).1,.int .i64 (entRV cs kind l).2.1,.slice ao n cap],.int .i64 (entRE cs kind l:Nat)])/\NewP w' w.heap.size (.slice ao n cap) ps/\PSO ps/\psL ps=(entRV cs kind l).2.2
def RdEO.no{cs:List ColB}(h:entRE cs kind l=k)(a:k≠0)(b:Lz w w') :RdEO w cs kind l (.returned (.tuple #[.agg #[.int .i64 0,.int .i64 0,.slice none 0 0],.int .i64 (k:Int)])) w':=by
 refine⟨b,none,0,0,[],?_,NewP.nil _ _,fun p hp=>absurd hp (by simp),?_⟩
 .unfold entRV;rw[h,Aa a]
 unfold entRV;rw[h,Aa a];rfl
def Ebox.reset {k:Int}{d:Value}(h:Ebox w b k s d)(a c:Int)(v:Value):Ebox (((w.setCell ⟨b,0,none⟩ (.int .i64 a)).setCell ⟨b,1,none⟩ (.int .i64 c)).setCell ⟨b,2,none⟩ v) b a c v:=by
 have:=block_setCell (k:=2) (block_setCell (k:=1) (block_setCell (k:=0) h (.int .i64 a)) (.int .i64 c)) v;unfold Ebox;simpa using this
def zyA(sv v:Value)(cs:List ColB)(kind:Int)(l:Bs)(w:World)(V:RdC w sv cs)(h:Rd w v l)(hC:CS cs)(hk:inW kind)(hT:Tabs w)(hF:Frs w) :Calls prog 174 #[sv,.int .i64 kind,v] w (RdEO w cs kind l):=by
 have bH:∀(fn:Fn)(first cap:Array Value)(w:World),(Instr.makeFunc fn first cap).run prog w=.ok (.func fn first cap) w:=fun _ _ _ _=>rfl;obtain⟨N0,N1,N2,N4⟩:=new2 w (.cells #[sv] 22) (.cells #[.int .i64 0,.int .i64 0,.slice none 0 0] 123);obtain⟨w0,an⟩:=nm_ ((w.alloc (.cells #[sv] 22)).alloc (.cells #[.int .i64 0,.int .i64 0,.slice none 0 0] 123));rw[<-an]at N0 N1 N2 N4;have bb:=zoL hT;have ab:=h_ N4;have HH:=h_ h;have HT:=h_ hT;have HF:=h_ hF;have aB:=h_ V;have SC:=h_ (zb0 sv cs w0 (V.later N4 l_) hC (hT.later N4));have C:entRE cs kind l=if errS (colsL cs)≠0 then errS (colsL cs)else if kind≠1/\kind≠2 then 10 else told l (entT cs l).2.1 (entT cs l).2.2:=rfl;have hV:entRE cs kind l=0->entRV cs kind l=(2-kind,((entT cs l).1.1:Int),(entT cs l).1.2):=fun h=>by unfold entRV;rw[Ab h]
 obtain⟨E,aF⟩:=nm_ (errS (colsL cs));rw[<-aF]at SC C;obtain⟨d,ak⟩:=nm_ w.heap.size;rw[<-ak]at N0 N1 N2 bb;have n:=h_ ak;have ae:=h_ an;have A:=h_ (show Ebox w0 (d+1) 0 0 (.slice none 0 0)from N2);have aA:=h_ N1;have a0:=h_ N0;obtain⟨bC,bI,bm,rfl⟩:=V.lit12;have p0:=cell_of_one N1;clear an N1 N2 N4 h hT hF V ak aF N0;by_cases S:E=0
 .subst S;rw[Aa (by simp)]at C;by_cases U:kind≠1/\kind≠2
  .rw[Ab U]at C;have HE:=h_ C;have KO:=h_ (fun wz hF=>zBY kind wz hF (by omega));clear C hV U hk;go_enter func174,ntmps174;go_wp2_with fail;rw[<-ae.o,<-n.o];refine SC.mono ?_;rintro e J⟨rfl,r⟩;have s:=bT ab r;have m:=h_ (A.later r);obtain⟨c0,c1,c2⟩:=m.cells;have f0:=m.free 0;have f1:=m.free 1;have f2:=m.free 2;clear r SC A p0;go_wp2_with fail;refine(KO.o J (HF.later s.o)).mono ?_;rintro e w2⟨x,rfl,rfl⟩;clear KO;go_wp2;obtain⟨w9,f⟩:=nm_ (((J.setCell ⟨d+1,0,none⟩ (.int .i64 0)).setCell ⟨d+1,1,none⟩ (.int .i64 0)).setCell ⟨d+1,2,none⟩ (.slice none 0 0));rw[<-f];obtain⟨e0,e1,e2⟩:=(show Ebox w9 (d+1) 0 0 (.slice none 0 0)from by rw[f];exact m.reset 0 0 _).cells;have t:Lz w w9:=(by rw[f];exact((s.setCell (p:=⟨d+1,0,none⟩) (by rw[<-n.o];exact C2 _) _).setCell (p:=⟨d+1,1,none⟩) (by rw[<-n.o];exact C2 _) _).setCell (p:=⟨d+1,2,none⟩) (by rw[<-n.o];exact C2 _) _);refine bodyPost_ret (by simp[results,results174,go_sem,e0,e1,e2];try rfl) rfl ?_;exact RdEO.no HE.o (by decide) t
  rw[Aa U]at C;have aI:kind=1\/kind=2:=by omega
  have KO:=h_ (fun wz hF=>zBX kind wz hF aI);obtain⟨kd,Y⟩:=nm_ (2-kind);obtain⟨R,T⟩:=nm_ (entT cs l);rw[<-Y]at KO hV;rw[<-T]at C hV;have HE:=h_ C;have HV:=h_ hV;have HC:=h_ hC;clear C hV U hk aI Y hC;go_enter func174,ntmps174;go_wp2_with fail;rw[<-ae.o,<-n.o];refine SC.mono ?_;rintro e J⟨rfl,r⟩;have s:=bT ab r;have m:=h_ (A.later r);have ad:=h_ ((r.block d (Aj.1 aA.o).1).trans aA.o);have az:=h_ (show d+2<=J.heap.size from by have:=r.size;have:=a0.o;omega);clear r SC A p0;go_wp2_with fail;refine(KO.o J (HF.later s.o)).mono ?_;rintro e w9⟨rfl,rfl⟩;obtain⟨M1,M2⟩:=za5 J (.cells #[.int .i64 kd,.int .i64 0,.slice none 0 0] 123);obtain⟨w2,X⟩:=nm_ (J.alloc (.cells #[.int .i64 kd,.int .i64 0,.slice none 0 0] 123));have M0:w2.heap.size=J.heap.size+1:=by rw[X];simp
  rw[<-X]at M1 M2;obtain⟨c,hc⟩:=nm_ J.heap.size;rw[<-hc]at M0 M1;have al:=az.o;rw[<-hc]at al;have aL:w.heap.size<=d:=by rw[n.o];exact l_
  have ay:Ebox w2 c kd 0 (.slice none 0 0):=M1;have N:=bT s M2;have a2:=h_ (m.later M2);have aG:=(M2.block d (Aj.1 ad.o).1).trans ad.o;have Z:=HH.later N.o l_;have I:=aB.later N.o l_;have aH:=HT.later N.o;have aK:=fun i(hi:i<l.length)=>HH.block hi;have aa:=zkJ 214 zp9 #[.pointer (some ⟨c,0,none⟩),.pointer (some ⟨d,0,none⟩)] v l w2 Z (zD9 w2 c kd R) (fun g k x a b hp hs L=>by
   obtain⟨h1,h2,h3,h4⟩:=hp;refine⟨h1.trans9 L (fun j _ hj=>.inr (by omega)),h2,h3,fun hx=>?_⟩;obtain⟨tv,ps,q1,q2,q3,q4⟩:=h4 hx;exact⟨tv,ps,L.keep q1 (by omega),q2.only L (fun q hq=>by omega),q3,q4⟩) (fun g M h1 h2 h3 r hR=>by
   have:=zuD _ cs R w2 g c d kd v l M T hR (ay.later r) ((r.block d (by omega)).trans aG) I HC.o (aH.later r) (by omega) (by omega) (by omega) (by omega) (by omega) h1 h2 r (fun i hi=>by have:=aK i hi;omega) (fun wz L=>I.only9 aB.o (B:=c) (by omega) L (fun q hq=>by omega));exact this)
  have H:=h_ aa;have a4:=h_ X;have aY:=h_ hc;have G:=h_ M0;have u:=h_ (Al al aL);clear aa X hc M0 M1 M2 al aL ay aG Z I aH aK KO m ad s az;go_wp2_with fail;rw[<-a4.o,<-aY.o];refine H.mono ?_;rintro e M⟨g,k,x,hk,hg,⟨L,h2,h3,hp⟩,aJ,rfl⟩;have O:=h_ (show Lz w M from N.trans (L.toBelow (fun j hj=>by have:=u.o;have:=G.o;omega) (by have:=u.o;have:=G.o;omega)));have z:=h_ (show Ebox M (d+1) 0 0 (.slice none 0 0)from L.keep a2.o (by have:=u.o;have:=G.o;omega));have D:=h_ (show entRE cs kind l=told l k x from by rw[HE.o,h2,h3]);obtain⟨c0,c1,c2⟩:=z.cells;have f0:=z.free 0;have f1:=z.free 1;have f2:=z.free 2;obtain⟨y,hy⟩:=nm_ (told l k x);rw[<-hy]at D ⊢;by_cases ap:y=0
  .subst ap;have hx:x=0:=by
    apply Av;intro h9;unfold told at hy;rw[Aa h9]at hy;exact h9 hy.symm
   subst hx;obtain⟨tv,ps,q1,q2,q3,q4⟩:=hp rfl;obtain⟨ao,tl,cap,bc⟩:=q2.rd.lit12;subst bc;obtain⟨b0,b1,b2⟩:=q1.cells;have HN:=h_ q2;have a1:=h_ q3;have HQ:=h_ q4;obtain⟨sq,am⟩:=nm_ ((R.1.1:Int):Int);rw[<-am]at b1;have a3:=h_ am;have bG:=z.lt;clear L h2 h3 hp aJ q1 q2 q3 q4 hy am T H HE;go_wp2;obtain⟨w9,f⟩:=nm_ (((M.setCell ⟨d+1,0,none⟩ (.int .i64 kd)).setCell ⟨d+1,1,none⟩ (.int .i64 sq)).setCell ⟨d+1,2,none⟩ (.slice ao tl cap));rw[<-f];obtain⟨e0,e1,e2⟩:=(show Ebox w9 (d+1) kd sq (.slice ao tl cap)from by rw[f];exact z.reset kd sq _).cells;have Q:Only (fun j=>j=d+1) M w9:=(by rw[f];exact(((Only.refl (fun j=>j=d+1) M).setCell (p:=⟨d+1,0,none⟩) rfl _).setCell (p:=⟨d+1,1,none⟩) rfl _).setCell (p:=⟨d+1,2,none⟩) rfl _);have t:Lz w w9:=O.trans (Q.toBelow (fun j hj=>by have:=u.o;omega) O.size);refine bodyPost_ret (by simp[results,results174,go_sem,e0,e1,e2];try rfl) rfl ?_;refine⟨t,ao,tl,cap,ps,?_,(HN.only Q (fun q hq=>by have:=u.o;have:=G.o;omega)).lower (by have:=u.o;have:=G.o;omega),a1.o,?_⟩
   .rw[HV.o D.o,D.o,a3.o];rfl
   rw[HV.o D.o,HQ.o]
  have q:((y:Int)!=0)=true:=by rw[Ao];omega
  have HY:=h_ ap;clear L h2 h3 hp aJ hy T H HE ap;go_wp2;obtain⟨w9,f⟩:=nm_ (((M.setCell ⟨d+1,0,none⟩ (.int .i64 0)).setCell ⟨d+1,1,none⟩ (.int .i64 0)).setCell ⟨d+1,2,none⟩ (.slice none 0 0));rw[<-f];obtain⟨e0,e1,e2⟩:=(show Ebox w9 (d+1) 0 0 (.slice none 0 0)from by rw[f];exact z.reset 0 0 _).cells;have Q:Only (fun j=>j=d+1) M w9:=by rw[f];exact(((Only.refl (fun j=>j=d+1) M).setCell (p:=⟨d+1,0,none⟩) rfl _).setCell (p:=⟨d+1,1,none⟩) rfl _).setCell (p:=⟨d+1,2,none⟩) rfl _
  have t:Lz w w9:=O.trans (Q.toBelow (fun j hj=>by have:=u.o;omega) O.size);refine bodyPost_ret (by simp[results,results174,go_sem,e0,e1,e2];try rfl) rfl ?_;exact RdEO.no D.o HY.o t
 rw[Ab S]at C;have HE:=h_ C;have aZ:=h_ S;have q:((E:Int)!=0)=true:=by rw[Ao];omega
 clear C hV hk S;go_enter func174,ntmps174;go_wp2_with fail;rw[<-ae.o,<-n.o];refine SC.mono ?_;rintro e J⟨rfl,r⟩;have s:=bT ab r;have m:=h_ (A.later r);obtain⟨c0,c1,c2⟩:=m.cells;have f0:=m.free 0;have f1:=m.free 1;have f2:=m.free 2;clear r SC A;go_wp2;obtain⟨w9,f⟩:=nm_ (((J.setCell ⟨d+1,0,none⟩ (.int .i64 0)).setCell ⟨d+1,1,none⟩ (.int .i64 0)).setCell ⟨d+1,2,none⟩ (.slice none 0 0));rw[<-f];obtain⟨e0,e1,e2⟩:=(show Ebox w9 (d+1) 0 0 (.slice none 0 0)from by rw[f];exact m.reset 0 0 _).cells;have t:Lz w w9:=by rw[f];exact((s.setCell (p:=⟨d+1,0,none⟩) (by rw[<-n.o];exact C2 _) _).setCell (p:=⟨d+1,1,none⟩) (by rw[<-n.o];exact C2 _) _).setCell (p:=⟨d+1,2,none⟩) (by rw[<-n.o];exact C2 _) _
 refine bodyPost_ret (by simp[results,results174,go_sem,e0,e1,e2];try rfl) rfl ?_;exact RdEO.no HE.o aZ.o t
end
