/- -/
import Derived.Test.YtgboedffaangeaaGreatDoorVRdr
import Derived.Laws.EntriesVeiled
import Derived.Test.YtgboedffaangeaaGreatDoorVAppFull
import Derived.Lib.LaidTab
import Derived.LaidLaws
import Derived.Deep.Strs
set_option maxHeartbeats 16000000
set_option linter.all false
set_option maxRecDepth 1000000
namespace Go.Proofs.YtgboedffaangeaaGreatDoor
open Go.RowKit
section
open _root_.Go.Proofs.Tryz
variable {cs:List CellB} {k:Nat}
def RdE.rest{w:World}{v:Value}{c:CellB}(h:RdE w v (c::cs)) :∃a,(∀u,(Instr.slice 67 v (some (.int .i64 1)) none none).run prog u=.ok a u)/\RdE w a cs:=by
 obtain⟨a,b,d⟩:=RdG.from zd5 h 1 (by simp);exact⟨a,b,d w h⟩
def zdW(kind:Int)(X:kind=1\/kind=5)(v:Value)(cs:List CellB)(w:World)(h:RdE w v cs)(A:CES cs)(G:10*cs.length<=1000000) :Calls prog 229 #[v] w (RetB w (wrC kind (cesL cs))):=by
 have a:=h.len;cases cs with
 | nil=>
  rw[show cesL []=[]from rfl,zo8];have a:∀u,(Builtin.len_ #[67] 3 #[v]).run prog u=.ok (.int .i64 0) u:=a;clear h A G;go_enter func229,ntmps229;go_wp2;go_ret;exact⟨_,rfl,zaE _ _,Ac _ _⟩
 | cons c r=>
  obtain⟨b,o,f,d,N⟩:=h.get (i:=0) (by simp);obtain⟨t,V⟩:=d _ h;obtain⟨M,T⟩:=A c (by simp);obtain⟨Z,Y,z⟩:=h.rest;rcases c with⟨x,s⟩;have t:w.cell? ⟨b,o,none⟩=some (.int .u64 (x:Int)):=t;have f:∀u,(Instr.indexAt 67 v (.int .i64 0)).run prog u=.ok (.pointer (some ⟨b,o,none⟩)) u:=f;dsimp only at M;have y:((((x,s)::r:List CellB).length:Nat):Int)=((r.length+1:Nat):Int):=by rw[Ap]
  rw[y]at a;have E:(((r.length+1:Nat):Int)==0)=false:=by rw[As];omega
  obtain⟨n,O⟩:=nm_ (r.length+1);rw[<-O]at a E;have J:=Ai (fun g(l:Lz w g)=>show Calls prog 95 #[.int .u64 (x:Int)] g fun e w'=> ∃v,e=.returned v/\Own w' w.heap.size v (encU x)/\Lz w w' from(zcW (x:Int) (by omega) (by omega) g).mono (by
    rintro e w'⟨v,rfl,C,D⟩;exact⟨v,rfl,C.base l.size,l.trans (D.mono l.size)⟩))
  have I:=Ai (fun g H(l:Lz w g)(C:Own g w.heap.size H (encU x))=>zdD w H (encU x) x M Z r g z (fun c U=>A c (by simp[U])) l C (by
    have:=zaA x (by omega);rw[Ap]at G;omega))
  have L:=Ai (show wrC kind (cesL ((x,s)::r))=encU x++stp x (numL r)from by
    rw[<-zrA];exact zyU X (ceL (x,s)) (cesL r))
  rw[L.o];clear h A G d z T y O L;go_enter func229,ntmps229;go_wp2;go_region_with (first
    | (go_at_call 95
       refine(J.o _ ?hbu).mono ?_
       case hbu=>exact(Ac _ _).drew
       rintro e w7⟨H,rfl,j,m⟩)
    | (go_at_call 251
       refine(I.o _ _ m j).mono ?_;rintro e w8⟨zv,rfl,k,p⟩))
  all_goals(
    have S:=Ai k;have Q:=Ai p;clear k p j m I J;go_wp2;go_ret;exact⟨_,rfl,S.o,Q.o⟩)
/- -/
def zIA{y x r:Nat}(f:r<8)(d:y<2^r)(c:x<=1):bits .or .u8 (y:Int) ((x:Int)*2^r%256)=((UInt8.ofNat (y+2^r*x)).toNat:Int):=by
 have hp:2^r<=2^7:=BE (by decide) (by omega);have hm:2^r*x<=2^r*1:=Bn _ c;have b:y+2^r*x<256:=by
  have a:2^(r+1)<=2^8:=BE (by decide) (by omega);rw[Bl]at a;omega
 have e:(x:Int)*2^r%256=((2^r*x:Nat):Int):=by
  have:((2^r*x:Nat):Int)=(x:Int)*2^r:=by rw[BS];simp
  rw[<-this];omega
 have h:=(bits_nat .u8 8 (by decide) wraps_u8 y (2^r*x) (by omega) (by omega)).2;rw[e,h,UInt8.toNat_ofNat',BA b,Nat.or_comm,<-Nat.two_pow_add_eq_or_of_lt d,Nat.add_comm]
def zv1(a:k<=cs.length):(wrC 2 ((cesL cs).take k)).length=(k+7)/8:=by
 unfold wrC;rw[Ab rfl,zr9,Ad,Aq,za8,A7 a]
def zDH(m:CES cs)(n:errK 2 (cesL cs)=0) {M:Nat}(b:k<cs.length)(C:(cs.length+7)/8=M) :∃y x:Nat,(cs.getD k default).1=x/\x<=1/\y<2^(k%8)/\k/8<(wrC 2 ((cesL cs).take k)++List.replicate (M-(k+7)/8) 0).length/\((wrC 2 ((cesL cs).take k)++List.replicate (M-(k+7)/8) 0).getD (k/8) 0).toNat=y /\(wrC 2 ((cesL cs).take k)++List.replicate (M-(k+7)/8) 0).set (k/8) (UInt8.ofNat (y+2^(k%8)*x))=wrC 2 ((cesL cs).take (k+1))++List.replicate (M-(k+1+7)/8) 0:=by
 have g:errK 2 ((cesL cs).take k)=0:=by
  apply Av;intro h;exact h ((zlD h).symm.trans n)
 have u:=zjI n (fun c t=>zjM m t);have i:ceL (cs.getD k default)∈cesL cs:=by
  rw[<-zlT b];have e:(cesL cs).getD k default=(cesL cs)[k]'(by rw[za8];exact b):=by simp[List.getD,za8,b]
  rw[e];exact AM _
 have a:=((u _ i).num (by decide)).2 rfl;have d:=zv1 (cs:=cs) (k:=k) (by omega);rcases hg:cs.getD k default with⟨x,s⟩
 rw[hg]at a;have a:x<=1:=a;obtain⟨z,A⟩:=zpW m b g hg a;by_cases f:k%8=0
 .have r:=z f;refine⟨0,x,rfl,a,BP _,?_,?_,?_⟩
  .rw[Ae,d,BN];omega
  .unfold List.getD;rw[Cl (by omega),List.getElem?_replicate];split<;>rfl
  rw[r,f,List.set_append_right _ _ (by omega),d,show k/8-(k+7)/8=0 from by omega,show M-(k+7)/8=(M-(k+1+7)/8)+1 from by omega,C3];simp
 obtain⟨l,y,j,v,w⟩:=A f;have p:l.length=k/8:=by
  have:=congrArg List.length j;rw[d,Ae,AN]at this;omega
 refine⟨y.toNat,x,rfl,a,v,?_,?_,?_⟩
 .rw[Ae,d];omega
 .rw[j,An,<-p];simp[List.getD]
 rw[j,w,<-p,show(k+1+7)/8=(k+7)/8 from by omega];simp
def zhW(v:Value)(cs:List CellB)(w:World)(S:RdE w v cs)(hC:CES cs)(hE:errK 2 (cesL cs)=0)(hs:10*cs.length<=1000000) :Calls prog 231 #[v] w (RetB w (wrC 2 (cesL cs))):=by
 have G:=S.len;have ab:=S.small;obtain⟨n,Z⟩:=nm_ cs.length;rw[<-Z]at G ab hs;obtain⟨M,hM⟩:=nm_ ((n+7)/8);have I:=zfD (((n:Int)+8-1)/8) (by omega) (by omega);rw[show(((n:Int)+8-1)/8).toNat=M from by omega]at I;have U:=h_ Z;have HV:=h_ S;have HC:=h_ hC;have N:=h_ hM;have HE:=h_ hE;clear S hC Z hM hE;go_enter func231,ntmps231;have m:=h_ (show Lz w (w.alloc (.cells (za7 (List.replicate M 0)).toArray 5))from(Ac _ w).alloc l_ _);have h:=h_ (show Own (w.alloc (.cells (za7 (List.replicate M 0)).toArray 5)) w.heap.size (.slice (some ⟨w.heap.size,0,none⟩) M M) (List.replicate M 0)from by
  have:=zkS w w.heap.size l_ (List.replicate M 0) (by rw[BN];have:=N.o;unfold maxLen;omega);rw[BN]at this;exact this)
 go_wp2;generalize w.alloc (.cells (za7 (List.replicate M 0)).toArray 5)=w1 at *;obtain⟨Q,p⟩:=nm_ (Value.slice (some ⟨w.heap.size,0,none⟩) M M);rw[<-p]at h ⊢;clear p I;go_loopw [14] (fun i wr=>∃k:Nat,k<=n/\i=.int .i64 k/\Hid (Lz w wr)/\Hid (Own wr w.heap.size Q (wrC 2 ((cesL cs).take k)++List.replicate (M-(k+7)/8) 0))) (fun i _=>n-(intOf i).toNat)
 case atStart=>exact⟨0,by omega,rfl,m,h_ (by rw[AU,zo8];exact h.o)⟩
 obtain⟨k,hk,rfl,L,O⟩:=hrel;clear m h;by_cases H:k<n
 .have kl:k<cs.length:=by rw[<-U.o];exact H
  have hr:=HV.later L.o l_;obtain⟨b,o,ak,a,ai⟩:=hr.get kl;obtain⟨u,z⟩:=a _ hr;obtain⟨y,x,hx,ae,hy,l,J,g⟩:=zDH (M:=M) HC.o HE.o kl (by rw[<-U.o];exact N.symm);rcases hcg:cs.getD k default with⟨d,s⟩
  rw[hcg]at hx u z;obtain rfl:d=x:=hx;dsimp only at u z;have ad:(wrC 2 ((cesL cs).take k)++List.replicate (M-(k+7)/8) 0).length<=140737488351232:=by
   rw[Ae,zv1 (by omega),BN];have:=N.o;omega
  generalize wrC 2 ((cesL cs).take k)++List.replicate (M-(k+7)/8) 0=t at *;obtain⟨ac,D,j⟩:=O.set l (UInt8.ofNat (y+2^(k%8)*d));have e:=O.rd ad;have Y:=e.idx (k/8) l;have f:=e.cells (k/8) l;have C:(wr.alloc (.cells #[.int .u64 (d:Int),.string s] 65)).cell? (adr Q (k/8))=some (.int .u8 (at8 t (k/8))):=by
   rw[Bi (w:=wr) (AS _ _ _ (e.block l))];exact f
  rw[show at8 t (k/8)=(y:Int)from by unfold at8;rw[J]]at C;rw[show((k/8:Nat):Int)=(k:Int)/8 from by omega]at Y;have aj:(wr.alloc (.cells #[.int .u64 (d:Int),.string s] 65)).frozen? (adr Q (k/8))=false:=by
   rw[World.frozen?_of_block (w:=wr) (AS _ _ _ (e.block l))];exact D
  have ar:=zIA (r:=k%8) (by omega) hy ae;have c:=(O.alloc (.cells #[.int .u64 (d:Int),.string s] 65)).set l (UInt8.ofNat (y+2^(k%8)*d));have A:cellB (UInt8.ofNat (y+2^(k%8)*d))=.int .u8 (((y:Int)+2^(k%8)*(d:Int))%256):=by
   unfold cellB;rw[UInt8.toNat_ofNat'];simp
  rw[g,A]at c;have X:=h_ c.1;have an:=h_ j;have T:=h_ (((L.alloc (o:=.cells #[.int .u64 (d:Int),.string s] 65) L.size).setCell j (.int .u8 (((y:Int)+2^(k%8)*(d:Int))%256))));clear A f D ac g hcg hr a J c j;go_wp2_with fail;go_region;go_wp2;go_roundw
  case rel=>exact⟨k+1,by omega,by go_num,h_ T.drew,h_ X.drew⟩
  simp[intOf];omega
 obtain rfl:k=n:=by omega
 have E:(cesL cs).take k=cesL cs:=Am (by rw[za8,<-U.o];exact l_);have V:=h_ (show Own wr w.heap.size Q (wrC 2 (cesL cs)) by
  have:=O.o;rw[E,N.o,BT,List.replicate_zero,AV]at this;exact this)
 clear E H;go_wp2;go_ret;exact⟨_,rfl,V.o,L.o⟩
/- -/
def zEW{kind:Int}{l:List Ce}(h:errK kind l=0):errK kind (l.take k)=0:=by
 apply Av;intro a;exact a ((zlD a).symm.trans h)
def zdX(kind:Int)(hk:kind=3\/kind=4)(v:Value)(cs:List CellB)(w:World)(hv:RdE w v cs)(hC:CES cs)(hE:errK kind (cesL cs)=0)(hs:10*cs.length+sumT (cesL cs)<=1000000) :Calls prog 233 #[v] w (RetB w (wrC kind (cesL cs))):=by
 have aE:=hv.len;have aX:=hv.small;obtain⟨n,hn⟩:=nm_ cs.length;rw[<-hn]at aE aX;have HN:=h_ hn;have HV:=h_ hv;have HC:=h_ hC;have HS:=h_ hs;have HE:=h_ hE;have HK:=h_ hk;have ae:=h_ (Ac w.heap.size w);clear hv hC hs hn hE hk;go_enter func233,ntmps233;go_wp2;go_loopw [3,4,10] (fun b a i wr=>∃k:Nat,k<=n/\i=.int .i64 k/\a=.string (lstB cs k).2/\Hid (Lz w wr)/\Hid (Own wr w.heap.size b (wrC kind ((cesL cs).take k)))) (fun _ _ i _=>n-(intOf i).toNat)
 case atStart=>exact⟨0,by omega,rfl,rfl,ae,h_ (by rw[AU,zo8];exact zaE _ _)⟩
 clear ae;obtain⟨k,hk,rfl,rfl,HB,HO⟩:=hrel;by_cases aF:k<n
 .have kl:k<cs.length:=by rw[<-HN.o];exact aF
  have hr:=HV.later HB.o l_;obtain⟨b,o,bb,p,ba⟩:=hr.get kl;obtain⟨az,aA⟩:=p _ hr;obtain⟨g1,g2⟩:=CES.get HC.o kl;have h2:kind≠2:=by rcases HK.o with h|h<;>omega
  have S:=h_ (zj8 h2 kl);have ak:=h_ (show lstB cs (k+1)=cs.getD k default from by unfold lstB;rw[Aa (by omega),Bv]);have aB:ceL (cs.getD k default)∈cesL cs:=by
   rw[<-zlT kl];have e:(cesL cs).getD k default=(cesL cs)[k]'(by rw[za8];exact kl):=(by simp[List.getD,za8,kl]);rw[e];exact AM _
  have r:=zjI HE.o (fun c hc=>zjM HC.o hc) _ aB;have f:=h_ (zeT HC.o (zEW (k:=k) HE.o));have f:=h_ (show(wrC kind ((cesL cs).take k)).length<=1000000 by have:=f.o;have:=HS.o;omega);rcases hcg:cs.getD k default with⟨x,s⟩
  rw[hcg]at ak S az aA g1 g2 r;dsimp only at az aA g1 g2;have hS:=zdA g2;obtain⟨t,ht⟩:=nm_ s.data.toList;have HT:=h_ ht;rw[<-ht]at hS;have X:=h_ hS;rcases hlg:lstB cs k with⟨px,ps⟩
  rw[hlg]at S;have ap:=h_ (zdA (zBQ HC.o (show k<=cs.length by omega) hlg));obtain⟨pl,ab⟩:=nm_ ps.data.toList;have ao:=h_ (show pc kind k (ceL (px,ps)) (ceL (x,s))=encU (shr pl t)++encB (t.drop (shr pl t)) by rw[zkN HK.o];unfold ceL;rw[ab,ht]);rw[<-ab]at ap;have bh:t.length<=256:=by
   have:=(r.text HK.o).2.1;rw[show(ceL (x,s)).2=s.data.toList from rfl,<-ht]at this;exact this
  have aY:s.size=t.length:=X.size9;have ag:=h_ (show Lz w (wr.alloc (.cells #[.int .u64 (x:Int),.string s] 65))from HB.alloc HB.size _);have am:=h_ (show Own (wr.alloc (.cells #[.int .u64 (x:Int),.string s] 65)) w.heap.size u3 (wrC kind ((cesL cs).take k))from HO.alloc _);have aq:=h_ (show(wr.alloc (.cells #[.int .u64 (x:Int),.string s] 65)).heap[wr.heap.size]?=some (.cells #[.int .u64 (x:Int),.string s] 65 (0,0))from AB _ _);have M:=h_ (show w.heap.size<=wr.heap.size/\wr.heap.size<(wr.alloc (.cells #[.int .u64 (x:Int),.string s] 65)).heap.size by rw[Az];have:=HB.size;omega);clear hr p hcg hlg ab ht hS aB r g2 HB HO h2;go_wp2_with fail;generalize (wr.alloc (.cells #[.int .u64 (x:Int),.string s] 65))=w6 at *;generalize wr.heap.size=gp at *;refine(zh8 ps s pl t _ ap.o X.o).mono ?_;rintro e a1⟨rfl,d⟩;have A:=bT ag d;have C:=h_ (am.later d l_);have E:=h_ ((d.block gp (by have:=M.o;omega)).trans aq.o);have j:=h_ (show w.heap.size<=gp/\gp<a1.heap.size by have:=M.o;have:=d.size;omega);clear d ag am aq M;obtain⟨aR,aS⟩:=zqF pl t;obtain⟨N,hN⟩:=nm_ (shr pl t);rw[<-hN]at aR aS ao ⊢;have aa:=h_ (zaA N (by omega));clear hN;go_wp2_with fail;refine(zcW (N:Int) (by omega) (by omega) _).mono ?_;rintro e w7⟨yv,rfl,Y,d⟩;rw[Aw]at Y;have ah:=bT A d;have T:=h_ (C.later d l_);have U:=h_ ((d.block gp (by have:=j.o;omega)).trans E.o);have u:=h_ (show w.heap.size<=gp/\gp<w7.heap.size by have:=j.o;have:=d.size;omega);have hY:=Y.rd (by have:=aa.o;omega);have au:=h_ hY;clear d Y hY A C E j;go_wp2_with (with_reducible refine wpl_append w.heap.size _ _ ?hs T.o _ (encU N) ?hx au.o ?hn ?hbase w.heap.size w ah.o l_ ?_)
  case hs=>rfl
  case hx=>rfl
  case hn=>have:=f.o;have:=aa.o;omega
  case hbase=>have:=u.o;omega
  intro v8 w8 aw av Z;have ai:=h_ av;have an:=h_ aw;have V:=h_ ((Z.block gp (by have:=u.o;omega) (fun e=>zbV T.o U.o _ e.symm rfl)).trans U.o);have O:=h_ (show w.heap.size<=gp/\gp<w8.heap.size by have:=u.o;have:=Z.size;omega);clear aw av Z T ah U u au;have e1:w8.cell? ⟨gp,1,none⟩=some (.string s):=by rw[Ag _ _ _ _ _ _ V.o];rfl
  have aQ:=h_ (X.dropS N);obtain⟨bv,w9,aG,ax,d⟩:=zdE aQ.o w8;rw[aY]at aG;have aj:=bT ai d;have y:=h_ (an.later d l_);have ar:=h_ ((d.block gp (by have:=O.o;omega)).trans V.o);have Q:=h_ (show w.heap.size<=gp/\gp<w9.heap.size by have:=O.o;have:=d.size;omega);clear d ai an V O;have aP:=h_ ax;have aV:(t.drop N).length<=256:=by rw[Ay];omega
  have aD:=h_ (show(encB (t.drop N)).length<=10+256 by rw[zbG];have:=zaA (t.drop N).length (by omega);omega);clear ax aV;go_wp2_with fail;refine(zhE bv (t.drop N) w9 aP.o).mono ?_;rintro e a0⟨y2,rfl,I,d⟩;have z:=bT aj d;have l:=h_ (y.later d l_);have m:=h_ ((d.block gp (by have:=Q.o;omega)).trans ar.o);have g:=h_ (show w.heap.size<=gp/\gp<a0.heap.size by have:=Q.o;have:=d.size;omega);have hY:=I.rd (by have:=aD.o;omega);have G:=h_ hY;clear d I hY aj y ar Q;go_wp2_with (with_reducible refine wpl_append w.heap.size _ _ ?hs l.o _ (encB (t.drop N)) ?hx G.o ?hn ?hbase w.heap.size w z.o l_ ?_)
  case hs=>rfl
  case hx=>rfl
  case hn=>have:=f.o;have:=aD.o;rw[Ae];have:=aa.o;omega
  case hbase=>have:=g.o;omega
  intro aZ aI J H L;have af:=h_ H;have D:=h_ ((L.block gp (by have:=g.o;omega) (fun e=>zbV l.o m.o _ e.symm rfl)).trans m.o);have y:=h_ (show Own aI w.heap.size aZ (wrC kind ((cesL cs).take (k+1)))from by rw[S.o,ao.o,<-An];exact J);clear J H L l z m g G;have e1:aI.cell? ⟨gp,1,none⟩=some (.string s):=by rw[Ag _ _ _ _ _ _ D.o];rfl
  have al:=h_ (show Value.string s=.string (lstB cs (k+1)).2 by rw[ak.o]);clear D;go_wp2;go_roundw
  case rel=>exact⟨k+1,by omega,by go_num,al.o,af,y⟩
  simp[intOf];omega
 obtain rfl:k=n:=by omega
 have aC:(cesL cs).take k=cesL cs:=Am (by rw[za8,<-HN.o];exact l_);have aO:=h_ (show Own wr w.heap.size u3 (wrC kind (cesL cs)) by have:=HO.o;rw[aC]at this;exact this);clear aC aF;go_wp2;go_ret;exact⟨_,rfl,aO.o,HB.o⟩
end
section
open _root_.Go.Proofs.Tryz
structure OwnM(w:World)(base gP:Nat)(ts:List TriB):Prop where
 blk:w.heap[gP]?=some (.cells (ts.map triV).flatten.toArray 69 (0,0))
 lo:base<=gP
 few:ts.length<=1024
 rows:∀(i:Nat)(t:TriB),ts[i]?=some t->OwnE w (gP+1) t.1 t.2.1
 wide:∀t∈ts,t.2.1.length<=1024
 apart:∀(i j:Nat)(t u:TriB)(q:Nat),ts[i]?=some t->ts[j]?=some u->i≠j->t.1.ownBlock=some q->u.1.ownBlock≠some q
def zp7:∀(ts:List TriB)(i:Nat)(t:TriB),i<ts.length->((ts.map triV).flatten.set (2*i) t.1).set (2*i+1) (.int .i64 t.2.2)=((ts.set i t).map triV).flatten
 | [],i,t,h=>by simp at h
 | u::r,0,t,h=>by simp[triV]
 | u::r,i+1,t,h=>by
  have ih:=zp7 r i t (by simpa using h);rw[Bc,AT,AT,Bt,Bt,<-ih];have e:triV u++(r.map triV).flatten=u.1::.int .i64 u.2.2::(r.map triV).flatten:=rfl;have a:∀l:List Value,triV u++l=u.1::.int .i64 u.2.2::l:=fun _=>rfl;rw[e,a,show 2*(i+1)=2*i+1+1 from by omega,Bc,Bc,Bc,Bc]
def flat_get:∀(ts:List TriB)(i:Nat)(t:TriB),ts[i]?=some t->(ts.map triV).flatten[2*i]?=some t.1/\(ts.map triV).flatten[2*i+1]?=some (.int .i64 t.2.2)
 | [],i,t,h=>by simp at h
 | u::r,0,t,h=>by
  obtain rfl:u=t:=by simpa using h
  exact⟨rfl,rfl⟩
 | u::r,i+1,t,h=>by
  obtain⟨a,b⟩:=flat_get r i t (by simpa using h);rw[AT,Bt];show([u.1,Value.int .i64 u.2.2]++(r.map triV).flatten)[2*(i+1)]?=_/\([u.1,Value.int .i64 u.2.2]++(r.map triV).flatten)[2*(i+1)+1]?=_;rw[show 2*(i+1)=2*i+2 from by omega];exact⟨by simpa using a,by simpa using b⟩
def _root_.List.set_getElem?_self9{α:Type}{l:List α}{i:Nat}{x:α}(h:l[i]?=some x):l.set i x=l:=by
 apply List.ext_getElem?;intro j;rw[CH];split
 ·rename_i e;subst e;rw[h,Ab (AG.1 h).1]
 rfl
def zET(ts:List TriB)(i:Nat)(t u:TriB)(a:ts[i]?=some t)(d:u.2.2=t.2.2):(ts.map triV).flatten.set (2*i) u.1=((ts.set i u).map triV).flatten:=by
 have c:=(AG.1 a).1;rw[<-zp7 ts i u c];obtain⟨_,b⟩:=flat_get ts i t a;rw[d];symm;apply List.set_getElem?_self9;rw[BW (by omega)];exact b
section
variable{w w':World}{base gP:Nat}{ts:List TriB}
def OwnM.cell(h:OwnM w base gP ts){i:Nat}{t:TriB}(c:ts[i]?=some t):w.cell? ⟨gP,2*i,none⟩=some t.1/\w.cell? ⟨gP,2*i+1,none⟩=some (.int .i64 t.2.2)/\w.frozen? ⟨gP,2*i,none⟩=false/\w.frozen? ⟨gP,2*i+1,none⟩=false:=by
 obtain⟨a,b⟩:=flat_get ts i t c;refine⟨?_,?_,At _ _ _ _ _ h.blk,At _ _ _ _ _ h.blk⟩
 .rw[Ag _ _ _ _ _ _ h.blk,Ck];exact a
 rw[Ag _ _ _ _ _ _ h.blk,Ck];exact b
def OwnM.lt(h:OwnM w base gP ts):gP<w.heap.size:=(Aj.1 h.blk).1
variable {i:Nat} {t:TriB}
def OwnM.aside(h:OwnM w base gP ts){r:Option Nat}(a:w.grownBy w' r)(c:∀q,r=some q->q≠gP/\∀t∈ts,t.1.ownBlock≠some q):OwnM w' base gP ts:=by
 refine⟨(a.block gP h.lt (fun e=>(c gP e.symm).1 rfl)).trans h.blk,h.lo,h.few,fun i t b=>?_,h.wide,h.apart⟩;refine(h.rows i t b).grown a (fun k d e=>?_);exact(c k e.symm).2 t (AZ b) d
def OwnM.later(h:OwnM w base gP ts)(a:Lz w w'):OwnM w' base gP ts :=
 h.aside (r:=none) ⟨a.os,a.tape,a.output,a.size,fun j b _=>a.block j b⟩ (fun q e=>by cases e)
def OwnM.grow(h:OwnM w base gP ts)(p:ts[i]?=some t){rv:Value}{c:CellB}(D:OwnE w' (gP+1) rv (t.2.1++[c]))(G:w.grownBy w' t.1.ownBlock)(hp:rv.ownBlock=t.1.ownBlock\/∀q,rv.ownBlock=some q->w.heap.size<=q)(J:t.2.1.length+1<=1024) :OwnM (w'.setCell ⟨gP,2*i,none⟩ rv) base gP (ts.set i (rv,(t.2.1++[c],t.2.2))):=by
 have I:=(AG.1 p).1;have r:=h.rows i t p;have y:∀q,t.1.ownBlock=some q->gP+1<=q/\q<w.heap.size:=fun q f=>OwnE.lt r f;have m:w'.heap[gP]?=some (.cells (ts.map triV).flatten.toArray 69 (0,0)):=(G.block gP h.lt (fun e=>by have:=y gP e.symm;omega)).trans h.blk;have n:w'.grownBy (w'.setCell ⟨gP,2*i,none⟩ rv) (some gP):=za0 (World.grownBy.refl _ _) _;refine⟨?_,h.lo,by rw[Be];exact h.few,fun j u d=>?_,fun u A=>?_,fun j k a b q d g v f=>?_⟩
 .rw[block_setCell m rv];rw[A8,zET ts i t (rv,(t.2.1++[c],t.2.2)) p rfl]
 .rw[CH]at d;split at d
  .rename_i e;subst e;injection d with d
   subst d;exact D.grown n (fun q f e=>by injection e with e;have:=(OwnE.lt D f).1;omega)
  rename_i e;have C:=h.rows j u d;refine(C.grown G (fun q f s=>?_)).grown n (fun q f s=>?_)
  .exact h.apart j i u t q d p (fun H=>e H.symm) f (s.symm)
  injection s with s;have:=(OwnE.lt C f).1;omega
 .rcases Bu A with A|rfl
  .exact h.wide u A
  show(t.2.1++[c]).length<=1024;rw[Ae,AN];exact J
 have key:∀(k:Nat)(b:TriB)(q:Nat),k≠i->ts[k]?=some b->rv.ownBlock=some q->b.1.ownBlock≠some q:=fun k b q x E f l=>by
  rcases hp with e|e
  .exact h.apart k i b t q E p x l (by rw[<-e];exact f)
  have:=e q f;have:=(OwnE.lt (h.rows k b E) l).2;omega
 rw[CH]at d g;split at d
 .rename_i ej;injection d with d
  subst d;rw[Aa (by omega)]at g;exact key k b q (by omega) g f
 rename_i ej;split at g
 .rename_i ek;injection g with g
  subst g;intro z;exact key j a q (by omega) d z f
 exact h.apart j k a b q d g v f
def OwnM.put(h:OwnM w base gP ts)(r:ts[i]?=some t)(x:Int):OwnM (w.setCell ⟨gP,2*i+1,none⟩ (.int .i64 x)) base gP (ts.set i (t.1,(t.2.1,x))):=by
 have s:=(AG.1 r).1;have p:w.grownBy (w.setCell ⟨gP,2*i+1,none⟩ (.int .i64 x)) (some gP):=za0 (World.grownBy.refl _ _) _;have c:∀(j:Nat)(u:TriB),(ts.set i (t.1,(t.2.1,x)))[j]?=some u->∃f,ts[j]?=some f/\f.1=u.1/\f.2.1=u.2.1:=fun j u d=>by
  rw[CH]at d;split at d
  .rename_i e;subst e;injection d with d
   subst d;exact⟨t,r,rfl,rfl⟩
  exact⟨u,d,rfl,rfl⟩
 refine⟨?_,h.lo,by rw[Be];exact h.few,fun j u d=>?_,fun u I=>?_,fun j k a b q d H v y=>?_⟩
 .rw[block_setCell h.blk _,A8,<-zp7 ts i (t.1,(t.2.1,x)) s];have:=(flat_get ts i t r).1;rw[List.set_getElem?_self9 (l:=(ts.map triV).flatten) (i:=2*i) (x:=t.1) this]
 .obtain⟨f,g,G,m⟩:=c j u d;have n:=h.rows j f g;rw[G,m]at n;exact n.grown p (fun q y e=>by injection e with e;have:=(OwnE.lt n y).1;omega)
 .obtain⟨j,d⟩:=AW I;obtain⟨f,g,_,m⟩:=c j u d;rw[<-m];exact h.wide f (AZ g)
 obtain⟨z,A,C,_⟩:=c j a d;obtain⟨b',D,E,_⟩:=c k b H;rw[<-E];exact h.apart j k z b' q A D v (by rw[C];exact y)
def zxP{v:Value}{cs:List CellB}{a:Nat}(h:OwnE w a v cs):∀i,i<cs.length->a<=(adr v (i*2)).block:=by
 intro i e;rcases h.1.2 with⟨rfl,d⟩|⟨q,cap,b,rfl,c,_⟩
 .rw[Ad]at d;omega
 rw[zaF];exact c
def OwnM.own(h:OwnM w base gP ts):OwnG pairE w base (.slice (some ⟨gP,0,none⟩) ts.length ts.length) (ts.map triV):=by
 have e:∀x∈ts.map triV,x.length=pairE.n:=fun x b=>by
  obtain⟨t,_,rfl⟩:=Au.1 b;rfl
 have a:(ts.map triV).flatten.length=(ts.map triV).length*pairE.n:=zbN _ e;have c:=h.few;have:=h.blk;rw[show(ts.map triV).length=ts.length from Ad ..]at a;refine⟨⟨by rw[a,Ad],.inr ⟨gP,ts.length,(ts.map triV).flatten.toArray,by rw[Ad],h.lo,h.blk,by rw[Ad];exact l_,by unfold maxLen;omega,?_,?_⟩⟩,e,fun x b u g=>?_⟩
 .show(ts.map triV).flatten.toArray.size=ts.length*pairE.n;rw[Br];exact a
 .show(ts.map triV).flatten.toArray.toList.take ((ts.map triV).length*pairE.n)=(ts.map triV).flatten;rw[Ad,<-a,List.toList_toArray,Bo]
 obtain⟨t,d,rfl⟩:=Au.1 b;obtain⟨i,f⟩:=AW d;exact zcP ((h.rows i t f).rd (by have:=h.wide t d;omega)) u g
def OwnM.new(h:OwnM w base gP ts):NewP w base (.slice (some ⟨gP,0,none⟩) ts.length ts.length) (ts.map (·.2)):=by
 refine⟨ts,rfl,h.own.rd (by rw[Ad];have:=h.few;omega),fun i b=>by rw[zaF];exact h.lo,fun t c=>?_⟩;obtain⟨i,b⟩:=AW c;have a:=h.rows i t b;exact⟨a.rd (by have:=h.wide t c;omega),fun j d=>Ar (by have:=h.lo;omega) (zxP a j d)⟩
def OwnM.len(h:OwnM w base gP ts):∀u,(Builtin.len_ #[33] 3 #[.slice (some ⟨gP,0,none⟩) ts.length ts.length]).run prog u=.ok (.int .i64 (ts.length:Int)) u:=by
 have:=h.new.rd.len;rw[Ad]at this;exact this
def OwnM.idx(h:OwnM w base gP ts){i:Nat}(a:i<ts.length):∀u,(Instr.indexAt 33 (.slice (some ⟨gP,0,none⟩) ts.length ts.length) (.int .i64 (i:Int))).run prog u=.ok (.pointer (some ⟨gP,2*i,none⟩)) u:=by
 have:=RdG.idx (h.own.rd (by rw[Ad];have:=h.few;omega)) zaX i (by rw[Ad];exact a);rw[zaF]at this;rw[show(0+i*pairE.n:Nat)=2*i from by show 0+i*2=2*i;omega]at this;exact this
def OwnM.made(w:World)(base n:Nat)(b:base<=w.heap.size)(d:n<=1024):OwnM (w.alloc (.cells (List.replicate n (triV (.slice none 0 0,([],0)))).flatten.toArray 69)) base w.heap.size (List.replicate n (.slice none 0 0,([],0))):=by
 rw[<-CD];refine⟨AB _ _,b,by rw[BN];exact d,fun i t a=>?_,fun t f=>?_,fun i j t u q a g c e=>?_⟩
 .have:=BO (AZ a);subst this;exact OwnE.nil _ _
 .have:=BO f;subst this;simp
 have:=BO (AZ a);subst this;cases e
end
/- -/
def zrK:(prog.info? 69).map (fun i=>(i.zero,i.size,i.bytes))=some (some (.agg #[.slice none 0 0,.int .i64 0]),2,32):=by kernel_rfl
def zl7:∀n:Nat,((List.replicate n ((.slice none 0 0,([],0)):TriB)).map triV).flatten=(List.range (n*2)).map (fun i=>(#[Value.slice none 0 0,.int .i64 0]:Array Value)[i%2]!)
 | 0=>rfl
 | n+1=>by
  rw[C3,AT,Bt,zl7 n,show(n+1)*2=n*2+1+1 from by omega,Ci,AT,Ci,AT,A6,AT,A6];show Value.slice none 0 0::Value.int .i64 0::_=_;congr 1;congr 1;refine BI fun i _=>?_;simp only[Function.comp];rw[show(Nat.succ (Nat.succ i))%2=i%2 from by omega]
def zxX(n:Nat)(j:n<=1024)(u:World):(Instr.makeSlice 33 (.int .i64 (n:Int)) (.int .i64 (n:Int))).run prog u = .ok (.slice (some ⟨u.heap.size,0,none⟩) n n) (u.alloc (.cells (List.replicate n (triV (.slice none 0 0,([],0)))).flatten.toArray 69)):=by
 obtain⟨e,d,a,b,c⟩:=info_parts zrK;have h:=run_make (P:=prog) u 33 69 e (.agg #[.slice none 0 0,.int .i64 0]) underlying33 d a .i64 .i64 (n:Int) (n:Int) (by omega) (Int.le_refl _) (by rw[c];omega) (by omega);rw[h,b,Aw,<-CD,zl7];congr 3;simp[madeCells,Value.cells];apply Array.ext
 .simp
 intro i f g;simp
/- -/
def zeN(kind:Int)(w:World)(c:Tabs w) :Calls prog 200 #[.int .i64 kind] w fun e w'=>e=.returned (.int .i64 ((if kind<0\/5<kind then 10 else 0:Nat):Int))/\Lz w w':=by
 have a:=zcV kind 0 ⟨#[]⟩ [] w ⟨rfl,by simp⟩ c;have e:checkC kind 0 []=if kind<0\/5<kind then 10 else 0:=by
  by_cases h:kind<0\/5<kind
  .unfold checkC;rw[Ab h,Ab h]
  rw[Aa h];by_cases f:kind=3\/kind=4
  .exact zgH f (by simp) (fun _=>zjA)
  exact zdZ (by omega) f (fun _=>by decide)
 rw[e]at a;unfold cellV at a;generalize (if kind<0\/5<kind then 10 else 0:Nat)=y at *;have b:=h_ a;clear a e c;go_enter func200,ntmps200;go_wp2_with fail;refine b.mono ?_;rintro e i⟨rfl,d⟩;have g:=h_ d;clear d b;go_wp2;go_ret;exact⟨rfl,g.o⟩
def codecW(kind:Int):Nat:=if kind=0 then 227 else if kind=2 then 231 else if kind=3\/kind=4 then 233 else 229
def codecT(kind:Int):Nat:=if kind=0 then 228 else if kind=2 then 232 else if kind=3 then 234 else if kind=4 then 235 else 230
def zlQ(w:World) :Calls prog 201 #[.int .i64 0] w fun e w'=>e=.returned (.agg #[.func (.func (codecW 0)) #[] #[],.func (.func (codecT 0)) #[] #[]])/\Lz w w':=by
 go_enter func201,ntmps201;go_wp2;refine bodyPost_ret (by simp[results,results201,go_sem];try rfl) rfl ?_;exact⟨rfl,((Ac _ _).alloc l_ _).alloc (by simp) _⟩
def zlP(w:World) :Calls prog 201 #[.int .i64 1] w fun e w'=>e=.returned (.agg #[.func (.func (codecW 1)) #[] #[],.func (.func (codecT 1)) #[] #[]])/\Lz w w':=by
 go_enter func201,ntmps201;go_wp2;refine bodyPost_ret (by simp[results,results201,go_sem];try rfl) rfl ?_;exact⟨rfl,((Ac _ _).alloc l_ _).alloc (by simp) _⟩
def zlO(w:World) :Calls prog 201 #[.int .i64 2] w fun e w'=>e=.returned (.agg #[.func (.func (codecW 2)) #[] #[],.func (.func (codecT 2)) #[] #[]])/\Lz w w':=by
 go_enter func201,ntmps201;go_wp2;refine bodyPost_ret (by simp[results,results201,go_sem];try rfl) rfl ?_;exact⟨rfl,((Ac _ _).alloc l_ _).alloc (by simp) _⟩
def zlN(w:World) :Calls prog 201 #[.int .i64 3] w fun e w'=>e=.returned (.agg #[.func (.func (codecW 3)) #[] #[],.func (.func (codecT 3)) #[] #[]])/\Lz w w':=by
 go_enter func201,ntmps201;go_wp2;refine bodyPost_ret (by simp[results,results201,go_sem];try rfl) rfl ?_;exact⟨rfl,((Ac _ _).alloc l_ _).alloc (by simp) _⟩
def zlM(w:World) :Calls prog 201 #[.int .i64 4] w fun e w'=>e=.returned (.agg #[.func (.func (codecW 4)) #[] #[],.func (.func (codecT 4)) #[] #[]])/\Lz w w':=by
 go_enter func201,ntmps201;go_wp2;refine bodyPost_ret (by simp[results,results201,go_sem];try rfl) rfl ?_;exact⟨rfl,((Ac _ _).alloc l_ _).alloc (by simp) _⟩
def zlL(w:World) :Calls prog 201 #[.int .i64 5] w fun e w'=>e=.returned (.agg #[.func (.func (codecW 5)) #[] #[],.func (.func (codecT 5)) #[] #[]])/\Lz w w':=by
 go_enter func201,ntmps201;go_wp2;refine bodyPost_ret (by simp[results,results201,go_sem];try rfl) rfl ?_;exact⟨rfl,((Ac _ _).alloc l_ _).alloc (by simp) _⟩
def zfT(kind:Int)(a:0<=kind/\kind<=5)(w:World) :Calls prog 201 #[.int .i64 kind] w fun e w'=>e=.returned (.agg #[.func (.func (codecW kind)) #[] #[],.func (.func (codecT kind)) #[] #[]])/\Lz w w':=by
 obtain rfl|rfl|rfl|rfl|rfl|rfl:kind=0\/kind=1\/kind=2\/kind=3\/kind=4\/kind=5:=by omega
 .exact zlQ w
 .exact zlP w
 .exact zlO w
 .exact zlN w
 .exact zlM w
 exact zlL w
def zpA(kind:Int)(args:Array Value)(u:World):(callFunc (codecW kind) args).run prog u=.ok (.enter (codecW kind) args) u:=by
 unfold codecW;split
 ·exact zd1 func227 (by kernel_rfl) rfl args u
 split
 ·exact zd1 func231 (by kernel_rfl) rfl args u
 split
 ·exact zd1 func233 (by kernel_rfl) rfl args u
 exact zd1 func229 (by kernel_rfl) rfl args u
def zpB(kind:Int)(args:Array Value)(u:World):(callFunc (codecT kind) args).run prog u=.ok (.enter (codecT kind) args) u:=by
 unfold codecT;split
 ·exact zd1 func228 (by kernel_rfl) rfl args u
 split
 ·exact zd1 func232 (by kernel_rfl) rfl args u
 split
 ·exact zd1 func234 (by kernel_rfl) rfl args u
 split
 ·exact zd1 func235 (by kernel_rfl) rfl args u
 exact zd1 func230 (by kernel_rfl) rfl args u
/- -/
def zpI(kind:Int)(e:0<=kind/\kind<=5)(v:Value)(cs:List CellB)(w:World)(b:RdE w v cs)(a:CES cs)(c:errK kind (cesL cs)=0)(d:10*cs.length+sumT (cesL cs)<=1000000) :Calls prog (codecW kind) #[v] w (RetB w (wrC kind (cesL cs))):=by
 obtain rfl|rfl|rfl|rfl|rfl|rfl:kind=0\/kind=1\/kind=2\/kind=3\/kind=4\/kind=5:=by omega
 .exact zj1 v cs w b a (by omega)
 .exact zdW 1 (.inl rfl) v cs w b a (by omega)
 .exact zhW v cs w b a c (by omega)
 .exact zdX 3 (.inl rfl) v cs w b a c d
 .exact zdX 4 (.inr rfl) v cs w b a c d
 exact zdW 5 (.inr rfl) v cs w b a (by omega)
def zs5(kind:Int)(v:Value)(cs:List CellB)(w:World)(X:RdE w v cs)(hC:CES cs)(hT:Tabs w)(hs:wrE kind (cesL cs)=0->10*cs.length+sumT (cesL cs)<=1000000) :Calls prog 162 #[.int .i64 kind,v] w (WrK w kind cs):=by
 have c:=h_ (zeN kind w hT);by_cases D:kind<0\/5<kind
 .rw[Ab D]at c;have HE:=h_ (show wrE kind (cesL cs)=10 by unfold wrE;rw[Ab D]);clear X hC hT hs D;go_enter func162,ntmps162;go_wp2_with fail;refine c.mono ?_;rintro e w1⟨rfl,a⟩;have p:=h_ a;clear a c;go_wp2;go_ret2;exact⟨_,by rw[HE.o];rfl,by rw[HE.o,Aa (by decide)];exact zaE _ _,p.o⟩
 rw[Aa D]at c;have Q:0<=kind/\kind<=5:=by omega
 have L:=h_ Q;have M:=h_ (show wrE kind (cesL cs)=errK kind (cesL cs) by unfold wrE;rw[Aa D]);have T:=X.len;have aq:=X.small;obtain⟨n,hn⟩:=nm_ cs.length;rw[<-hn]at T aq;have HN:=h_ hn;have HV:=h_ X;have HC:=h_ hC;have HS:=h_ hs;have HT:=h_ hT;clear X hC hs hn D Q hT;go_enter func162,ntmps162;go_wp2_with fail;refine c.mono ?_;rintro e w1⟨rfl,a⟩;have H:=h_ a;clear a c;go_wp2;go_loopw [17] (fun i wr=>∃k:Nat,k<=n/\i=.int .i64 k/\Hid (Lz w wr)/\Hid (errK kind ((cesL cs).take k)=0)) (fun i _=>n-(intOf i).toNat)
 case atStart=>exact⟨0,by omega,rfl,H,h_ rfl⟩
 clear H;obtain⟨k,D,rfl,p,J⟩:=hrel;by_cases U:k<n
 .have kl:k<cs.length:=by rw[<-HN.o];exact U
  have hr:=HV.later p.o l_;obtain⟨b,o,aD,d,aC⟩:=hr.get kl;obtain⟨h,j⟩:=d _ hr;obtain⟨N,O⟩:=zp8 kl J.o;have f:=h_ N;have g:=h_ O;obtain⟨g1,g2⟩:=CES.get HC.o kl;rcases hcg:cs.getD k default with⟨x,s⟩
  rw[hcg]at h j f g g1 g2;dsimp only at h j g1 g2;have hS:=zdA g2;obtain⟨t,ht⟩:=nm_ s.data.toList;have A:=h_ ht;rw[<-ht]at hS;have z:=h_ (show Lz w (wr.alloc (.cells #[.int .u64 (x:Int),.string s] 65))from p.alloc p.size _);have Z:=h_ (zcV kind x s t (wr.alloc (.cells #[.int .u64 (x:Int),.string s] 65)) hS (HT.later (z.o)));unfold cellV at Z;obtain⟨y,hy⟩:=nm_ (checkC kind x t);have HY:=h_ hy;rw[<-hy]at Z;clear hr d N O hcg hS ht g1 g2 hy p;go_wp2_with fail;refine Z.mono ?_;rintro e w4⟨rfl,a⟩;have I:=bT z a;clear a Z z;by_cases E:y=0
  .have av:((y:Int)!=0)=false:=(by rw[bne_eq_false_iff_eq];omega);have af:=h_ (g.o (by rw[<-A.o,<-HY.o];exact E));clear f g h j;go_wp2;go_roundw
   case rel=>exact⟨k+1,by omega,by go_num,I,af⟩
   simp[intOf];omega
  have av:((y:Int)!=0)=true:=by rw[Ao];omega
  have G:=h_ (show wrE kind (cesL cs)=y from by rw[M.o,f.o (by rw[<-A.o,<-HY.o];exact E)];rw[<-A.o,<-HY.o]);clear f g h j;go_wp2;go_ret2;exact⟨_,by rw[G.o];rfl,by rw[G.o,Aa E];exact zaE _ _,I.o⟩
 obtain rfl:k=n:=by omega
 have S:(cesL cs).take k=cesL cs:=Am (by rw[za8,<-HN.o];exact l_);have C:errK kind (cesL cs)=0:=by rw[<-S];exact J.o
 have G:=h_ (show wrE kind (cesL cs)=0 from by rw[M.o];exact C);have ae:=h_ C;have Y:=h_ (zfT kind L.o wr);obtain⟨nf,l⟩:=nm_ (codecW kind);have m:=zpA kind #[v];rw[<-l]at m;rw[<-l]at Y;have ag:=h_ l;obtain⟨nt,V⟩:=nm_ (codecT kind);rw[<-V]at Y;have am:∀u,(Instr.field 290 (.agg #[.func (.func nf) #[] #[],.func (.func nt) #[] #[]]) 0).run prog u=.ok (.func (.func nf) #[] #[]) u:=fun _=>by kernel_rfl
 clear S U l V C;go_wp2_with fail;refine Y.mono ?_;rintro e w2⟨rfl,a⟩;have r:=bT p a;have CW:=h_ (zpI kind L.o v cs w2 (HV.later r.o l_) HC.o ae.o (HS.o G.o));rw[<-ag.o]at CW;clear a Y;go_wp2_with fail;refine CW.mono ?_;rintro e w3⟨bv,rfl,hO,a⟩;have ad:=bT r a;have ah:=h_ (hO.base r.size);clear a hO CW m am;go_wp2;go_ret2;exact⟨_,by rw[G.o];rfl,by rw[G.o,Ab rfl];exact ah.o,ad.o⟩
end
section
open _root_.Go.Proofs.Tryz Go.Shelf
variable {kind:Int} {v:Value} {w w':World}
def RdP.lit12{ps:List PairB}(h:RdP w v ps):∃a n cap,v=.slice a n cap:=by
 obtain⟨ts,_,h,_⟩:=h;obtain⟨a,cap,e,_⟩:=RdG.shape h;exact⟨a,_,cap,e⟩
def RdC.lit12{cs:List ColB}(h:RdC w v cs):∃a n cap,v=.slice a n cap:=by
 obtain⟨a,cap,e,_⟩:=RdG.shape h;exact⟨a,_,cap,e⟩
def Frs(w:World):Prop:=w.cell? ⟨0,0,none⟩=some (.int .i64 2)/\w.cell? ⟨0,1,none⟩=some (.int .i64 1)
def Frs.later(h:Frs w)(a:Lz w w'):Frs w':=⟨za6 a h.1,za6 a h.2⟩
def RdN(w:World)(v:Value)(x:EntB):Prop:=∃pv,v=.agg #[.int .i64 x.1,.int .i64 x.2.1,pv]/\RdP w pv x.2.2
def zdJ(x:Int)(w:World):Calls prog 109 #[.int .i64 x] w fun e w'=>e=.returned (.bool (!decide (x<0\/281474976710656<x)))/\w=w':=by
 by_cases b:x<0
 .have d:decide (x≥0)=false:=Af (by omega);have a:=h_ (show(!decide (x<0\/281474976710656<x))=false from by simp;omega);clear b;go_enter func109,ntmps109;go_wp2;go_ret;exact⟨by rw[a.o];rfl,rfl⟩
 have d:decide (x≥0)=true:=Ah (by omega);by_cases c:281474976710656<x
 .have f:decide (x<=281474976710656)=false:=Af (by omega);have a:=h_ (show(!decide (x<0\/281474976710656<x))=false from by simp;omega);clear b c;go_enter func109,ntmps109;go_wp2;go_ret;exact⟨by rw[a.o];rfl,rfl⟩
 have f:decide (x<=281474976710656)=true:=Ah (by omega);have a:=h_ (show(!decide (x<0\/281474976710656<x))=true from by simp;omega);clear b c;go_enter func109,ntmps109;go_wp2;go_ret;exact⟨by rw[a.o];rfl,rfl⟩
def zy9(s k:Int)(b:0<=s/\s<=281474976710656)(w:World):Calls prog 111 #[.int .i64 s,.int .i64 k] w fun e w'=>e=.returned (.int .i64 (if k=1 then s else s+1))/\w=w':=by
 by_cases a:k=1
 .subst a;rw[Ab rfl];clear b;go_enter func111,ntmps111;go_wp2;go_ret;exact⟨rfl,rfl⟩
 have c:(k==1)=false:=by rw[As];exact a
 rw[Aa a];clear a;go_enter func111,ntmps111;go_wp2;go_ret;exact⟨rfl,rfl⟩
def zJD(k:Int)(w:World)(e:Ending)(w':World):Prop:=(∃x,e=.returned (.tuple #[.int .i64 x,.bool (decide (k=1\/k=2))])/\(k=1\/k=2->x=2-k))/\w=w'
def ziM(k:Int)(w:World)(m:Frs w):Calls prog 213 #[.int .i64 k] w (zJD k w):=by
 obtain⟨n,p⟩:=m;have r:∀u,(Instr.index 201 (.agg #[.int .i64 2,.int .i64 1]) (.int .i64 0)).run prog u=.ok (.int .i64 2) u:=fun _=>by kernel_rfl
 have s:∀u,(Instr.index 201 (.agg #[.int .i64 2,.int .i64 1]) (.int .i64 1)).run prog u=.ok (.int .i64 1) u:=fun _=>by kernel_rfl
 go_enter func213,ntmps213;go_wp2;go_loopw [7] (fun i wr=>∃j:Nat,j<=2/\i=.int .i64 j/\w=wr/\Hid ((0<j->k≠2)/\(1<j->k≠1))) (fun i _=>2-(intOf i).toNat)
 case atStart=>exact⟨0,by omega,rfl,rfl,h_ ⟨by omega,by omega⟩⟩
 obtain⟨j,d,rfl,rfl,b⟩:=hrel;have f:j=0\/j=1\/j=2:=by omega
 rcases f with rfl|rfl|rfl
 .rw[show((0:Nat):Int)=0 from rfl];clear d;by_cases a:k=2
  .subst a;go_wp2;go_ret2;exact⟨⟨0,rfl,fun _=>rfl⟩,rfl⟩
  have l:((2:Int)==k)=false:=by rw[As];exact fun e=>a e.symm
  have c:=h_ a;clear a;go_wp2;go_roundw
  case rel=>exact⟨1,by omega,by simp,by simp,h_ ⟨fun _=>c.o,by omega⟩⟩
  simp[intOf]
 .rw[show((1:Nat):Int)=1 from rfl];clear d;by_cases a:k=1
  .subst a;go_wp2;go_ret2;exact⟨⟨1,rfl,fun _=>rfl⟩,rfl⟩
  have l:((1:Int)==k)=false:=by rw[As];exact fun e=>a e.symm
  have c:=h_ a;clear a;go_wp2;go_roundw
  case rel=>exact⟨2,by omega,by simp,by simp,h_ ⟨fun _=>b.1 (by omega),fun _=>c.o⟩⟩
  simp[intOf]
 have a:=h_ (b.1 (by omega));have g:=h_ (b.2 (by omega));rw[show((2:Nat):Int)=2 from rfl];clear d;go_wp2;go_ret2;refine⟨⟨0,?_,fun h=>?_⟩,rfl⟩
 .rw[Af (by have:=a.o;have:=g.o;omega)];rfl
 exfalso;rcases h with h|h
 .exact g.o h
 exact a.o h
def za5(w:World)(o:Obj):(w.alloc o).heap[w.heap.size]?=some o/\Lz w (w.alloc o):=⟨AB _ _,(Ac _ _).alloc l_ _⟩
def Ebox(w:World)(b:Nat)(kind seq:Int)(pv:Value):Prop:=w.heap[b]?=some (.cells #[.int .i64 kind,.int .i64 seq,pv] 123 (0,0))
def Ebox.cells{w:World}{b:Nat}{kind seq:Int}{a:Value}(h:Ebox w b kind seq a):w.cell? ⟨b,0,none⟩=some (.int .i64 kind)/\w.cell? ⟨b,1,none⟩=some (.int .i64 seq)/\w.cell? ⟨b,2,none⟩=some a :=
 ⟨Ag _ _ 0 _ _ _ h,Ag _ _ 1 _ _ _ h,Ag _ _ 2 _ _ _ h⟩
def Ebox.later{b:Nat} {seq:Int}{a:Value}(h:Ebox w b kind seq a)(c:Lz w w'):Ebox w' b kind seq a :=
 (c.block b (Aj.1 h).1).trans h
def zlF(G X:Value)(cs:List ColB)(x:EntB)(w:World)(M:RdC w G cs)(u:RdN w X x)(J:CS cs)(hX:EnO x)(N:Tabs w) :Calls prog 110 #[G,X] w fun e w'=>e=.returned (.int .i64 (entE cs x:Nat))/\Lz w w':=by
 obtain⟨kind,seq,ps⟩:=x;obtain⟨pv,rfl,D⟩:=u;obtain⟨hk,hs,L⟩:=hX;dsimp only at D hk hs L ⊢;obtain⟨z,no,A,rfl⟩:=D.lit12;obtain⟨y,s⟩:=za5 w (.cells #[.int .i64 kind,.int .i64 seq,.slice z no A] 123);obtain⟨Y,l⟩:=nm_ (w.alloc (.cells #[.int .i64 kind,.int .i64 seq,.slice z no A] 123));rw[<-l]at y s;have j:=h_ (zb0 G cs Y (M.later s l_) J (N.later s));have t:=h_ (fun p(Q:Lz w p)=>zdL G (.slice z no A) cs ps p (M.later Q l_) (D.later Q l_) J L (N.later Q));obtain⟨g,O⟩:=nm_ w.heap.size;rw[<-O]at y;have d:=h_ (show Ebox Y g kind seq (.slice z no A)from y);have f:=h_ s;have i:=h_ l;have v:=h_ O;obtain⟨E,u⟩:=nm_ (errS (colsL cs));obtain⟨R,a⟩:=nm_ (entE cs (kind,seq,ps));rw[<-u]at j;rw[<-a];unfold entE at a;dsimp only at a;rw[<-u]at a;clear M D J L N y s l O u;by_cases k:E=0
 .subst k;rw[Aa (by simp)]at a;by_cases C:kind<0\/1<kind
  .rw[Ab C]at a;subst a;have hd:(decide (kind<0)=true)\/(decide (kind<0)=false/\decide (kind≥2)=true):=by
    by_cases h:kind<0
    .exact .inl (Ah h)
    exact .inr ⟨Af h,Ah (by omega)⟩
   clear C t;rcases hd with V|⟨V,Z⟩
   all_goals(
    go_enter func110,ntmps110;go_wp2_with fail;rw[<-i.o,<-v.o];refine j.mono ?_;rintro e n⟨rfl,c⟩;have b:=bT f c;obtain⟨S,T,U⟩:=(d.later c).cells;clear c j d;go_wp2;go_ret;exact⟨rfl,b.o⟩)
  rw[Aa C]at a;have V:decide (kind<0)=false:=Af (by omega);have Z:decide (kind≥2)=false:=Af (by omega);clear C;by_cases m:seq<0\/281474976710656<seq
  .rw[Ab m]at a;subst a;have r:=h_ (fun p=>zdJ seq p);rw[Ah m]at r;clear m t;go_enter func110,ntmps110;go_wp2_with fail;rw[<-i.o,<-v.o];refine j.mono ?_;rintro e n⟨rfl,c⟩;have b:=bT f c;obtain⟨S,T,U⟩:=(d.later c).cells;clear c j d;go_wp2_with fail;refine(r.o n).mono ?_;rintro e w2⟨rfl,rfl⟩;go_wp2;go_ret;exact⟨rfl,b.o⟩
  rw[Aa m]at a;have r:=h_ (fun p=>zdJ seq p);rw[Af m]at r;rw[<-a]at t;clear m a;go_enter func110,ntmps110;go_wp2_with fail;rw[<-i.o,<-v.o];refine j.mono ?_;rintro e n⟨rfl,c⟩;have b:=bT f c;obtain⟨S,T,U⟩:=(d.later c).cells;clear c j d;go_wp2_with fail;refine(r.o n).mono ?_;rintro e w2⟨rfl,rfl⟩;go_wp2_with fail;refine(t.o n b.o).mono ?_;rintro e w3⟨rfl,c⟩;have I:=bT b c;clear c;go_wp2;go_ret;exact⟨rfl,I.o⟩
 rw[Ab k]at a;subst a;have q:((R:Int)!=0)=true:=by rw[Ao];omega
 clear k t;go_enter func110,ntmps110;go_wp2_with fail;rw[<-i.o,<-v.o];refine j.mono ?_;rintro e n⟨rfl,c⟩;have b:=bT f c;clear c j d;go_wp2;go_ret;exact⟨rfl,b.o⟩
/- -/
open Go.ChangeShapes Go.WideShapes Go.ChangeAt Go.Deep
def zC7{W:World}(h:Lib.VarReads prog W "deckle/entry.frames" Rows.laid_deckle_entry_frames):Frs W:=by
 have e:(Rows.laid_deckle_entry_frames:DataW Unit)=Lib.tabData .i64 [2,1]:=by kernel_rfl
 rw[e]at h;obtain⟨l,m,cs,f,p,b,c,a,j⟩:=h;have k:prog.globalNamed "deckle/entry.frames" = some 0 :=by kernel_rfl
 have d:(prog.globals[0]?).map (·.type)=some 201:=by kernel_rfl
 obtain rfl:=Option.some.inj (k.symm.trans b);obtain rfl:=Option.some.inj (d.symm.trans c);have i:Lib.TabIs prog W "deckle/entry.frames" .i64 [2,1]:=by
  unfold Lib.TabIs;rw[a,<-Lib.cells_of_tab (n:=2) (e:=3) (by kernel_rfl) (by kernel_rfl) (by kernel_rfl) (by kernel_rfl) j]
 exact⟨i.cell (g:=0) (by kernel_rfl) 0 (by decide),i.cell (g:=0) (by kernel_rfl) 1 (by decide)⟩
section
variable{H:Type}{enc:TypeId×Value->H}{W:World}
end
/- -/
def zf7(nf:Nat)(aL:∀(args:Array Value)(u:World),(callFunc nf args).run prog u=.ok (.enter nf args) u)(y:Bs->Bool)(g:Nat)(v:Value)(l:Bs)(k0:Nat)(n:Nat)(w:World)(kind:Int)(hk:kind=3\/kind=4)(C:∀t,y t=true↔¬(kind=4/\utf8 t=false))(hR:Rdr w g v l k0)(hn:n<=1024)(hf:∀wz s t,Only (fun j=>j=g) w wz->RdS s t->Calls prog nf #[.string s] wz fun e w'=>e=.returned (.bool (y t))/\Lz wz w') :Calls prog 254 #[.pointer (some ⟨g,0,none⟩),.int .i64 (n:Int),.func (.func nf) #[] #[]] w (Took9 w g v l (rdN l kind n (0,[]) [] k0)):=by
 obtain⟨R,Q⟩:=nm_ (rdN l kind n (0,[]) [] k0);rw[<-Q];have ac:=h_ Q;have HG:=h_ hR.lt;have aH:=h_ (fun i(hi:i<l.length)=>hR.rd.block hi);have Y:=h_ (Only.refl (fun j=>j=g) w);have aa:=h_ hR;have HK:=h_ hk;have HF:=h_ hf;have X:=h_ C;clear Q hR hk hf C;go_enter func254,ntmps254;go_wp2;go_loopw [7,8,10] (fun b a i wr=>∃(j k:Nat)(cs:List CellB)(ps:ByteArray)(pl:Bs),j<=n/\i=.int .i64 j/\a=.string ps/\Hid (RdS ps pl/\pl.length<=256)/\Hid (cs.length=j)/\Hid (Only (fun j=>j=g) w wr)/\Hid (Rdr wr g v l k)/\Hid (OwnE wr w.heap.size b cs)/\Hid (CES cs)/\Hid (R=rdN l kind (n-j) (0,pl) (cesL cs) k)) (fun _ _ i _=>n-(intOf i).toNat)
 case atStart=>exact⟨0,k0,[],_,[],by omega,rfl,rfl,h_ ⟨⟨rfl,by simp⟩,by simp⟩,h_ rfl,Y,aa,h_ (OwnE.nil _ _),h_ CES.nil,ac⟩
 clear Y aa ac;obtain⟨j,k,cs,ps,pl,hj,rfl,rfl,HP,HL,HO,Z,HW,HC,HE⟩:=hrel;by_cases aK:j<n
 .have d1:decide ((j:Int)<(n:Int))=true:=Ah (by omega);have am:=Z.le;have a1:=Z.rd.small;have x:=zH2 (l:=l) (i:=cs.length) (k:=k) (p:=(0,pl)) HK.o;have A:=zE2 (l:=l) (k:=k) am HP.2;have CN:=h_ (zlJ g v l k wr Z.o ps pl HP.1 HP.2);dsimp only at x;rcases hr:rdT l pl k with⟨t,U,x1⟩
  rw[hr]at x A CN;dsimp only at x A;have L:=h_ x;have G:=h_ (show R=rdN l kind ((n-(j+1))+1) (0,pl) (cesL cs) k from by rw[HE.o,show n-j=(n-(j+1))+1 from by omega]);clear x hr am;go_wp2_with fail;refine CN.mono ?_;rintro e w1⟨r,⟨hx,s,rfl,hs,O⟩|⟨hx,rfl,N⟩⟩
  .dsimp only at hx hs O;subst hx;have I:=h_ (HO.grown r rfl);have ab:=h_ O;have ad:=h_ (HW.grown r (fun q hq=>by have:=(OwnE.lt HW.o hq).1;have:=HG.o;intro e;injection e with e;omega));have HS:=h_ hs;have aj:=aL #[.string s];clear r O hs HO Z HW CN;go_wp2_with fail;refine(HF.o w1 s t I.o HS.o).mono ?_;rintro e D⟨rfl,hb⟩;have m:=h_ (I.below hb l_);have J:=h_ (ab.later hb l_);have M:=h_ (ad.later hb l_);clear hb I ab ad aj;by_cases T:kind=4/\utf8 t=false
   .have ak:y t=false:=by
     cases h:y t with
     | false=>rfl
     | true=>exact absurd T ((X.o t).1 h)
    rw[ak];have f:R=([],U,11):=by
     rw[G.o];exact zoT (c:=(0,[])) (by rw[za8,L.o,Aa (by simp),Ab T]) (by decide)
    have E:=h_ f;clear ak f T;go_wp2_with fail;refine(zaC g v l U D J.o 11 (by decide)).mono ?_;rintro e w3⟨rfl,al,ah⟩;have d:=h_ (show Took9 w g v l R (.panicked [{ v:=zaU g 11,recovered:=false}]) w3 from⟨m.grown al rfl,.inr ⟨by rw[E.o];show(11:Nat)≠0;decide,by rw[E.o],by rw[E.o];exact ah⟩⟩);clear al ah;go_wp2;exact⟨rfl,d.o⟩
   rw[(X.o t).2 T];have an:rd1 l kind (cesL cs).length (0,pl) k=((0,t),U,0):=(by rw[za8,L.o,Aa (by simp),Aa T]);have aG:=h_ an;have aM:s.size<=256:=(by rw[HS.size9];exact A);clear T an;go_wp2_with fail;refine(zaD _ _ _).mono ?_;rintro e w3⟨rfl,rfl⟩;have V:=h_ (show Below w.heap.size D (D.alloc (.cells #[.int .u64 0,.string s] 65))from(Ac _ _).alloc m.size _);have af:=h_ (show ∀j z,(cellVs (0,s))[j]?=some z->(D.alloc (.cells #[.int .u64 0,.string s] 65)).cell? (Addr.add ⟨D.heap.size,0,none⟩ j)=some z from zcI D (0,s));have ae:=h_ (M.alloc (.cells #[.int .u64 0,.string s] 65));go_wp2_with (with_reducible refine zc7 w.heap.size _ ?hs ae.o ⟨D.heap.size,0,none⟩ (0,s) ?hx af.o ?hn ?hbase w.heap.size D V.o l_ ?_)
   case hs=>rfl
   case hx=>rfl
   case hn=>rw[HL.o];omega
   case hbase=>rw[Az];have:=m.size;omega
   intro v8 w8 ai ag aJ;have S:=zfZ HG.o aH.o m.o J.o M.o ag;have aC:=h_ S.1;have aF:=h_ S.2;have aI:=h_ ai;have az:=h_ (HC.snoc (c:=(0,s)) ⟨by show(0:Nat)<18446744073709551616;decide,by dsimp only;omega⟩);have aB:=h_ (show(cs++[((0,s):CellB)]).length=j+1 by rw[Ae,AN,HL.o]);have aA:=h_ (show R=rdN l kind (n-(j+1)) (0,t) (cesL (cs++[((0,s):CellB)])) U from by
    rw[G.o,zvQ aG.o,zfL];unfold ceL;rw[HS.dl])
   have aE:=h_ (show RdS s t/\t.length<=256 from⟨HS.o,A⟩);clear S ai ag aJ m J M V ae aM af;go_wp2;go_roundw
   case rel=>exact⟨j+1,U,_,s,t,by omega,by go_num,rfl,aE,aB,aC,aF,aI,az,aA⟩
   simp[intOf];omega
  dsimp only at hx N ⊢;have f:R=([],U,x1):=by
   rw[G.o];exact zoT (c:=(0,[])) (by rw[za8,L.o,Ab hx]) hx
  have d:=h_ (show Took9 w g v l R (.panicked [{ v:=zaU g x1,recovered:=false}]) w1 from⟨HO.grown r rfl,.inr ⟨by rw[f];exact hx,by rw[f],by rw[f];exact N⟩⟩);clear r N f;go_wp2;exact⟨rfl,d.o⟩
 obtain rfl:j=n:=by omega
 have d1:decide ((j:Int)<(j:Int))=false:=Af (by omega);have f:R=(cesL cs,k,0):=by rw[HE.o,BT,rdN]
 have d:=h_ (show Took9 w g v l R (.returned u7) wr from⟨HO.o,.inl ⟨by rw[f],u7,cs,rfl,HW.o,HC.o,by rw[f],by rw[f];exact Z.o⟩⟩);clear f aK;go_wp2;go_ret;exact d.o
def zpC(args:Array Value)(u:World):(callFunc 255 args).run prog u=.ok (.enter 255 args) u:=zd1 func255 (by kernel_rfl) rfl args u
def zs0(args:Array Value)(u:World):(callFunc 225 args).run prog u=.ok (.enter 225 args) u:=zd1 func225 (by kernel_rfl) rfl args u
def zpJ(v:Value)(w:World):Calls prog 255 #[v] w fun e w'=>e=.returned (.bool true)/\Lz w w':=by
 go_enter func255,ntmps255;go_wp2;go_ret;exact⟨rfl,Ac _ _⟩
def zj3(g:Nat)(v:Value)(l:Bs)(k:Nat)(n:Nat)(w:World)(r:Rdr w g v l k)(y:n<=1024) :Calls prog 234 #[.pointer (some ⟨g,0,none⟩),.int .i64 (n:Int)] w (Took9 w g v l (rdN l 3 n (0,[]) [] k)):=by
 have c:=h_ (zf7 _ zpC (fun _=>true) g v l k n w 3 (.inl rfl) (fun t=>⟨fun _ h=>absurd h.1 (by decide),fun _=>rfl⟩) r y (fun z s t _ _=>zpJ _ z));clear r;go_enter func234,ntmps234;go_wp2_with fail;refine c.mono ?_;rintro e x⟨b,⟨a,u,cs,rfl,f,i,j,m⟩|⟨a,rfl,p⟩⟩
 .have d:=h_ (show Took9 w g v l (rdN l 3 n (0,[]) [] k) (.returned u) x from⟨b,.inl ⟨a,u,cs,rfl,f,i,j,m⟩⟩);clear b a f i j m c;go_wp2;go_ret;exact d.o
 have d:=h_ (show Took9 w g v l (rdN l 3 n (0,[]) [] k) (.panicked [{ v:=zaU g (rdN l 3 n (0,[]) [] k).2.2,recovered:=false}]) x from⟨b,.inr ⟨a,rfl,p⟩⟩);clear b a p c;go_wp2;exact⟨rfl,d.o⟩
def zj2(g:Nat)(v:Value)(l:Bs)(k:Nat)(n:Nat)(w:World)(i:Rdr w g v l k)(C:n<=1024)(z:Tabs w)(G:zcN<=g) :Calls prog 235 #[.pointer (some ⟨g,0,none⟩),.int .i64 (n:Int)] w (Took9 w g v l (rdN l 4 n (0,[]) [] k)):=by
 have A:=i.lt;have d:=h_ (zf7 _ zs0 utf8 g v l k n w 4 (.inr rfl) (fun t=>⟨fun h b=>by rw[h]at b;exact absurd b.2 (by decide),fun h=>by cases hu:utf8 t with
   | true=>rfl
   | false=>exact absurd ⟨rfl,hu⟩ h⟩) i C (fun E s t a D=>zrE s t E D (zgS z (fun j I=>a.block j (by omega) (by omega)))))
 clear i;go_enter func235,ntmps235;go_wp2_with fail;refine d.mono ?_;rintro e y⟨a,⟨c,x,cs,rfl,m,b,p,r⟩|⟨c,rfl,u⟩⟩
 .have f:=h_ (show Took9 w g v l (rdN l 4 n (0,[]) [] k) (.returned x) y from⟨a,.inl ⟨c,x,cs,rfl,m,b,p,r⟩⟩);clear a c m b p r d;go_wp2;go_ret;exact f.o
 have f:=h_ (show Took9 w g v l (rdN l 4 n (0,[]) [] k) (.panicked [{ v:=zaU g (rdN l 4 n (0,[]) [] k).2.2,recovered:=false}]) y from⟨a,.inr ⟨c,rfl,u⟩⟩);clear a c u d;go_wp2;exact⟨rfl,f.o⟩
/- -/
def takeE(kind n:Int):Nat:=if kind<0\/5<kind then 10 else if n<0\/1024<n then 3 else 0
def zj5(kind n:Int)(w:World)(h:Tabs w) :Calls prog 259 #[.int .i64 kind,.int .i64 n] w fun e w'=>e=.returned (.int .i64 (takeE kind n:Nat))/\Lz w w':=by
 have a:=h_ (zeN kind w h);by_cases c:kind<0\/5<kind
 .rw[Ab c]at a;rw[show takeE kind n=10 from by unfold takeE;rw[Ab c]];clear c h;go_enter func259,ntmps259;go_wp2_with fail;refine a.mono ?_;rintro e i⟨rfl,b⟩;have d:=h_ b;clear b a;go_wp2;go_ret;exact⟨rfl,d.o⟩
 rw[Aa c]at a;by_cases f:n<0
 .have j:decide (n<0)=true:=Ah f;rw[show takeE kind n=3 from by unfold takeE;rw[Aa c,Ab (.inl f)]];clear c f h;go_enter func259,ntmps259;go_wp2_with fail;refine a.mono ?_;rintro e i⟨rfl,b⟩;have d:=h_ b;clear b a;go_wp2;go_ret;exact⟨rfl,d.o⟩
 have j:decide (n<0)=false:=Af f;by_cases g:1024<n
 .have k:decide (n>1024)=true:=Ah g;rw[show takeE kind n=3 from by unfold takeE;rw[Aa c,Ab (.inr g)]];clear c f g h;go_enter func259,ntmps259;go_wp2_with fail;refine a.mono ?_;rintro e i⟨rfl,b⟩;have d:=h_ b;clear b a;go_wp2;go_ret;exact⟨rfl,d.o⟩
 have k:decide (n>1024)=false:=Af g;rw[show takeE kind n=0 from by unfold takeE;rw[Aa c,Aa (by omega)]];clear c f g h;go_enter func259,ntmps259;go_wp2_with fail;refine a.mono ?_;rintro e i⟨rfl,b⟩;have d:=h_ b;clear b a;go_wp2;go_ret;exact⟨rfl,d.o⟩
def zs4(kind n:Int)(a:takeE kind n=0)(g:Nat)(v:Value)(l:Bs)(k:Nat)(w:World)(b:Rdr w g v l k)(c:Tabs w)(d:zcN<=g) :Calls prog (codecT kind) #[.pointer (some ⟨g,0,none⟩),.int .i64 n] w (Took9 w g v l (rdK l kind n k)):=by
 unfold takeE at a;have e:0<=kind/\kind<=5:=by
  by_cases h:kind<0\/5<kind
  .rw[Ab h]at a;cases a
  omega
 rw[Aa (by omega)]at a;have f:0<=n/\n<=1024:=by
  by_cases h:n<0\/1024<n
  .rw[Ab h]at a;cases a
  omega
 obtain⟨m,rfl⟩:∃m:Nat,n=(m:Int):=⟨n.toNat,by omega⟩;unfold rdK;rw[Aa (by omega),Aa (by omega),Aw];obtain rfl|rfl|rfl|rfl|rfl|rfl:kind=0\/kind=1\/kind=2\/kind=3\/kind=4\/kind=5:=by omega
 .exact zlK g v l k m w b (by omega)
 .exact zeL 1 (.inl rfl) g v l k m w b (by omega)
 .exact zj4 g v l k m w b (by omega)
 .exact zj3 g v l k m w b (by omega)
 .exact zj2 g v l k m w b (by omega) c d
 exact zeL 5 (.inr rfl) g v l k m w b (by omega)
def zG0{l:Bs} {n:Int}{k:Nat}(h:takeE kind n≠0):rdK l kind n k=([],k,takeE kind n):=by
 unfold takeE at h ⊢;unfold rdK;by_cases a:kind<0\/5<kind
 .rw[Ab a,Ab a]
 rw[Aa a]at h ⊢;rw[Aa a];by_cases b:n<0\/1024<n
 .rw[Ab b,Ab b]
 rw[Aa b]at h;exact absurd rfl h
def zuK(kind n:Int)(g:Nat)(v:Value)(l:Bs)(k:Nat)(w:World)(hR:Rdr w g v l k)(S:Tabs w)(hg:zcN<=g) :Calls prog 245 #[.pointer (some ⟨g,0,none⟩),.int .i64 kind,.int .i64 n] w (Took9 w g v l (rdK l kind n k)):=by
 have p:=h_ (zj5 kind n w S);have U:=h_ hR;have HT:=h_ S;have HG:=h_ hg;obtain⟨R,j⟩:=nm_ (rdK l kind n k);rw[<-j];have t:=h_ j;clear hR S hg j;by_cases d:takeE kind n=0
 .have D:0<=kind/\kind<=5:=by
   unfold takeE at d;by_cases h:kind<0\/5<kind
   .rw[Ab h]at d;cases d
   omega
  have N:=h_ D;have H0:=h_ d;rw[d]at p;obtain⟨nf,m⟩:=nm_ (codecT kind);have c:=zpB kind #[.pointer (some ⟨g,0,none⟩),.int .i64 n];rw[<-m]at c;have s:=h_ m;obtain⟨nw,E⟩:=nm_ (codecW kind);have O:=h_ E;have A:∀u,(Instr.field 290 (.agg #[.func (.func nw) #[] #[],.func (.func nf) #[] #[]]) 1).run prog u=.ok (.func (.func nf) #[] #[]) u:=fun _=>by kernel_rfl
  clear D d m E;go_enter func245,ntmps245;go_wp2_with fail;refine p.mono ?_;rintro e T⟨rfl,f⟩;have a:=h_ f;clear f p;have M:=h_ (zfT kind N.o T);rw[<-s.o,<-O.o]at M;go_wp2_with fail;refine M.mono ?_;rintro e w2⟨rfl,f⟩;have b:=bT a f;have I:=h_ (zs4 kind n H0.o g v l k w2 (U.later b.o l_) (HT.later b.o) HG.o);rw[<-s.o,<-t.o]at I;clear f M a;go_wp2_with fail;refine I.mono ?_;rintro e L⟨J,⟨G,tv,cs,rfl,V,X,Y,Z⟩|⟨G,rfl,hE⟩⟩
  .have i:=h_ (show Took9 w g v l R (.returned tv) L from⟨((Only.refl _ w).below b.o l_).trans J,.inl ⟨G,tv,cs,rfl,V.lower b.size,X,Y,Z⟩⟩);clear J G V X Y Z I c A;go_wp2;go_ret;exact i.o
  have i:=h_ (show Took9 w g v l R (.panicked [{ v:=zaU g R.2.2,recovered:=false}]) L from⟨((Only.refl _ w).below b.o l_).trans J,.inr ⟨G,rfl,hE⟩⟩);clear J G hE I c A;go_wp2;exact⟨rfl,i.o⟩
 have Q:=zG0 (l:=l) (k:=k) d;obtain⟨y,hy⟩:=nm_ (takeE kind n);rw[<-hy]at p Q d;have aj:((y:Int)!=0)=true:=by rw[Ao];omega
 have i:=h_ (t.trans Q);have x:=h_ d;clear d Q hy;go_enter func245,ntmps245;go_wp2_with fail;refine p.mono ?_;rintro e T⟨rfl,f⟩;have a:=h_ f;clear f p;go_wp2_with fail;refine(zaC g v l k T (U.later a.o l_) y x.o).mono ?_;rintro e L⟨rfl,C,z⟩;have r:=h_ (show Took9 w g v l R (.panicked [{ v:=zaU g y,recovered:=false}]) L from⟨((Only.refl _ w).below a.o l_).grown C rfl,.inr ⟨by rw[i.o];exact x.o,by rw[i.o],by rw[i.o];exact z⟩⟩);clear C z;go_wp2;exact⟨rfl,r.o⟩
end
section
open _root_.Go.Proofs.Tryz
abbrev Bp:=List Ce×Int
def btCol(k:Nat)(a:List (List Ce)):List Ce:=a.map fun r=>r.getD k (0,[])
def zaJ:List Int->Nat->List (List Ce)->Bs
 | [],_,_=>[]
 | kd::r,k,a=>wrC kd (btCol k a)++zaJ r (k+1) a
def btWs:List Int->Bs
 | []=>[]
 | x::r=>encU (zig x)++btWs r
def btWr(kinds:List Int)(a:List Bp):Bs:=encU a.length++(zaJ kinds 0 (a.map fun p=>p.1)++btWs (a.map fun p=>p.2))
def za3(l:Bs)(n:Int):List Int->Nat->List (List Ce)×Nat×Nat
 | [],k=>([],k,0)
 | kd::r,k=>
  if(rdK l kd n k).2.2≠0 then([],(rdK l kd n k).2.1,(rdK l kd n k).2.2)
  else if(za3 l n r (rdK l kd n k).2.1).2.2≠0 then([],(za3 l n r (rdK l kd n k).2.1).2.1,(za3 l n r (rdK l kd n k).2.1).2.2)
  else((rdK l kd n k).1::(za3 l n r (rdK l kd n k).2.1).1,(za3 l n r (rdK l kd n k).2.1).2.1,0)
def zaB(l:Bs):Nat->Nat->List Int×Nat×Nat
 | 0,k=>([],k,0)
 | m+1,k=>
  if(rdU l k 18446744073709551615).2.2≠0 then([],(rdU l k 18446744073709551615).2.1,(rdU l k 18446744073709551615).2.2)
  else if zag (rdU l k 18446744073709551615).1=0 then([],(rdU l k 18446744073709551615).2.1,2)
  else if(zaB l m (rdU l k 18446744073709551615).2.1).2.2≠0 then([],(zaB l m (rdU l k 18446744073709551615).2.1).2.1,(zaB l m (rdU l k 18446744073709551615).2.1).2.2)
  else(zag (rdU l k 18446744073709551615).1::(zaB l m (rdU l k 18446744073709551615).2.1).1,(zaB l m (rdU l k 18446744073709551615).2.1).2.1,0)
def btRows(n:Nat)(cols:List (List Ce)):List (List Ce):=(List.range n).map fun i=>cols.map fun c=>c.getD i (0,[])
def btAsc(lt:List Ce->List Ce->Bool):List (List Ce)->Bool
 | []=>true
 | [_]=>true
 | a::b::r=>lt a b&&btAsc lt (b::r)
def btRd(lt:List Ce->List Ce->Bool)(l:Bs)(kinds:List Int)(k:Nat):List Bp×Nat×Nat :=
 if(rdU l k 1024).2.2≠0 then([],(rdU l k 1024).2.1,(rdU l k 1024).2.2)
 else if(za3 l (rdU l k 1024).1 kinds (rdU l k 1024).2.1).2.2≠0 then([],(za3 l (rdU l k 1024).1 kinds (rdU l k 1024).2.1).2.1,(za3 l (rdU l k 1024).1 kinds (rdU l k 1024).2.1).2.2)
 else if(zaB l (rdU l k 1024).1 (za3 l (rdU l k 1024).1 kinds (rdU l k 1024).2.1).2.1).2.2≠0 then([],(zaB l (rdU l k 1024).1 (za3 l (rdU l k 1024).1 kinds (rdU l k 1024).2.1).2.1).2.1,(zaB l (rdU l k 1024).1 (za3 l (rdU l k 1024).1 kinds (rdU l k 1024).2.1).2.1).2.2)
 else if btAsc lt (btRows (rdU l k 1024).1 (za3 l (rdU l k 1024).1 kinds (rdU l k 1024).2.1).1)=false then([],(zaB l (rdU l k 1024).1 (za3 l (rdU l k 1024).1 kinds (rdU l k 1024).2.1).2.1).2.1,9)
 else((btRows (rdU l k 1024).1 (za3 l (rdU l k 1024).1 kinds (rdU l k 1024).2.1).1).zip (zaB l (rdU l k 1024).1 (za3 l (rdU l k 1024).1 kinds (rdU l k 1024).2.1).2.1).1,(zaB l (rdU l k 1024).1 (za3 l (rdU l k 1024).1 kinds (rdU l k 1024).2.1).2.1).2.1,0)
def zdF(k:Nat)(a:List (List Ce)):(btCol k a).length=a.length:=by unfold btCol;rw[Ad]
def zsV(kinds:List Int)(k:Nat)(a:List (List Ce)):Prop:=∀i kd,kinds[i]?=some kd->(0<=kd/\kd<=5)/\∀c∈btCol (k+i) a,Fit kd c
variable {l:Bs} {kd:Int} {a:List (List Ce)} {lt:List Ce->List Ce->Bool} {r:List CellB} {cs:List ColB} {kinds:List Int} {ps:List PairB} {i k:Nat}
def zsV.cons{r:List Int}(h:zsV (kd::r) k a):((0<=kd/\kd<=5)/\∀c∈btCol k a,Fit kd c)/\zsV r (k+1) a:=by
 refine⟨by simpa using h 0 kd rfl,fun i x b=>?_⟩;have:=h (i+1) x (by simpa using b);rw[show k+1+i=k+(i+1)from by omega];exact this
def ziS(l m:Bs)(a:List (List Ce))(c:a.length<=1024):∀(kinds:List Int)(j k:Nat),zsV kinds j a->l.drop k=zaJ kinds j a++m ->za3 l a.length kinds k=((List.range kinds.length).map (fun i=>btCol (j+i) a),k+(zaJ kinds j a).length,0)
 | [],j,k,h,hd=>by simp[za3,zaJ]
 | kd::r,j,k,h,hd=>by
  obtain⟨⟨d,e⟩,f⟩:=h.cons;rw[zaJ,An]at hd;have hp:=zH0 (l:=l) (m:=zaJ r (j+1) a++m) (k:=k) d e (by rw[zdF];exact c) hd;rw[zdF]at hp;have b:=zfH hd;have ih:=ziS l m a c r (j+1) _ f b;rw[za3,hp];dsimp only;rw[ih,Aa (by simp),Aa (by simp)];rw[Ap,Ci,AT,A6,zaJ,Ae];refine Prod.ext ?_ (Prod.ext (by dsimp only;omega) rfl);dsimp only;rw[CJ];congr 1;refine BI fun i _=>?_;simp only[Function.comp];rw[show j+1+i=j+(i+1)from by omega]
def zfV(l:Bs)(n:Int):∀(kinds:List Int)(k:Nat),k<=l.length->(za3 l n kinds k).2.1<=l.length
 | [],k,h=>h
 | kd::r,k,h=>by
  have a:=zAO (l:=l) (kind:=kd) (n:=n) h;have ih:=zfV l n r _ a;rw[za3];split
  ·exact a
  .split
   ·exact ih
   .exact ih
def ziV(l:Bs)(n:Nat)(a:List (List Ce)):∀(kinds:List Int)(j k:Nat),k<=l.length->(za3 l n kinds k).2.2=0->(∀i c,(za3 l n kinds k).1[i]?=some c->btCol (j+i) a=c) ->l.take (za3 l n kinds k).2.1=l.take k++zaJ kinds j a/\(za3 l n kinds k).2.1<=l.length/\(za3 l n kinds k).1.length=kinds.length
 | [],j,k,hk,h,ha=>by simp[za3,zaJ,hk]
 | kd::r,j,k,hk,h,ha=>by
  rw[za3]at h ha ⊢;by_cases b:(rdK l kd n k).2.2=0
  .rw[Aa (fun e=>e b)]at h ha ⊢
   obtain⟨g,m,_,_,_,_⟩:=zoU hk b;by_cases d:(za3 l n r (rdK l kd n k).2.1).2.2=0
   .rw[Aa (fun e=>e d)]at ha ⊢
    have f:=ha 0 _ rfl;rw[CJ]at f;obtain⟨s,t,u⟩:=ziV l n a r (j+1) _ m d (fun i c p=>by
     have:=ha (i+1) c (by simpa using p);rw[show j+1+i=j+(i+1)from by omega];exact this)
    refine⟨?_,t,by simp[u]⟩;dsimp only;rw[s,g,zaJ,f,An]
   .rw[Ab d]at h;exact absurd h d
  .rw[Ab b]at h;exact absurd h b
def ziT(l:Bs)(n:Int):∀(kinds:List Int)(k:Nat),(za3 l n kinds k).2.2=0->(za3 l n kinds k).1.length=kinds.length
 | [],k,h=>rfl
 | kd::r,k,h=>by
  rw[za3]at h ⊢;by_cases b:(rdK l kd n k).2.2=0
  .rw[Aa (fun c=>c b)]at h ⊢
   by_cases a:(za3 l n r (rdK l kd n k).2.1).2.2=0
   .rw[Aa (fun c=>c a)]
    simp[ziT l n r _ a]
   .rw[Ab a]at h;exact absurd h a
  .rw[Ab b]at h;exact absurd h b
def ziU(l:Bs)(n:Nat):∀(kinds:List Int)(k:Nat),k<=l.length->(za3 l n kinds k).2.2=0 ->∀(i:Nat)(kd:Int),kinds[i]?=some kd->(0<=kd/\kd<=5)/\∃c:List Ce,(za3 l n kinds k).1[i]?=some c/\c.length=n/\∀x∈c,Fit kd x
 | [],k,hk,h,i,kd,hi=>by simp at hi
 | kd::r,k,hk,h,i,kx,hi=>by
  rw[za3]at h ⊢;by_cases a:(rdK l kd n k).2.2=0
  .rw[Aa (fun d=>d a)]at h ⊢
   obtain⟨_,e,f,g,s,_⟩:=zoU hk a;by_cases b:(za3 l n r (rdK l kd n k).2.1).2.2=0
   .rw[Aa (fun d=>d b)]
    cases i with
    | zero=>
     obtain rfl:kd=kx:=by simpa using hi
     exact⟨f,_,rfl,by omega,g⟩
    | succ i=>
     obtain⟨j,c,m,p⟩:=ziU l n r _ e b i kx (by simpa using hi);exact⟨j,c,by simpa using m,p⟩
   .rw[Ab b]at h;exact absurd h b
  .rw[Ab a]at h;exact absurd h a
def WtOk(x:Int):Prop:=x≠0/\-9223372036854775808<=x/\x<=9223372036854775807
def znW(l m:Bs):∀(a:List Int)(k:Nat),(∀x∈a,WtOk x)->l.drop k=btWs a++m->zaB l a.length k=(a,k+(btWs a).length,0)
 | [],k,h,hd=>by simp[zaB,btWs]
 | x::r,k,h,hd=>by
  obtain⟨b,c,d⟩:=h x (by simp);rw[btWs,An]at hd;have f:=zeS x c d;have hp:=zhY (most:=18446744073709551615) hd (by omega) (by omega);have ih:=znW l m r _ (fun y e=>h y (by simp[e])) (zfH hd);rw[Ap,zaB,hp];dsimp only;rw[ih,Aa (by simp),zyQ,Aa b,Aa (by simp),btWs,Ae];refine Prod.ext rfl (Prod.ext (by dsimp only;omega) rfl)
def ziR(l:Bs):∀(m k:Nat),k<=l.length->(zaB l m k).2.1<=l.length
 | 0,k,h=>h
 | m+1,k,h=>by
  have a:=zhX (most:=18446744073709551615) h;have ih:=ziR l m _ a;rw[zaB];split
  ·exact a
  .split
   ·exact a
   .split
    ·exact ih
    .exact ih
def zjP{y:Nat}(h:y<18446744073709551616):-9223372036854775808<=zag y/\zag y<=9223372036854775807:=by
 unfold zag;split<;>omega
def znX(l:Bs):∀(m k:Nat),k<=l.length->(zaB l m k).2.2=0 ->l.take (zaB l m k).2.1=l.take k++btWs (zaB l m k).1/\(zaB l m k).2.1<=l.length/\(zaB l m k).1.length=m/\∀x∈(zaB l m k).1,WtOk x
 | 0,k,hk,h=>by simp[zaB,btWs,hk]
 | m+1,k,hk,h=>by
  rw[zaB]at h ⊢;by_cases a:(rdU l k 18446744073709551615).2.2=0
  .rw[Aa (fun d=>d a)]at h ⊢
   obtain⟨f,g,r⟩:=zcE hk a;by_cases c:zag (rdU l k 18446744073709551615).1=0
   .rw[Ab c]at h;cases h
   .rw[Aa c]at h ⊢
    by_cases b:(zaB l m (rdU l k 18446744073709551615).2.1).2.2=0
    .rw[Aa (fun d=>d b)]
     obtain⟨i,j,n,p⟩:=znX l m _ g b;refine⟨?_,j,by simp[n],fun x e=>?_⟩
     .dsimp only
      rw[i,f,btWs,zyP _,An]
     .rcases Ba.1 e with rfl|e
      .exact⟨c,zjP (by omega)⟩
      .exact p x e
    .rw[Ab b]at h;exact absurd h b
  .rw[Ab a]at h;exact absurd h a
def zrN(r:List Ce):(List.range r.length).map (fun j=>r.getD j (0,[]))=r:=by
 apply List.ext_getElem
 .simp
 intro i b a;simp[List.getD,a]
def zcQ(n:Nat)(a:List (List Ce)):(btRows n a).length=n:=by unfold btRows;simp
def zuR(n:Nat)(a:List (List Ce)):∀r∈btRows n a,r.length=a.length:=by
 intro r b;unfold btRows at b;obtain⟨i,_,rfl⟩:=Au.1 b;simp
def zuS(K:Nat)(rows:List (List Ce))(h:∀r∈rows,r.length=K):btRows rows.length ((List.range K).map fun i=>btCol (0+i) rows)=rows:=by
 unfold btRows;apply List.ext_getElem
 .simp
 intro i d a;rw[List.getElem_map,List.getElem_range,A6];have b:=h _ (AM a);rw[show(List.range K).map ((fun c=>List.getD c i (0,[]))∘fun j=>btCol (0+j) rows)=(List.range K).map (fun j=>(rows[i]).getD j (0,[]))from by
  refine BI fun j _=>?_;simp only[Function.comp,A5];unfold btCol;simp[List.getD,a]]
 rw[<-b];exact zrN _
def zo2 {n:Nat}{c:List Ce}(h:a[i]?=some c)(b:c.length=n):btCol i (btRows n a)=c:=by
 unfold btCol btRows;rw[A6];subst b;rw[show(List.range c.length).map ((fun r=>List.getD r i (0,[]))∘fun q=>a.map fun x=>List.getD x q (0,[]))=(List.range c.length).map (fun q=>c.getD q (0,[]))from by
  refine BI fun q _=>?_;simp[Function.comp,List.getD,h]]
 exact zrN c
def zuZ:∀(a:List Bp),(a.map fun p=>p.1).zip (a.map fun p=>p.2)=a
 | []=>rfl
 | p::r=>by rw[AT,AT,BF,zuZ r]
def zip_fst:∀(a:List (List Ce))(b:List Int),a.length=b.length->(a.zip b).map (fun p=>p.1)=a
 | [],[],_=>rfl
 | [],_::_,h=>by simp at h
 | _::_,[],h=>by simp at h
 | x::r,y::s,h=>by rw[BF,AT,zip_fst r s (by simpa using h)]
def zyN:∀(a:List (List Ce))(b:List Int),a.length=b.length->(a.zip b).map (fun p=>p.2)=b
 | [],[],_=>rfl
 | [],_::_,h=>by simp at h
 | _::_,[],h=>by simp at h
 | x::r,y::s,h=>by rw[BF,AT,zyN r s (by simpa using h)]
structure BtOk(lt:List Ce->List Ce->Bool)(kinds:List Int)(a:List Bp):Prop where
 fit:zsV kinds 0 (a.map fun p=>p.1)
 wide:∀p∈a,p.1.length=kinds.length
 wts:∀p∈a,WtOk p.2
 few:a.length<=1024
 asc:btAsc lt (a.map fun p=>p.1)=true
def zFE {m:Bs}{a:List Bp}(h:BtOk lt kinds a)(d:l.drop k=btWr kinds a++m):btRd lt l kinds k=(a,k+(btWr kinds a).length,0):=by
 have n:=h.few;unfold btWr at d ⊢;rw[An,An]at d;have s:=zhY (most:=1024) d (by omega) h.few;have b:=zfH d;have c:(a.map fun p=>p.1).length=a.length:=Ad ..;have f:(a.map fun p=>p.2).length=a.length:=Ad ..;have g:=ziS l (btWs (a.map fun p=>p.2)++m) (a.map fun p=>p.1) (by rw[c];exact h.few) kinds 0 _ h.fit b;have e:=zfH b;have i:=znW l m (a.map fun p=>p.2) _ (fun x u=>by obtain⟨p,hp,rfl⟩:=Au.1 u;exact h.wts p hp) e;have j:=zuS kinds.length (a.map fun p=>p.1) (fun r t=>by obtain⟨p,hp,rfl⟩:=Au.1 t;exact h.wide p hp);rw[c]at g j;rw[f]at i;unfold btRd;rw[s];dsimp only;rw[g];dsimp only;rw[i];dsimp only;rw[j,Aa (by simp),Aa (by simp),Aa (by simp),h.asc,Aa (by decide),zuZ];rw[Ae,Ae];refine Prod.ext rfl (Prod.ext (by dsimp only;omega) rfl)
def zyI(d:k<=l.length):(btRd lt l kinds k).2.1<=l.length:=by
 have b:=zhX (most:=1024) d;have c:=zfV l (rdU l k 1024).1 kinds _ b;have a:=ziR l (rdU l k 1024).1 _ c;unfold btRd;split
 ·exact b
 split
 ·exact c
 split
 ·exact a
 split
 ·exact a
 exact a
def zwE(y:k<=l.length)(h:(btRd lt l kinds k).2.2=0) :l.take (btRd lt l kinds k).2.1=l.take k++btWr kinds (btRd lt l kinds k).1/\(btRd lt l kinds k).2.1<=l.length/\BtOk lt kinds (btRd lt l kinds k).1:=by
 have Q:=zyI (lt:=lt) (kinds:=kinds) y;unfold btRd at h ⊢;by_cases s:(rdU l k 1024).2.2=0
 .obtain⟨A,w,C⟩:=zcE y s;rw[Aa (fun g=>g s)]at h ⊢;generalize hn:(rdU l k 1024).1=n at *;generalize hk1:(rdU l k 1024).2.1=k1 at *;by_cases d:(za3 l n kinds k1).2.2=0
  .rw[Aa (fun g=>g d)]at h ⊢;have b:=ziU l n kinds k1 w d
   have f:=ziV l n (btRows n (za3 l n kinds k1).1) kinds 0 k1 w d (fun i c j=>by
    rw[A5];have m:i<kinds.length:=by
     have T:=(AG.1 j).1;have:=(ziT l n kinds k1 d);omega
    obtain⟨_,S,a,v,_⟩:=b i kinds[i] (by simp[m]);rw[j]at a;injection a with a;subst a;exact zo2 j v)
   obtain⟨D,E,G⟩:=f;by_cases t:(zaB l n (za3 l n kinds k1).2.1).2.2=0
   .rw[Aa (fun g=>g t)]at h ⊢;obtain⟨H,I,x,J⟩:=znX l n _ E t;cases has:btAsc lt (btRows n (za3 l n kinds k1).1)with
    | false=>rw[Ab has]at h;cases h
    | true=>
     rw[Aa (by simp)];have r:(btRows n (za3 l n kinds k1).1).length=(zaB l n (za3 l n kinds k1).2.1).1.length:=(by rw[zcQ,x]);have u:=zip_fst _ _ r;have z:=zyN _ _ r;have e:((btRows n (za3 l n kinds k1).1).zip (zaB l n (za3 l n kinds k1).2.1).1).length=n:=by
      rw[Bd,zcQ,x];omega
     refine⟨?_,I,⟨?_,?_,?_,by rw[e];exact C,by rw[u];exact has⟩⟩
     .unfold btWr;dsimp only;rw[u,z,e,H,D,A];simp only[An]
     .rw[u];intro i kd j;obtain⟨L,c,M,N,O⟩:=b i kd j;refine⟨L,?_⟩;rw[A5,zo2 M N];exact O
     .intro p hp;have hm:p.1∈btRows n (za3 l n kinds k1).1:=(by rw[<-u];exact Au.2 ⟨p,hp,rfl⟩);rw[zuR _ _ _ hm,G]
     intro p hp;have hm:p.2∈(zaB l n (za3 l n kinds k1).2.1).1:=by
      have:p.2∈((btRows n (za3 l n kinds k1).1).zip (zaB l n (za3 l n kinds k1).2.1).1).map (fun p=>p.2):=Au.2 ⟨p,hp,rfl⟩;rw[z]at this;exact this
     exact J _ hm
   rw[Ab t]at h;exact absurd h t
  rw[Ab d]at h;exact absurd h d
 rw[Ab s]at h;exact absurd h s
def zm1(rows:List (List Ce)):Nat:=match rows with
 | []=>0
 | r::t=>sumT r+zm1 t
def zdK:Nat->Nat->List (List Ce)->Nat
 | 0,_,_=>0
 | K+1,j,rows=>sumT (btCol j rows)+zdK K (j+1) rows
def znV:Nat->Nat->List Ce->Nat
 | 0,_,_=>0
 | K+1,j,r=>(r.getD j (0,[])).2.length+znV K (j+1) r
def zm5:∀(K j:Nat),zdK K j []=0
 | 0,j=>rfl
 | K+1,j=>by rw[zdK,zm5 K (j+1)];rfl
def ziX:∀(K j:Nat)(r:List Ce)(t:List (List Ce)),zdK K j (r::t)=znV K j r+zdK K j t
 | 0,j,r,t=>rfl
 | K+1,j,r,t=>by
  rw[zdK,ziX K (j+1) r t,znV,zdK];show(r.getD j (0,[])).2.length+sumT (btCol j t)+_=_;omega
def zm2:∀(K j:Nat)(r:List Ce),r.length=j+K->znV K j r=sumT (r.drop j)
 | 0,j,r,h=>by rw[znV,Bj (by omega)];rfl
 | K+1,j,r,h=>by
  have a:j<r.length:=by omega
  rw[znV,zm2 K (j+1) r (by omega),Bf a,sumT];simp[List.getD,a]
def ziW:∀(K:Nat)(rows:List (List Ce)),(∀r∈rows,r.length=K)->zdK K 0 rows=zm1 rows
 | K,[],h=>by rw[zm5];rfl
 | K,r::t,h=>by
  rw[ziX,ziW K t (fun x a=>h x (by simp[a])),zm2 K 0 r (by rw[h r (by simp)];omega),Bz]
  rfl
def zsN:∀(kinds:List Int)(j:Nat)(rows:List (List Ce)),zsV kinds j rows->(zaJ kinds j rows).length<=10*rows.length*kinds.length+zdK kinds.length j rows
 | [],j,rows,h=>by simp[zaJ]
 | kd::r,j,rows,h=>by
  obtain⟨⟨_,b⟩,c⟩:=h.cons;have a:=zyV b;have ih:=zsN r (j+1) rows c;rw[zdF]at a;rw[zaJ,Ae,Ap,zdK,Nat.mul_add];omega
def zCT:∀(a:List Int),(∀x∈a,WtOk x)->(btWs a).length<=10*a.length
 | [],_=>by simp[btWs]
 | x::r,h=>by
  obtain⟨_,b,c⟩:=h x (by simp);have:=zaA (zig x) (zeS x b c);have ih:=zCT r (fun y d=>h y (by simp[d]));rw[btWs,Ae,Ap];omega
def zI0{a:List Bp}(h:BtOk lt kinds a):(btWr kinds a).length<=12+10*a.length*(kinds.length+1)+zm1 (a.map fun p=>p.1):=by
 have c:=h.few;have g:=zaA a.length (by omega);have b:=zsN kinds 0 (a.map fun p=>p.1) h.fit;have d:=zCT (a.map fun p=>p.2) (fun x f=>by obtain⟨p,hp,rfl⟩:=Au.1 f;exact h.wts p hp);rw[ziW kinds.length (a.map fun p=>p.1) (fun r e=>by obtain⟨p,hp,rfl⟩:=Au.1 e;exact h.wide p hp)]at b;rw[Ad]at b d;unfold btWr;rw[Ae,Ae,Nat.mul_add,Nat.mul_one];omega
/- -/
def kindsL(cs:List ColB):List Int:=cs.map fun c=>c.2
def zaT(ps:List PairB):List (List Ce):=ps.map fun p=>cesL p.1
def psL(ps:List PairB):List Bp:=ps.map fun p=>(cesL p.1,p.2)
def zeD(ps:List PairB):(psL ps).map (fun p=>p.1)=zaT ps:=by unfold psL zaT;rw[A6];rfl
def zAW(ps:List PairB):(psL ps).map (fun p=>p.2)=ps.map (fun p=>p.2):=by unfold psL;rw[A6];rfl
def zdQ(ps:List PairB):(psL ps).length=ps.length:=by unfold psL;rw[Ad]
def zqK(ps:List PairB):(zaT ps).length=ps.length:=by unfold zaT;rw[Ad]
def colB(k:Nat)(ps:List PairB):List CellB:=ps.map fun p=>p.1.getD k default
def zbR(k:Nat)(ps:List PairB):(colB k ps).length=ps.length:=by unfold colB;rw[Ad]
def zs8(a:i<ps.length):colB k (ps.take (i+1))=colB k (ps.take i)++[(ps.getD i default).1.getD k default]:=by
 unfold colB;rw[zaH a default,AC];rfl
def zsH(h:∀p∈ps,k<p.1.length):cesL (colB k ps)=btCol k (zaT ps):=by
 unfold cesL colB btCol zaT;rw[A6,A6];refine BI fun p hp=>?_;have a:=h p hp;simp only[Function.comp];unfold cesL;simp[List.getD,a]
def zwD(a:PSO ps)(h:∀p∈ps,k<p.1.length):CES (colB k ps):=by
 intro c b;obtain⟨p,hp,rfl⟩:=Au.1 b;exact(a p hp).1.get (h p hp)
def zd6(a:List (List Ce)):∀(b:List Int)(j:Nat)(kd:Int),zaJ (b++[kd]) j a=zaJ b j a++wrC kd (btCol (j+b.length) a)
 | [],j,kd=>by simp[zaJ]
 | x::r,j,kd=>by
  rw[AQ,zaJ,zd6 a r (j+1) kd,zaJ,Ap,An];rw[show j+1+r.length=j+(r.length+1)from by omega]
def zf9:∀(a:List Int)(x:Int),btWs (a++[x])=btWs a++encU (zig x)
 | [],x=>by simp[btWs]
 | y::r,x=>by rw[AQ,btWs,zf9 r x,btWs,An]
structure PsOk(cs:List ColB)(ps:List PairB):Prop where
 cols:cs.length<=8
 few:ps.length<=1024
 wide:∀p∈ps,p.1.length=cs.length
 fit:zsV (kindsL cs) 0 (zaT ps)
def PsOk.col(h:PsOk cs ps)(j:k<cs.length):(0<=(cs.getD k default).2/\(cs.getD k default).2<=5)/\(∀c∈btCol k (zaT ps),Fit (cs.getD k default).2 c)/\(wrC (cs.getD k default).2 (btCol k (zaT ps))).length<=272384:=by
 have e:(kindsL cs)[k]?=some (cs.getD k default).2:=by unfold kindsL;simp[List.getD,j]
 obtain⟨g,a⟩:=h.fit k _ e;rw[A5]at a;refine⟨g,a,?_⟩;have b:=zyV a;have i:sumT (btCol k (zaT ps))<=256*(btCol k (zaT ps)).length:=by
  generalize btCol k (zaT ps)=l at a;clear b
  induction l with
  | nil=>simp[sumT]
  | cons c r ih=>
   have n:=ih (fun x m=>a x (by simp[m]));have f:=a c (by simp);have p:c.2.length<=256:=by
    by_cases d:(cs.getD k default).2=3\/(cs.getD k default).2=4
    .exact(f.text d).2.1
    rw[(f.num d).1];simp
   rw[sumT,Ap];omega
 rw[zdF,zqK]at b i;have:=h.few;omega
def ztH(sv av:Value)(cs:List ColB)(ps:List PairB)(w:World)(hR:RdC w sv cs)(hP:RdP w av ps)(hC:CS cs)(am:PSO ps)(ck:Nat)(ai:∀wz,Lz w wz->Calls prog 117 #[sv,av] wz fun e w'=>e=.returned (.int .i64 (ck:Int))/\Lz wz w')(al:ck=0->PsOk cs ps) :Calls prog 120 #[sv,av] w fun e w'=>∃b,e=.returned (.tuple #[b,.int .i64 (ck:Int)])/\Own w' w.heap.size b (if ck=0 then btWr (kindsL cs) (psL ps)else[])/\Lz w w':=by
 have O:=h_ (ai w (Ac _ _));by_cases h0:ck=0
 .subst h0;rw[Ab rfl];have T:=al rfl;have aT:=T.few;have ap:=T.cols;have bl:=hP.len;have bk:=hR.len;obtain⟨n,hn⟩:=nm_ ps.length;obtain⟨K,hK⟩:=nm_ cs.length;rw[<-hn]at bl aT;rw[<-hK]at bk ap;have HN:=h_ hn;have HK:=h_ hK;have Q:=h_ T;have HR:=h_ hR;have HP:=h_ hP;have HC:=h_ hC;have aK:=h_ am;clear hR hP hC am ai al T hn hK;go_enter func120,ntmps120;go_wp2_with fail;refine O.mono ?_;rintro e w1⟨rfl,m⟩;have C:=h_ m;clear m O;go_wp2_with fail;refine(zd9 (n:Int) (by omega) (by omega) w1).mono ?_;rintro e w2⟨ov,rfl,hO,m⟩;rw[Aw]at hO;have aC:=bT C m;have D:=h_ (hO.base (base':=w.heap.size) C.size);have bx:=zaA n (by omega);clear m hO C;go_wp2;go_loopw [7,8] (fun b i wr=>∃k:Nat,k<=K/\i=.int .i64 k/\Hid (Lz w wr)/\Hid (Own wr w.heap.size b (encU n++zaJ ((kindsL cs).take k) 0 (zaT ps)))/\Hid ((encU n++zaJ ((kindsL cs).take k) 0 (zaT ps)).length<=10+k*272384)) (fun _ i _=>K-(intOf i).toNat)
  case atStart=>exact⟨0,by omega,rfl,aC,h_ (by rw[AU,zaJ,AV];exact D.o),h_ (by rw[AU,zaJ,AV];omega)⟩
  clear aC D;obtain⟨k,hk,rfl,d,u,U⟩:=hrel;by_cases aW:k<K
  .have v:k<cs.length:=(by rw[<-HK.o];exact aW);have d1:decide ((k:Int)<(K:Int))=true:=Ah (by omega);obtain⟨V,an⟩:=nm_ wr.heap.size;have a5:=h_ (show w.heap.size<=V by rw[an];exact d.size);have bc:=h_ (show ∀q,u7.ownBlock=some q->q<V from fun q hq=>by rw[an];exact(World.ownsRow.lt u.o q hq).2);have z:=h_ (show V<=wr.heap.size by omega);have aI:=h_ u.o;have bD:=h_ (show k<cs.length from v);clear an;go_wp2;go_loopw [9,10] (fun b i wi=>∃j:Nat,j<=n/\i=.int .i64 j/\Hid (Lz w wi)/\Hid (V<=wi.heap.size)/\Hid (Own wi w.heap.size u7 (encU n++zaJ ((kindsL cs).take k) 0 (zaT ps)))/\Hid (OwnE wi V b (colB k (ps.take j)))) (fun _ i _=>n-(intOf i).toNat)
   case atStart=>exact⟨0,by omega,rfl,d,z,aI,h_ (OwnE.nil _ _)⟩
   clear d u aI z;obtain⟨j,hj,rfl,d,z,u,HE⟩:=hrel;by_cases M:j<n
   .have h:j<ps.length:=(by rw[<-HN.o];exact M);have d2:decide ((j:Int)<(n:Int))=true:=Ah (by omega);have hr:=HP.later d.o l_;obtain⟨b,o,rv,g,ao,S,N,_⟩:=hr.get h;have Y:ps.getD j default∈ps:=by
     have e:ps.getD j default=ps[j]:=(by simp[List.getD,h]);rw[e];exact AM _
    have A:=Q.wide _ Y;have aV:k<(ps.getD j default).1.length:=(by rw[A];exact v);obtain⟨b2,o2,aw,y,_⟩:=N.get aV;obtain⟨e0,e1⟩:=y _ N;have aq:=zs8 (k:=k) h;rcases hcg:(ps.getD j default).1.getD k default with⟨x,t⟩
    rw[hcg]at e0 e1 aq;dsimp only at e0 e1;have a7:=h_ aq;have aD:=h_ (show Lz w (wr.alloc (.cells #[.int .u64 (x:Int),.string t] 65))from d.alloc d.size _);have ab:=h_ (HE.alloc (.cells #[.int .u64 (x:Int),.string t] 65));have aJ:=h_ (u.alloc (.cells #[.int .u64 (x:Int),.string t] 65));have ay:V<=(wr.alloc (.cells #[.int .u64 (x:Int),.string t] 65)).heap.size:=(by rw[Az];have:=z.o;omega);clear aq hcg y N hr A aV Y;go_wp2_with (with_reducible refine zc7 V _ ?hsE ab.o ⟨wr.heap.size,0,none⟩ (x,t) ?hxE (zcI wr (x,t)) ?hnE ay w.heap.size w aD.o a5.o ?_)
    case hsE=>rfl
    case hxE=>rfl
    case hnE=>rw[zbR,Aq];omega
    intro v8 w8 aQ aP au;have a8:=h_ (show OwnE w8 V v8 (colB k (ps.take (j+1)))from by rw[a7.o];exact aQ);have a4:=h_ aP;have ba:=h_ (aJ.grown9 au (fun q h1 h2=>by have h3:=bc.o q h1;have h4:=(OwnE.lt ab.o h2.symm).1;omega));have aE:=h_ (Ar ay au.size);clear aQ aP au d u HE z aD ab aJ ay ao S e0 e1 g aw;go_wp2;go_roundw
    case rel=>exact⟨j+1,by omega,by go_num,a4,aE,ba,a8⟩
    simp[intOf];omega
   obtain rfl:j=n:=(by omega);have d2:decide ((j:Int)<(j:Int))=false:=Af (by omega);have a:ps.take j=ps:=Am (by rw[<-HN.o];exact l_);have A:∀p∈ps,k<p.1.length:=fun p hp=>(by rw[Q.wide p hp];exact v);have J:=zsH A;obtain⟨f1,f2,f3⟩:=Q.col v;have ax:=HR.later d.o l_;obtain⟨b,o,g,I,_⟩:=ax.get v;obtain⟨e0,e1⟩:=I _ ax;rcases hcg:cs.getD k default with⟨nm,kd⟩;rw[hcg]at e0 e1 f1 f2 f3;dsimp only at e0 e1 f1 f2 f3;have aS:wrE kd (cesL (colB k ps))=0:=by
    unfold wrE;rw[Aa (by omega)];refine zw6 (fun c hc=>?_);rw[J]at hc;exact f2 c hc
   have Z:10*(colB k ps).length+sumT (cesL (colB k ps))<=1000000:=by
    have h1:sumT (cesL (colB k ps))<=256*(cesL (colB k ps)).length:=by
     rw[J];generalize btCol k (zaT ps)=l at f2;clear f3 J
     induction l with
     | nil=>simp[sumT]
     | cons c r ih=>
      have i1:=ih (fun x hx=>f2 x (by simp[hx]));have i2:=f2 c (by simp);have i3:c.2.length<=256:=by
       by_cases ht:kd=3\/kd=4
       .exact(i2.text ht).2.1
       rw[(i2.num ht).1];simp
      rw[sumT,Ap];omega
    rw[za8]at h1;rw[zbR]at h1 ⊢;have:=Q.few;omega
   have aj:=HE.o;rw[a]at aj;have CW:=h_ (ztI u9 kd (colB k ps) wr (aj.rd (by rw[zbR,<-HN.o];omega)) (zwD aK.o A) (by omega) Z);have aM:=h_ aS;have a6:=h_ J;have ac:=h_ f3;have aU:(kindsL cs).take (k+1)=(kindsL cs).take k++[kd]:=by
    have bj:k<(kindsL cs).length:=(by unfold kindsL;rw[Ad];exact v);rw[zaH bj 0];unfold kindsL;simp[List.getD,v]at hcg ⊢;rw[hcg]
   have X:((kindsL cs).take k).length=k:=(by rw[Aq];unfold kindsL;rw[Ad];omega);have aH:=h_ aU;have aG:=h_ X;clear J f1 f2 f3 hcg aS Z aj a A I ax aU X M;go_wp2_with fail;refine CW.mono ?_;rintro e w3⟨bv,rfl,ak,m⟩;rw[aM.o];rw[aM.o,Ab rfl,a6.o]at ak;have s:=bT d m;have E:=h_ (u.later m l_);have f:=h_ (ak.rd (by have:=ac.o;omega));clear m ak CW d u HE z e0 e1 g;go_wp2_with (with_reducible refine wpl_append w.heap.size _ _ ?hsO E.o _ _ ?hxO f.o ?hnO s.o.size w.heap.size w s.o l_ ?_)
   case hsO=>rfl
   case hxO=>rfl
   case hnO=>have:=U.o;have:=ac.o;omega
   intro v5 w5 H G ar;have aa:=h_ G;have ae:=h_ (show Own w5 w.heap.size v5 (encU j++zaJ ((kindsL cs).take (k+1)) 0 (zaT ps))from by rw[aH.o,zd6,aG.o,A5,<-An];exact H);have ad:=h_ (show(encU j++zaJ ((kindsL cs).take (k+1)) 0 (zaT ps)).length<=10+(k+1)*272384 from by
    have h1:=U.o;have h2:=ac.o;rw[aH.o,zd6,aG.o,A5,<-An,Ae];omega)
   clear H G ar s E f;go_wp2;go_roundw
   case rel=>exact⟨k+1,by omega,by go_num,aa,ae,ad⟩
   simp[intOf];omega
  obtain rfl:k=K:=by omega
  have d1:decide ((k:Int)<(k:Int))=false:=Af (by omega);have a:(kindsL cs).take k=kindsL cs:=Am (by unfold kindsL;rw[Ad,<-HK.o];exact l_);have D:=h_ (show Own wr w.heap.size u7 ((encU n++zaJ (kindsL cs) 0 (zaT ps))++btWs ((ps.map fun p=>p.2).take 0))from by rw[AU,btWs,AV];have:=u.o;rw[a]at this;exact this);have a9:=h_ (show(encU n++zaJ (kindsL cs) 0 (zaT ps)).length<=2500000 from by have:=U.o;rw[a]at this;omega);clear a u U aW;go_wp2;go_loopw [7,13] (fun b i wr=>∃j:Nat,j<=n/\i=.int .i64 j/\Hid (Lz w wr)/\Hid (Own wr w.heap.size b ((encU n++zaJ (kindsL cs) 0 (zaT ps))++btWs ((ps.map fun p=>p.2).take j)))/\Hid ((btWs ((ps.map fun p=>p.2).take j)).length<=10*j)) (fun _ i _=>n-(intOf i).toNat)
  case atStart=>exact⟨0,by omega,rfl,d,D,h_ (by rw[AU];simp[btWs])⟩
  clear d D;obtain⟨j,hj,rfl,d,u,U⟩:=hrel;by_cases M:j<n
  .have h:j<ps.length:=(by rw[<-HN.o];exact M);have d2:decide ((j:Int)<(n:Int))=true:=Ah (by omega);have hr:=HP.later d.o l_;obtain⟨b,o,rv,g,ao,S,N,_⟩:=hr.get h;have L:=(aK.get h).2;have az:(ps.map fun p=>p.2).take (j+1)=(ps.map fun p=>p.2).take j++[(ps.getD j default).2]:=by
    rw[zaH (by rw[Ad];exact h) 0];simp[List.getD,h]
   obtain⟨x,hx⟩:=nm_ ((ps.getD j default).2);rw[<-hx]at S L az;have aL:=h_ az;have aF:=h_ L;have bH:=zaA (zig x) (zeS x L.1 L.2);clear hx az hr N L;go_wp2_with fail;refine(zAF x aF.1 aF.2 wr).mono ?_;rintro e w3⟨yv,rfl,aR,m⟩;have s:=bT d m;have E:=h_ (u.later m l_);have f:=h_ (aR.rd (by omega));clear m aR d u ao S g;go_wp2_with (with_reducible refine wpl_append w.heap.size _ _ ?hsW E.o _ _ ?hxW f.o ?hnW s.o.size w.heap.size w s.o l_ ?_)
   case hsW=>rfl
   case hxW=>rfl
   case hnW=>rw[Ae];have:=U.o;have:=a9.o;omega
   intro v5 w5 H G ar;have aa:=h_ G;have ae:=h_ (show Own w5 w.heap.size v5 ((encU n++zaJ (kindsL cs) 0 (zaT ps))++btWs ((ps.map fun p=>p.2).take (j+1)))from by rw[aL.o,zf9,<-An];exact H);have ad:=h_ (show(btWs ((ps.map fun p=>p.2).take (j+1))).length<=10*(j+1)from by rw[aL.o,zf9,Ae];have:=U.o;omega);clear H G ar s E f;go_wp2;go_roundw
   case rel=>exact⟨j+1,by omega,by go_num,aa,ae,ad⟩
   simp[intOf];omega
  obtain rfl:j=n:=by omega
  have d2:decide ((j:Int)<(j:Int))=false:=Af (by omega);have a:(ps.map fun p=>p.2).take j=ps.map fun p=>p.2:=Am (by rw[Ad,<-HN.o];exact l_);have bb:=h_ (show Own wr w.heap.size u7 (btWr (kindsL cs) (psL ps))from by
   have:=u.o;rw[a]at this;unfold btWr;rw[zdQ,zeD,zAW,<-HN.o,<-An];exact this)
  clear a u U M;go_wp2;go_ret2;exact⟨_,rfl,bb.o,d.o⟩
 rw[Aa h0];have hq:((ck:Int)!=0)=true:=by rw[Ao];omega
 clear hR hP hC am ai al h0;go_enter func120,ntmps120;go_wp2_with fail;refine O.mono ?_;rintro e w1⟨rfl,m⟩;have C:=h_ m;clear m O;go_wp2;go_ret2;exact⟨_,rfl,zaE _ _,C.o⟩
/- -/
open Go.Shelf
def ceB(c:Ce):CellB:=(c.1,⟨c.2.toArray⟩)
def zHZ(c:CellB):ceB (ceL c)=c:=by
 obtain⟨x,t⟩:=c;simp[ceB,ceL]
def cesB(r:List Ce):List CellB:=r.map ceB
def zf8(r:List CellB):cesB (cesL r)=r:=by
 unfold cesB cesL;rw[A6]
 conv=>rhs;rw[<-CG r]
 exact BI fun c _=>zHZ c
def psB(a:List Bp):List PairB:=a.map fun p=>(cesB p.1,p.2)
def zAX(ps:List PairB):psB (psL ps)=ps:=by
 unfold psB psL;rw[A6]
 conv=>rhs;rw[<-CG ps]
 exact BI fun p _=>by simp only[Function.comp,zf8];rfl
def cmpE(cs:List ColB)(a b:List Ce):Int:=cmpR cs (cesB a) (cesB b)
abbrev ltE(cs:List ColB):List Ce->List Ce->Bool:=fun a b=>decide (cmpE cs a b<0)
def zH8(cs:List ColB)(a b:List CellB):ltE cs (cesL a) (cesL b)=decide (cmpR cs a b<0):=by
 show decide (cmpR cs (cesB (cesL a)) (cesB (cesL b))<0)=_;rw[zf8,zf8]
def zrI(h:(kindsL cs)[i]?=some kd):∃a:i<cs.length,(cs[i]).2=kd:=by
 unfold kindsL at h;rw[List.getElem?_map]at h;obtain⟨c,b,rfl⟩:=Option.map_eq_some_iff.1 h;obtain⟨a,e⟩:=AG.1 b;exact⟨a,by rw[e]⟩
def zA4(h:errRow cs r=0)(c:CES r)(d:(kindsL cs)[i]?=some kd):Fit kd ((cesL r).getD i (0,[])):=by
 obtain⟨_,j,hp⟩:=zaQ h;obtain⟨f,rfl⟩:=zrI d;have a:i<r.length:=by omega
 have g:=zrW hp (cs[i],r[i]) (by
  have b:i<(cs.zip r).length:=by rw[Bd];omega
  have e:(cs.zip r)[i]=(cs[i],r[i]):=List.getElem_zip ..;rw[<-e];exact AM b)
 have e:(cesL r).getD i (0,[])=ceL r[i]:=by unfold cesL;simp[List.getD,a]
 rw[e];exact⟨g,(c _ (AM a)).1⟩
def zHH(j:errS (colsL cs)=0)(l:r.length=cs.length)(h:∀i kd,(kindsL cs)[i]?=some kd->Fit kd ((cesL r).getD i (0,[]))):errRow cs r=0:=by
 unfold errRow errC;rw[Ab j,Ab l];apply zCB;intro x m;obtain⟨i,k⟩:=AW m;obtain⟨f,c⟩:=AG.1 k;have g:=f;rw[Bd]at g;have a:i<cs.length:=by omega
 have b:i<r.length:=by omega
 rw[List.getElem_zip]at c;have d:=h i (cs[i]).2 (by unfold kindsL;simp[a]);have e:(cesL r).getD i (0,[])=ceL r[i]:=by unfold cesL;simp[List.getD,b]
 rw[e]at d;subst c;exact d.ok
def zEL(a:errS (colsL cs)=0)(h:(kindsL cs)[i]?=some kd):0<=kd/\kd<=5:=by
 obtain⟨b,rfl⟩:=zrI h;have:=(zaO a).2.2.2 (colL cs[i]) (Au.2 ⟨_,AM b,rfl⟩);exact this.2
def zdO(p:PairB)(t:List PairB):zaT (p::t)=cesL p.1::zaT t:=rfl
def zD2{cs:List ColB}:∀{ps:List PairB},(∀p∈ps,Vr cs p.1)->btAsc (ltE cs) (zaT ps)=true->Z.srt (cmpR cs) ps
 | [],_,_=>List.Pairwise.nil
 | [p],_,_=>List.Pairwise.cons (fun x a=>absurd a (by simp)) List.Pairwise.nil
 | p::q::t,hV,h=>by
  rw[zdO,zdO,btAsc,CX,zH8]at h;obtain⟨b,c⟩:=h;have b:=Cm b;have ih:=zD2 (ps:=q::t) (fun x a=>hV x (Ct _ a)) c;refine List.Pairwise.cons (fun x a=>?_) ih;rcases Ba.1 a with rfl|a
  .exact b
  .exact(zbS cs).trans (hV p (by simp)) (hV q (by simp)) (hV x (by simp[a])) b ((BQ.1 ih).1 x a)
def zzW{cs:List ColB}:∀{ps:List PairB},Z.srt (cmpR cs) ps->btAsc (ltE cs) (zaT ps)=true
 | [],_=>rfl
 | [p],_=>rfl
 | p::q::t,h=>by
  obtain⟨a,b⟩:=BQ.1 h;rw[zdO,zdO,btAsc,CX,zH8];exact⟨Ah (a q (by simp)),zzW (ps:=q::t) b⟩
def zCU{c:Ce}(h:c∈btCol k (zaT ps)):∃p∈ps,c=(cesL p.1).getD k (0,[]):=by
 unfold btCol zaT at h;rw[A6]at h;obtain⟨p,hp,rfl⟩:=Au.1 h;exact⟨p,hp,rfl⟩
def zBO{p:PairB}(h:p∈ps):(cesL p.1).getD k (0,[])∈btCol k (zaT ps):=by
 unfold btCol zaT;rw[A6];exact Au.2 ⟨p,h,rfl⟩
def zvK(e:PSO ps)(h:chkZ cs ps=0):PsOk cs ps/\BtOk (ltE cs) (kindsL cs) (psL ps):=by
 obtain⟨f,l,a⟩:=(zb9 e).1 h;have m:∀p∈ps,p.1.length=cs.length:=fun p hp=>(zaQ (a.all p hp).1).2.1;have j:zsV (kindsL cs) 0 (zaT ps):=fun i kd k=>⟨zEL f k,fun c g=>by
  rw[A5]at g;obtain⟨p,hp,rfl⟩:=zCU g;exact zA4 (a.all p hp).1 (a.all p hp).2 k⟩
 have b:cs.length<=8:=by have:=(zaO f).2.1;rw[za4]at this;exact this
 refine⟨⟨b,l,m,j⟩,⟨?_,?_,?_,?_,?_⟩⟩
 .rw[zeD];exact j
 .intro q d;obtain⟨p,hp,rfl⟩:=Au.1 d;show(cesL p.1).length=_;rw[za8,m p hp];unfold kindsL;rw[Ad]
 .intro q d;obtain⟨p,hp,rfl⟩:=Au.1 d;exact⟨a.nz p hp,(e p hp).2⟩
 .rw[zdQ];exact l
 rw[zeD];exact zzW a.srt
def zIO(b:PSO ps)(c:errS (colsL cs)=0)(h:BtOk (ltE cs) (kindsL cs) (psL ps)):chkZ cs ps=0:=by
 have d:∀p∈ps,Vr cs p.1:=fun p hp=>by
  have a:(cesL p.1,p.2)∈psL ps:=Au.2 ⟨p,hp,rfl⟩;refine⟨zHH c ?_ (fun i kd e=>?_),(b p hp).1⟩
  .have:=h.wide _ a;rw[za8]at this;rw[this];unfold kindsL;rw[Ad]
  have:=(h.fit i kd e).2;rw[zeD,A5]at this;exact this _ (zBO hp)
 refine(zb9 b).2 ⟨c,by have:=h.few;rw[zdQ]at this;exact this,?_,d,fun p hp=>?_⟩
 .have:=h.asc;rw[zeD]at this;exact zD2 d this
 have a:(cesL p.1,p.2)∈psL ps:=Au.2 ⟨p,hp,rfl⟩;exact(h.wts _ a).1
end
section
open _root_.Go.Proofs.Tryz
def bat(lt:List Ce->List Ce->Bool)(E:Nat)(l:Bs)(kinds:List Int)(k:Nat):List Bp×Nat×Nat:=if E≠0 then([],k,E)else btRd lt l kinds k
def zI1(lt:List Ce->List Ce->Bool)(l:Bs)(n:Nat)(cols:List (List Ce))(k:Nat):List Bp×Nat×Nat :=
 if(zaB l n k).2.2≠0 then([],(zaB l n k).2.1,(zaB l n k).2.2)
 else if btAsc lt (btRows n cols)=false then([],(zaB l n k).2.1,9)
 else((btRows n cols).zip (zaB l n k).1,(zaB l n k).2.1,0)
def zcL(lt:List Ce->List Ce->Bool)(l:Bs)(n:Nat)(cols:List (List Ce))(ws:List Int)(r k:Nat):List Bp×Nat×Nat :=
 if(zaB l r k).2.2≠0 then([],(zaB l r k).2.1,(zaB l r k).2.2)
 else if btAsc lt (btRows n cols)=false then([],(zaB l r k).2.1,9)
 else((btRows n cols).zip (ws++(zaB l r k).1),(zaB l r k).2.1,0)
variable {l:Bs} {kd:Int} {a:List (List Ce)} {lt:List Ce->List Ce->Bool} {cs:List ColB} {ps:List PairB} {k n r:Nat}
def znZ{b:List Int}(h:(rdU l k 18446744073709551615).2.2≠0) :zcL lt l n a b (r+1) k=([],(rdU l k 18446744073709551615).2.1,(rdU l k 18446744073709551615).2.2):=by
 have e:zaB l (r+1) k=([],(rdU l k 18446744073709551615).2.1,(rdU l k 18446744073709551615).2.2):=by rw[zaB,Ab h]
 unfold zcL;rw[e,Ab h]
def zm3{d:List Int}(h:(rdU l k 18446744073709551615).2.2=0)(c:zag (rdU l k 18446744073709551615).1=0) :zcL lt l n a d (r+1) k=([],(rdU l k 18446744073709551615).2.1,2):=by
 have e:zaB l (r+1) k=([],(rdU l k 18446744073709551615).2.1,2):=by rw[zaB,Aa (fun b=>b h),Ab c]
 unfold zcL;rw[e,Ab (by simp)]
def zsM{c:List Int}(h:(rdU l k 18446744073709551615).2.2=0)(f:zag (rdU l k 18446744073709551615).1≠0) :zcL lt l n a c (r+1) k=zcL lt l n a (c++[zag (rdU l k 18446744073709551615).1]) r (rdU l k 18446744073709551615).2.1:=by
 have e:zaB l (r+1) k=if(zaB l r (rdU l k 18446744073709551615).2.1).2.2≠0 then([],(zaB l r (rdU l k 18446744073709551615).2.1).2.1,(zaB l r (rdU l k 18446744073709551615).2.1).2.2)else(zag (rdU l k 18446744073709551615).1::(zaB l r (rdU l k 18446744073709551615).2.1).1,(zaB l r (rdU l k 18446744073709551615).2.1).2.1,0):=by
  rw[zaB,Aa (fun d=>d h),Aa f]
 unfold zcL;rw[e];by_cases b:(zaB l r (rdU l k 18446744073709551615).2.1).2.2≠0
 .simp only[Ab b]
 simp only[Aa b];rw[Aa (by simp),An];rfl
def znY(lt:List Ce->List Ce->Bool)(l:Bs)(n:Nat)(a:List (List Ce))(b:List Int)(k:Nat) :zcL lt l n a b 0 k=if btAsc lt (btRows n a)=false then([],k,9)else((btRows n a).zip b,k,0):=by
 unfold zcL;rw[zaB,Aa (by simp)];dsimp only;rw[AV]
def zfA(lt:List Ce->List Ce->Bool):∀L:List (List Ce),btAsc lt L=true↔∀j,j+1<L.length->lt (L.getD j []) (L.getD (j+1) [])=true
 | []=>by simp[btAsc]
 | [_]=>by simp[btAsc]
 | a::b::r=>by
  rw[btAsc,CX,zfA lt (b::r)];constructor
  ·rintro⟨d,e⟩j c
   cases j with
   | zero=>exact d
   | succ j=>exact e j (by simpa using c)
  .intro h
   exact⟨h 0 (by simp),fun j c=>h (j+1) (by simpa using c)⟩
def zcO(lt:List Ce->List Ce->Bool)(l:Bs)(n:Nat)(done:List (List Ce))(kinds:List Int)(k:Nat):List Bp×Nat×Nat :=
 if(za3 l n kinds k).2.2≠0 then([],(za3 l n kinds k).2.1,(za3 l n kinds k).2.2)
 else zI1 lt l n (done++(za3 l n kinds k).1) (za3 l n kinds k).2.1
def zo0(lt:List Ce->List Ce->Bool)(l:Bs)(n:Nat)(a:List (List Ce))(k:Nat):zcO lt l n a [] k=zI1 lt l n a k:=by
 unfold zcO;rw[za3,Aa (by simp),AV]
def zm4{r:List Int}(h:(rdK l kd n k).2.2=0) :zcO lt l n a (kd::r) k=zcO lt l n (a++[(rdK l kd n k).1]) r (rdK l kd n k).2.1:=by
 unfold zcO;have e:za3 l n (kd::r) k=if(za3 l n r (rdK l kd n k).2.1).2.2≠0 then([],(za3 l n r (rdK l kd n k).2.1).2.1,(za3 l n r (rdK l kd n k).2.1).2.2)else((rdK l kd n k).1::(za3 l n r (rdK l kd n k).2.1).1,(za3 l n r (rdK l kd n k).2.1).2.1,0):=by
  rw[za3,Aa (fun c=>c h)]
 rw[e];by_cases b:(za3 l n r (rdK l kd n k).2.1).2.2≠0
 .simp only[Ab b]
 simp only[Aa b];rw[Aa (by simp),An];rfl
def zo1{r:List Int}(h:(rdK l kd n k).2.2≠0) :zcO lt l n a (kd::r) k=([],(rdK l kd n k).2.1,(rdK l kd n k).2.2):=by
 unfold zcO;have e:za3 l n (kd::r) k=([],(rdK l kd n k).2.1,(rdK l kd n k).2.2):=by rw[za3,Ab h]
 rw[e,Ab h]
def zsL{kinds:List Int}(h:(rdU l k 1024).2.2=0):btRd lt l kinds k=zcO lt l (rdU l k 1024).1 [] kinds (rdU l k 1024).2.1:=by
 unfold btRd zcO zI1;rw[Aa (fun a=>a h),AA]
def CES.nil9:CES []:=fun c a=>absurd a (by simp)
def CES.snoc9{cs:List CellB}(h:CES cs){c:CellB}(b:ceS c):CES (cs++[c]):=by
 intro x a;rcases AD.1 a with a|a
 .exact h x a
 rw[AH.1 a];exact b
def znR{cs:List CellB}(a:k<cs.length):(cesL cs).getD k (0,[])=ceL (cs.getD k default):=by
 unfold cesL;simp[List.getD,a]
def zi3(ts:List TriB)(done:List (List Ce)):Prop:=∀(i:Nat)(t:TriB),ts[i]?=some t->cesL t.2.1=(done.map fun c=>c.getD i (0,[]))/\t.2.2=0/\CES t.2.1
/- -/
open Go.Shelf
abbrev batS(cs:List ColB)(l:Bs)(k:Nat):List Bp×Nat×Nat:=bat (ltE cs) (errS (colsL cs)) l (kindsL cs) k
def zyE(a:PSO ps)(h:chkZ cs ps=0):errS (colsL cs)=0:=((zb9 a).1 h).1
def zi2(h:errS (colsL cs)=0)(l:Bs)(k:Nat):batS cs l k=btRd (ltE cs) l (kindsL cs) k:=by
 unfold batS bat;rw[Aa (by simpa using h)]
def zI3(a:PSO ps)(h:chkZ cs ps=0) {m:Bs}(b:l.drop k=btWr (kindsL cs) (psL ps)++m):batS cs l k=(psL ps,k+(btWr (kindsL cs) (psL ps)).length,0):=by
 rw[zi2 (zyE a h)];exact zFE (zvK a h).2 b
def zmS{cs:List ColB}:∀{ps:List PairB},(∀p∈ps,errRow cs p.1=0/\CES p.1)->zm1 (zaT ps)<=2048*ps.length
 | [],_=>by simp[zaT,zm1]
 | p::t,h=>by
  have ih:=zmS (ps:=t) (fun q n=>h q (by simp[n]));obtain⟨a,l⟩:=h p (by simp);have w:=(zaQ a).2.1;have v:cs.length<=8:=by have:=(zaO (zaQ a).1).2.1;rw[za4]at this;exact this
  rw[zdO,zm1,Ap];have s:sumT (cesL p.1)<=256*(cesL p.1).length:=by
   have key:∀r:List Ce,(∀c∈r,c.2.length<=256)->sumT r<=256*r.length:=fun r=>by
    induction r with
    | nil=>intro _;simp[sumT]
    | cons c r ih2=>intro j;have:=ih2 (fun x u=>j x (by simp[u]));have:=j c (by simp);rw[sumT,Ap];omega
   refine key _ (fun c b=>?_);obtain⟨i,g⟩:=AW b;obtain⟨f,m⟩:=AG.1 g;rw[za8]at f;have d:=zA4 a l (i:=i) (kd:=(cs[i]'(by omega)).2) (by unfold kindsL;simp[show i<cs.length by omega]);have e:(cesL p.1).getD i (0,[])=c:=by simp[List.getD,g]
   rw[e]at d;by_cases k:(cs[i]'(by omega)).2=3\/(cs[i]'(by omega)).2=4
   .exact(d.text k).2.1
   .rw[(d.num k).1];simp
  rw[za8]at s;omega
def zJ6(a:PSO ps)(h:chkZ cs ps=0):(btWr (kindsL cs) (psL ps)).length<=12+10*ps.length*(cs.length+1)+zm1 (zaT ps):=by
 have:=zI0 (zvK a h).2;rw[zdQ,zeD,show(kindsL cs).length=cs.length from by unfold kindsL;rw[Ad]]at this;exact this
def zv0(a:PSO ps)(h:chkZ cs ps=0):(btWr (kindsL cs) (psL ps)).length<=2500000:=by
 have d:=zJ6 a h;obtain⟨b,i,c⟩:=(zb9 a).1 h;have e:=zmS (cs:=cs) (ps:=ps) (fun p hp=>c.all p hp);have g:cs.length<=8:=by have:=(zaO b).2.1;rw[za4]at this;exact this
 have f:10*ps.length*(cs.length+1)<=10*ps.length*9:=Bn _ (by omega);omega
def zFN(cs:List ColB)(ps:List PairB):0<(btWr (kindsL cs) (psL ps)).length:=by
 unfold btWr;rw[Ae];have:=zpH (psL ps).length;omega
/- -/
/-- What is asked of two pairs. -/
def zzY(t u:Value)(a b:List CellB)(x y:Int)(W:World)(l:RdE W t a)(m:RdE W u b) :Calls prog 160 #[.agg #[t,.int .i64 x],.agg #[u,.int .i64 y]] W fun e w'=>e=.returned (.bool (decide ((a,x)=(b,y))))/\Lz W w':=by
 obtain⟨C,n,cap,rfl⟩:=l.lit;obtain⟨k,E,f,rfl⟩:=m.lit;obtain⟨w,z,A,j⟩:=new2 W (.cells #[.slice C n cap,.int .i64 x] 69) (.cells #[.slice k E f,.int .i64 y] 69);have i:=h_ (zvN _ _ a b _ (l.later j l_) (m.later j l_));have p:=h_ j;clear w z A j l m;by_cases d:x=y
 .subst d;have s:decide ((a,x)=(b,x))=decide (a=b):=by
   by_cases e:a=b
   .subst e;simp
   rw[Af e,Af (fun h=>e (Prod.mk.inj h).1)]
  rw[s];obtain⟨c,g⟩:=nm_ (decide (a=b));rw[<-g]at i ⊢;have D:(x==x)=true:=by simp
  clear g s;go_enter func160,ntmps160;go_wp2_with fail;refine i.mono ?_;rintro e G⟨rfl,r⟩;have v:=bT p r;clear r i;go_wp2;go_ret;exact⟨rfl,v.o⟩
 have D:(x==y)=false:=by rw[As];exact d
 rw[Af (fun h:(a,x)=(b,y)=>d (Prod.mk.inj h).2)];clear i d;go_enter func160,ntmps160;go_wp2;go_ret;exact⟨rfl,p.o⟩
def zkQ(v1 v2:Value)(ps qs:List PairB)(w:World)(V:RdP w v1 ps)(X:RdP w v2 qs) :Calls prog 159 #[v1,v2,.func (.func 160) #[] #[]] w fun e w'=>e=.returned (.bool (decide (ps=qs)))/\Lz w w':=by
 have O:=V.len;have z:=X.len;have S:=V.small;have A:=X.small;have H1:=h_ V;have H2:=h_ X;clear V X;by_cases c:ps.length=qs.length
 .obtain⟨n,D⟩:=nm_ ps.length;rw[<-c]at z A;rw[<-D]at O z S A;have HN:=h_ D;have HL:=h_ c;clear c D;go_enter func159,ntmps159;go_wp2;go_loopw [17] (fun i wr=>∃k:Nat,k<=n/\i=.int .i64 k/\Hid (ps.take k=qs.take k)/\Hid (Lz w wr)) (fun i _=>n-(intOf i).toNat)
  case atStart=>exact⟨0,by omega,rfl,h_ (by simp),h_ (Ac _ _)⟩
  obtain⟨k,hk,rfl,HE,u⟩:=hrel;by_cases af:k<n
  .have Y:k<ps.length:=(by rw[<-HN.o];exact af);have k2:k<qs.length:=(by rw[<-HL.o];exact Y);obtain⟨b,o,rv,hi,c0,U,T,L⟩:=H1.get Y;obtain⟨b',o',aA,aw,H,r,l,g⟩:=H2.get k2;obtain⟨ao,nn,cap,rfl⟩:=T.lit;obtain⟨ae,ah,I,rfl⟩:=l.lit;have HT:=h_ (show ps.take (k+1)=ps.take k++[ps.getD k default]from by rw[BL];simp[List.getD,Y]);have G:=h_ (show qs.take (k+1)=qs.take k++[qs.getD k default]from by rw[BL];simp[List.getD,k2]);have f:=h_ (fun e:ps=qs=>show ps.getD k default=qs.getD k default by rw[e]);obtain⟨p,hp⟩:=nm_ (ps.getD k default);obtain⟨p',Q⟩:=nm_ (qs.getD k default);rw[<-hp]at U T HT f;rw[<-Q]at r l G f;rcases p with⟨Z,x⟩
   rcases p' with⟨r2,y⟩;dsimp only at U T r l;have M:=(u.cell (p:=⟨b,o,none⟩) L).trans c0;have N:=(u.cell (p:=⟨b,o+1,none⟩) L).trans U;have s:=(u.cell (p:=⟨b',o',none⟩) g).trans H;have t:=(u.cell (p:=⟨b',o'+1,none⟩) g).trans r;have av:b'<wr.heap.size:=AE g u.size;have NN:=h_ (new2 wr (.cells #[.slice ao nn cap,.int .i64 x] 69) (.cells #[.slice ae ah I,.int .i64 y] 69));have a:=bT u NN.2.2.2;have C:=h_ (zzY _ _ Z r2 x y _ (T.later a.o l_) (l.later a.o l_));clear hp Q Y k2 T l c0 U H r;by_cases d:(Z,x)=(r2,y)
   .have j:decide ((Z,x)=(r2,y))=true:=Ah d;rw[j]at C;have ab:=h_ (show ps.take (k+1)=qs.take (k+1)from by rw[HT.o,G.o,HE.o,d]);clear j d f;go_wp2_with fail;refine C.mono ?_;rintro e w3⟨rfl,J⟩;have v:=bT a J;clear J C M N s t NN a;go_wp2;go_roundw
    case rel=>exact⟨k+1,by omega,by go_num,ab,v⟩
    simp[intOf];omega
   have j:decide ((Z,x)=(r2,y))=false:=Af d;rw[j]at C;have E:=h_ (show decide (ps=qs)=false from Af (fun e=>d (f.o e)));clear j d f;go_wp2_with fail;refine C.mono ?_;rintro e w3⟨rfl,J⟩;have v:=bT a J;clear J C M N s t NN a;go_wp2;go_ret;exact⟨by rw[E.o];rfl,v.o⟩
  obtain rfl:k=n:=by omega
  have E:=h_ (show decide (ps=qs)=true from Ah (by
   have h:=HE.o;rwa[Am (by rw[<-HN.o];exact l_),Am (by rw[<-HL.o,<-HN.o];exact l_)]at h))
  go_wp2;go_ret;exact⟨by rw[E.o];rfl,u.o⟩
 have E:=h_ (show decide (ps=qs)=false from Af (fun e=>c (by rw[e])));obtain⟨n,D⟩:=nm_ ps.length;obtain⟨m,hm⟩:=nm_ qs.length;rw[<-D]at O S c;rw[<-hm]at z A c;have ax:((n:Int)!=(m:Int))=true:=by rw[Ao];omega
 clear D hm H1 H2;go_enter func159,ntmps159;go_wp2;go_ret;exact⟨by rw[E.o];rfl,Ac _ _⟩
def zyM(b d:Value)(ps qs:List PairB)(w:World)(f:RdP w b ps)(g:RdP w d qs) :Calls prog 112 #[b,d] w fun e w'=>e=.returned (.bool (decide (ps=qs)))/\Lz w w':=by
 have a:=h_ (zkQ b d ps qs w f g);obtain⟨c,i⟩:=nm_ (decide (ps=qs));rw[<-i]at a ⊢;clear i f g;go_enter func112,ntmps112;go_wp2_with fail;refine a.mono ?_;rintro e k⟨rfl,h⟩;have j:=h_ h;clear h a;go_wp2;go_ret;exact⟨rfl,j.o⟩
end
section
def zc5(l:Bs)(ah:List Bs)(k:Nat):Col×Nat×Nat :=
 if(rdB l k 32).2.2≠0 then(([],0),(rdB l k 32).2.1,(rdB l k 32).2.2)
 else if fine (rdB l k 32).1 ah=false then(([],0),(rdB l k 32).2.1,2)
 else if ¬(rdB l k 32).2.1<l.length then(([],0),(rdB l k 32).2.1,5)
 else if 5<at8 l (rdB l k 32).2.1 then(([],0),(rdB l k 32).2.1+1,10)
 else(((rdB l k 32).1,at8 l (rdB l k 32).2.1),(rdB l k 32).2.1+1,0)
def zaR(l:Bs):Nat->List Col->Nat->List Col×Nat×Nat
 | 0,acc,k=>(acc,k,0)
 | m+1,acc,k=>if(zc5 l (names acc) k).2.2≠0 then([],(zc5 l (names acc) k).2.1,(zc5 l (names acc) k).2.2)else zaR l m (acc++[(zc5 l (names acc) k).1]) (zc5 l (names acc) k).2.1
def rdTake(l:Bs):List Col×Nat×Nat :=
 if(rdU l 0 8).2.2≠0 then([],(rdU l 0 8).2.1,(rdU l 0 8).2.2)
 else if(rdU l 0 8).1=0 then([],(rdU l 0 8).2.1,4)
 else zaR l (rdU l 0 8).1 [] (rdU l 0 8).2.1
variable {b l rest:Bs} {c:Col} {a:List Bs} {cs:List ColB} {k m most n x:Nat}
def zg7(h:(rdB l k 32).2.2≠0):zc5 l a k=(([],0),(rdB l k 32).2.1,(rdB l k 32).2.2):=by unfold zc5;rw[Ab h]
def zhO(h:(rdB l k 32).2.2=0)(b:fine (rdB l k 32).1 a=false):zc5 l a k=(([],0),(rdB l k 32).2.1,2):=by unfold zc5;rw[Aa (fun c=>c h),Ab b]
def zg6(h:(rdB l k 32).2.2=0)(b:fine (rdB l k 32).1 a=true)(d:¬(rdB l k 32).2.1<l.length):zc5 l a k=(([],0),(rdB l k 32).2.1,5):=by
 unfold zc5;rw[Aa (fun c=>c h),Aa (by rw[b];decide),Ab d]
def zhP{b:List Bs}(h:(rdB l k 32).2.2=0)(c:fine (rdB l k 32).1 b=true)(e:(rdB l k 32).2.1<l.length)(d:5<at8 l (rdB l k 32).2.1):zc5 l b k=(([],0),(rdB l k 32).2.1+1,10):=by
 unfold zc5;rw[Aa (fun a=>a h),Aa (by rw[c];decide),Aa (fun a=>a e),Ab d]
def zjF{b:List Bs}(h:(rdB l k 32).2.2=0)(c:fine (rdB l k 32).1 b=true)(e:(rdB l k 32).2.1<l.length)(d:¬5<at8 l (rdB l k 32).2.1):zc5 l b k=(((rdB l k 32).1,at8 l (rdB l k 32).2.1),(rdB l k 32).2.1+1,0):=by
 unfold zc5;rw[Aa (fun a=>a h),Aa (by rw[c];decide),Aa (fun a=>a e),Aa d]
def zbU{a:List Col} {b:Nat}(h:zc5 l (names a) k=(([],0),b,x))(c:x≠0):zaR l (m+1) a k=([],b,x):=by
 rw[zaR,h,Ab c]
def zkL{a:List Col} {b:Nat}(h:zc5 l (names a) k=(c,b,0)):zaR l (m+1) a k=zaR l m (a++[c]) b:=by
 rw[zaR,h,Aa (by simp)]
def readE(l:Bs):Nat:=told l (rdTake l).2.1 (rdTake l).2.2
def readC(l:Bs):List Col:=if readE l=0 then(rdTake l).1 else[]
/- -/
def zqC{x:Bs}(h:x=(l.drop k).take n):l.take (k+n)=l.take k++x:=by
 rw[h,Cy]
def zGY(f:k<=l.length)(h:(rdU l k most).2.2=0) :l.take (rdU l k most).2.1=l.take k++encU (rdU l k most).1/\(rdU l k most).2.1<=l.length/\(rdU l k most).1<=most:=by
 unfold rdU at h ⊢;by_cases a:(getU (l.drop k)).2.2≠0
 .rw[Ab a]at h;exact absurd h a
 rw[Aa a]at h ⊢;by_cases c:most<(getU (l.drop k)).1
 .rw[Ab c]at h;cases h
 rw[Aa c];have b:(getU (l.drop k)).2.2=0:=Av a;have e:=zaY (l.drop k) b;have d:encU (getU (l.drop k)).1=(l.drop k).take (getU (l.drop k)).2.1:=zp4 (l:=l.drop k) (by rw[<-b]);rw[Ay]at e;exact⟨zqC d,by dsimp only;omega,by dsimp only;omega⟩
def zC5(h:(getB l (most:Int)).2.2=0):(getB l (most:Int)).1.length<=most:=by
 unfold getB at h ⊢;split at h
 .rename_i h1;exact absurd h h1
 rename_i h1;split at h
 .cases h
 rename_i h2;split at h
 .cases h
 rename_i h3;rw[Aa h1,Aa h2,Aa h3];dsimp only;rw[Aq];omega
def zH1(g:k<=l.length)(h:(rdB l k 32).2.2=0) :l.take (rdB l k 32).2.1=l.take k++encB (rdB l k 32).1/\(rdB l k 32).2.1<=l.length/\(rdB l k 32).1.length<=32:=by
 unfold rdB at h ⊢;by_cases a:(getB (l.drop k) 32).2.2≠0
 .rw[Ab a]at h;exact absurd h a
 rw[Aa a];have b:(getB (l.drop k) 32).2.2=0:=Av a;obtain⟨e,f,d,_⟩:=zp6 (l:=l.drop k) (most:=32) (c:=(getB (l.drop k) 32).1) (n:=(getB (l.drop k) 32).2.1) (by rw[<-b]);rw[Ay]at d;exact⟨zqC e,by dsimp only;omega,zC5 (most:=32) b⟩
def zAR(j:k<=l.length)(h:(zc5 l a k).2.2=0) :l.take (zc5 l a k).2.1=l.take k++zgL (zc5 l a k).1/\(zc5 l a k).2.1<=l.length/\zaI a (zc5 l a k).1=0:=by
 by_cases b:(rdB l k 32).2.2=0
 .obtain⟨i,m,g⟩:=zH1 j b;by_cases c:fine (rdB l k 32).1 a=true
  .by_cases d:(rdB l k 32).2.1<l.length
   .by_cases f:5<at8 l (rdB l k 32).2.1
    .rw[zhP b c d f]at h;cases h
    rw[zjF b c d f];dsimp only;have n:0<=at8 l (rdB l k 32).2.1:=(by unfold at8;omega);refine⟨?_,by omega,?_⟩
    .rw[zaH d 0,i];unfold zgL;dsimp only;rw[show UInt8.ofNat (at8 l (rdB l k 32).2.1).toNat=l.getD (rdB l k 32).2.1 0 from by unfold at8;rw[Aw];simp,An]
    unfold zaI;dsimp only;rw[Aa (by omega),Aa (by rw[c];simp),Aa (by omega)]
   rw[zg6 b c d]at h;cases h
  have e:fine (rdB l k 32).1 a=false:=by simpa using c
  rw[zhO b e]at h;cases h
 rw[zg7 b]at h;exact absurd h b
def ziL:∀(a:List Col)(b:List Bs)(c:Col),errFrom b a=0->zaI (b++names a) c=0->errFrom b (a++[c])=0
 | [],b,c,_,hc=>by
  rw[AA,errFrom,Aa (by simpa[names]using hc),errFrom]
 | x::r,b,c,h,hc=>by
  rw[errFrom]at h;by_cases d:zaI b x≠0
  .rw[Ab d]at h;exact absurd h d
  .rw[Aa d]at h
   rw[AQ,errFrom,Aa d];refine ziL r _ c h ?_;rw[An];exact hc
def zn8(l P:Bs):∀(m:Nat)(a:List Col)(k:Nat),k<=l.length->l.take k=P++zaK a->errFrom [] a=0->(zaR l m a k).2.2=0 ->l.take (zaR l m a k).2.1=P++zaK (zaR l m a k).1/\(zaR l m a k).2.1<=l.length/\errFrom [] (zaR l m a k).1=0/\(zaR l m a k).1.length=a.length+m
 | 0,a,k,hk,ht,he,h=>by rw[zaR];exact⟨ht,hk,he,rfl⟩
 | m+1,a,k,hk,ht,he,h=>by
  rw[zaR]at h ⊢;by_cases b:(zc5 l (names a) k).2.2≠0
  .rw[Ab b]at h;exact absurd h b
  .rw[Aa b]at h ⊢
   obtain⟨c,d,e⟩:=zAR hk (Av b);have ih:=zn8 l P m (a++[(zc5 l (names a) k).1]) (zc5 l (names a) k).2.1 d (by
    rw[c,ht];unfold zaK;rw[List.flatMap_append,An];simp) (ziL a [] _ he (by simpa using e)) h
   refine⟨ih.1,ih.2.1,ih.2.2.1,?_⟩;rw[ih.2.2.2,Ae,AN];omega
def zxH(h:(rdTake l).2.2=0):l.take (rdTake l).2.1=wrS (rdTake l).1/\(rdTake l).2.1<=l.length/\errS (rdTake l).1=0:=by
 unfold rdTake at h ⊢;by_cases a:(rdU l 0 8).2.2≠0
 .rw[Ab a]at h;exact absurd h a
 rw[Aa a]at h ⊢;by_cases b:(rdU l 0 8).1=0
 .rw[Ab b]at h;cases h
 rw[Aa b]at h ⊢;obtain⟨u1,u2,u3⟩:=zGY (Bg _) (Av a);rw[AU,AA]at u1;obtain⟨d,e,f,c⟩:=zn8 l (encU (rdU l 0 8).1) (rdU l 0 8).1 [] (rdU l 0 8).2.1 u2 (by rw[u1];simp[zaK]) rfl h;rw[Bh,A5]at c;refine⟨?_,e,?_⟩
 .rw[d];unfold wrS;rw[c]
 unfold errS;rw[Aa (by omega),Aa (by omega)];exact f
def zzM(h:told l k x=0):x=0/\l.length<=k:=by
 unfold told at h;split at h
 .rename_i hx;split at h
  .cases h
  exact⟨hx,by omega⟩
 rename_i hx;exact absurd h hx
def zjE(h:readE l=0):errS (readC l)=0/\wrS (readC l)=l/\(rdTake l).2.1=l.length:=by
 obtain⟨e,f⟩:=zzM h;obtain⟨a,b,c⟩:=zxH e;have d:(rdTake l).2.1=l.length:=by omega
 rw[d,Am l_]at a;unfold readC;rw[Ab h];exact⟨c,a.symm,d⟩
/- -/
def zIK {n:Bs}(a:l.drop k=encB n++rest)(b:n.length<=32):rdB l k 32=(n,k+(encB n).length,0):=by
 unfold rdB;rw[a,getB_put' n rest 32 (by omega) (by omega)];rfl
def zs3 {a:Bs}(c:l.drop k=a++b):l.drop (k+a.length)=b:=by
 rw[<-B0,c,B4 rfl]
def zHN {a:Bs}{x:UInt8}(c:l.drop k=a++x::b):k+a.length<l.length:=by
 have:=congrArg List.length c;rw[Ay,Ae,Ap]at this;omega
def zpV(c:Col):(zgL c).length=(encB c.1).length+1:=by unfold zgL;simp
def zAQ{g:List Bs}(m:l.drop k=zgL c++rest)(j:zaI g c=0):zc5 l g k=(c,k+(zgL c).length,0):=by
 obtain⟨h,i,n,p⟩:=zgF j;have a:l.drop k=encB c.1++(UInt8.ofNat c.2.toNat::rest):=by rw[m];unfold zgL;simp
 have d:=zIK a h;have b:=zHN a;have f:at8 l (k+(encB c.1).length)=c.2:=by
  have e:=zs3 a;rw[Bf b]at e;injection e with e1 e2
  unfold at8;rw[show l.getD (k+(encB c.1).length) 0=l[k+(encB c.1).length]from by simp[List.getD,b],e1,UInt8.toNat_ofNat'];omega
 rw[zjF (by rw[d]) (by rw[d];exact i) (by rw[d];exact b) (by rw[d];dsimp only;rw[f];omega),d];dsimp only;rw[f,zpV,BD]
def zrY{r:List Col}(h:errFrom a (c::r)=0):zaI a c=0/\errFrom (a++[c.1]) r=0:=by
 rw[errFrom]at h;by_cases b:zaI a c≠0
 .rw[Ab b]at h;exact absurd h b
 rw[Aa b]at h;exact⟨Av b,h⟩
def zxV(a:List Col)(c:Col):names (a++[c])=names a++[c.1]:=by simp[names]
def zn7(l m:Bs):∀(r a:List Col)(k:Nat),l.drop k=zaK r++m->errFrom (names a) r=0->zaR l r.length a k=(a++r,k+(zaK r).length,0)
 | [],a,k,hd,he=>by rw[Bh,zaR];simp[zaK]
 | c::r,a,k,hd,he=>by
  obtain⟨d,e⟩:=zrY he;have b:zaK (c::r)=zgL c++zaK r:=by unfold zaK;rw[Db]
  rw[b,An]at hd;have hp:=zAQ hd d;rw[Ap,zkL hp,zn7 l m r (a++[c]) _ (zs3 hd) (by rw[zxV];exact e),b,Ae];simp[BD]
def zxG{cs:List Col}(h:errS cs=0)(m:Bs):rdTake (wrS cs++m)=(cs,(wrS cs).length,0):=by
 obtain⟨c,d,b,_⟩:=zaO h;have a:rdU (wrS cs++m) 0 8=(cs.length,(encU cs.length).length,0):=by
  unfold rdU wrS;rw[Bz,An,zfE cs.length (by omega)];dsimp only;rw[Aa (by omega),Aa (by omega)];simp
 unfold rdTake;rw[a];dsimp only;rw[Aa (by omega),Aa (by omega)];rw[zn7 _ m cs [] _ (by unfold wrS;rw[An,B4 rfl]) b];unfold wrS;rw[Ae,AA]
def zoR{cs:List Col}(h:errS cs=0):readE (wrS cs)=0/\readC (wrS cs)=cs/\(rdTake (wrS cs)).2.1=(wrS cs).length:=by
 have e:=zxG h [];rw[AV]at e;have a:readE (wrS cs)=0:=by unfold readE;rw[e];unfold told;simp
 refine⟨a,?_,by rw[e]⟩;unfold readC;rw[Ab a,e]
/- -/
def frX(k:Nat)(l:Bs):Bs:=UInt8.ofNat k::encB l
def frB(k:Nat)(l:Bs):Bs:=frX k l++Crc.put (Crc.sum (frX k l))
def wrF(k:Int)(l:Bs):Bs×Nat :=
 if k<0\/2<k then([],10)else if 1048576<l.length then([],13)else(frB k.toNat l,0)
def nxF(b:Bs):Nat×Bs×Nat×Nat :=
 if b.length=0 then(0,[],0,5)
 else if 2<at8 b 0 then(0,[],0,10)
 else if(getB (b.drop 1) 1048576).2.2≠0 then(0,[],0,(getB (b.drop 1) 1048576).2.2)
 else if b.length<(getB (b.drop 1) 1048576).2.1+5 then(0,[],0,5)
 else if Crc.good (b.take ((getB (b.drop 1) 1048576).2.1+5))then((at8 b 0).toNat,(getB (b.drop 1) 1048576).1,(getB (b.drop 1) 1048576).2.1+5,0)
 else(0,[],0,8)
def zhU(k:Nat)(l:Bs):(frX k l).length=1+(encU l.length).length+l.length:=by
 simp[frX,encB];omega
def zfF(k:Nat)(l:Bs):(frB k l).length=5+(encU l.length).length+l.length:=by
 rw[frB,Ae,zhU,Crc.put_length];omega
def zh1(k:Nat)(h:l.length<=1048576):(frB k l).length<=1048576+15:=by
 have:=zaA l.length (by omega);rw[zfF];omega
def zb5(k:Nat)(l:Bs):6<=(frB k l).length:=by
 have:=zpH l.length;rw[zfF];omega
def zy6(h:getB b l.length=(l,n,0))(d:l.length<=1048576):getB b 1048576=(l,n,0):=by
 unfold getB at h ⊢;by_cases a:(getU b).2.2≠0
 .rw[Ab a]at h;exact absurd (congrArg (fun x=>x.2.2) h) a
 rw[Aa a]at h ⊢;by_cases c:(l.length:Int)<0\/(l.length:Int)<(getU b).1
 .rw[Ab c]at h;simp at h
 rw[Aa c]at h;rw[Aa (by omega)];exact h
def znI(l m:Bs)(a:l.length<=1048576):getB (encB l++m) 1048576=(l,(encB l).length,0) :=
 zy6 (zEP l m (by omega)) a
def zpN(c:UInt8)(l:Bs):at8 (c::l) 0=(c.toNat:Int):=by simp[at8]
def zjH(k:Nat)(l:Bs):frB k l=UInt8.ofNat k::(encB l++Crc.put (Crc.sum (frX k l))):=by
 rw[frB];rfl
def zhQ(k:Nat)(j:k<=2)(l m:Bs)(i:l.length<=1048576):nxF (frB k l++m)=(k,l,(frB k l).length,0):=by
 have f:=znI l (Crc.put (Crc.sum (frX k l))++m) i;have g:(frB k l++m).drop 1=encB l++(Crc.put (Crc.sum (frX k l))++m):=by
  rw[zjH];simp
 have e:at8 (frB k l++m) 0=(k:Int):=by
  rw[zjH,AQ,zpN,UInt8.toNat_ofNat'];omega
 have a:(encB l).length+5=(frB k l).length:=by rw[zfF,zbG];omega
 have hp:=zb5 k l;have h:Crc.good ((frB k l++m).take (frB k l).length):=by
  rw[Da];exact Crc.good_seal _
 unfold nxF;rw[g,f,e];dsimp only;have b:¬(frB k l++m).length=0:=by rw[Ae];omega
 have c:¬(2:Int)<(k:Int):=by omega
 have d:¬(frB k l++m).length<(frB k l).length:=by simp
 rw[a,Aa b,Aa c,Aa (by simp),Aa d,Ab h];simp
def zgR(c:UInt8)(l:Bs){i:Nat}(h:0<i):(c::l).take i=c::l.take (i-1):=by
 obtain⟨j,rfl⟩:∃j,i=j+1:=⟨i-1,by omega⟩;rfl
def zy5(h:getB b l.length=([],0,5))(e:l.length<=1048576)(d:(getU b).2.2=0->(getU b).1<=1048576):getB b 1048576=([],0,5):=by
 unfold getB at h ⊢;by_cases a:(getU b).2.2≠0
 .rw[Ab a]at h ⊢;exact h
 rw[Aa a]at h ⊢;have d:=d (by omega);by_cases c:(l.length:Int)<0\/(l.length:Int)<(getU b).1
 .rw[Ab c]at h;exact absurd (congrArg (fun x=>x.2.2) h) (by decide)
 rw[Aa c]at h;rw[Aa (by omega)];exact h
def zC4(l:Bs)(i:Nat)(b:l.length<=1048576):(getU ((encB l).take i)).2.2=0->(getU ((encB l).take i)).1<=1048576:=by
 intro c;by_cases a:i<(encU l.length).length
 .have e:(encB l).take i=(encU l.length).take i:=by unfold encB;rw[BH (by omega)]
  rw[e,zw2 l.length i (by omega) a];simp
 have e:(encB l).take i=encU l.length++l.take (i-(encU l.length).length):=by
  unfold encB;rw[Cd,Am (by omega)]
 rw[e,zfE l.length (by omega)];exact b
def zBG(k:Nat)(p:k<=2)(l:Bs)(c:l.length<=1048576)(i:Nat)(n:i<(frB k l).length):nxF ((frB k l).take i)=(0,[],0,5):=by
 have a:((frB k l).take i).length=i:=by rw[Aq];omega
 by_cases b:i=0
 .subst b;unfold nxF;rw[a,Ab rfl]
 have j:=zfF k l;have h:=zbG l;have g:((frB k l).take i).drop 1=(encB l++Crc.put (Crc.sum (frX k l))).take (i-1):=by
  rw[zjH,zgR _ _ (by omega)];rfl
 have d:at8 ((frB k l).take i) 0=(k:Int):=by
  rw[zjH,zgR _ _ (by omega),zpN,UInt8.toNat_ofNat'];omega
 unfold nxF;rw[g,d,a];by_cases f:i-1<(encB l).length
 .have e:(encB l++Crc.put (Crc.sum (frX k l))).take (i-1)=(encB l).take (i-1):=BH (by omega);have m:=zy5 (zEQ l (i-1) (by omega) f) c (zC4 l _ c);rw[e,m,Aa b,Aa (by omega),Ab (by simp)]
 have e:(encB l++Crc.put (Crc.sum (frX k l))).take (i-1)=encB l++(Crc.put (Crc.sum (frX k l))).take (i-1-(encB l).length):=by
  rw[Cd,Am (by omega)]
 rw[e,znI l _ c];dsimp only;rw[Aa b,Aa (by omega),Aa (by simp),Ab (by omega)]
def zp5{p:Bs} {e:Nat}(h:getB b 1048576=(p,n,e)):p.length<=1048576/\n<=b.length/\n<=1048586/\e<=13:=by
 have f:=zaY b;have l:=zdV b;unfold getB at h;by_cases a:(getU b).2.2≠0
 .rw[Ab a]at h;simp only[Prod.mk.injEq]at h;obtain⟨rfl,rfl,rfl⟩:=h;refine⟨by simp,by omega,by omega,by omega⟩
 rw[Aa a]at h;obtain⟨g,i,j,k⟩:=f (by omega);by_cases c:(1048576:Int)<0\/(1048576:Int)<(getU b).1
 .rw[Ab c]at h;simp only[Prod.mk.injEq]at h;obtain⟨rfl,rfl,rfl⟩:=h;refine⟨by simp,by omega,by omega,by omega⟩
 rw[Aa c]at h;by_cases d:b.length-(getU b).2.1<(getU b).1
 .rw[Ab d]at h;simp only[Prod.mk.injEq]at h;obtain⟨rfl,rfl,rfl⟩:=h;refine⟨by simp,by omega,by omega,by omega⟩
 rw[Aa d]at h;simp only[Prod.mk.injEq]at h;obtain⟨rfl,rfl,rfl⟩:=h;refine⟨by simp;omega,by omega,by omega,by omega⟩
def zoW(h:(nxF b).2.2.2=0):5<=(nxF b).2.2.1/\(nxF b).2.2.1<=b.length/\(nxF b).2.1.length<=1048576/\(nxF b).1<=2:=by
 have i:=zp5 (b:=b.drop 1) (p:=(getB (b.drop 1) 1048576).1) (n:=(getB (b.drop 1) 1048576).2.1) (e:=(getB (b.drop 1) 1048576).2.2) rfl;unfold nxF at h ⊢;by_cases d:b.length=0
 .rw[Ab d]at h;simp at h
 rw[Aa d]at h ⊢;by_cases f:2<at8 b 0
 .rw[Ab f]at h;simp at h
 rw[Aa f]at h ⊢;by_cases a:(getB (b.drop 1) 1048576).2.2≠0
 .rw[Ab a]at h;exact absurd h a
 rw[Aa a]at h ⊢;by_cases c:b.length<(getB (b.drop 1) 1048576).2.1+5
 .rw[Ab c]at h;simp at h
 rw[Aa c]at h ⊢;by_cases g:Crc.good (b.take ((getB (b.drop 1) 1048576).2.1+5))
 .rw[Ab g];refine⟨by simp,Nat.not_lt.1 c,i.1,?_⟩;have:=zfB b 0;show(at8 b 0).toNat<=2;omega
 rw[Aa g]at h;simp at h
/- -/
open Go.Shelf
def entP(cs:List ColB)(x:EntB):Bs:=encU x.2.1.toNat++btWr (kindsL cs) (psL x.2.2)
def entW(cs:List ColB)(x:EntB):Bs×Nat:=if entE cs x≠0 then([],entE cs x)else wrF (2-x.1) (entP cs x)
def entT(cs:List ColB)(l:Bs):(Nat×List Bp)×Nat×Nat :=
 if(rdU l 0 281474976710656).2.2≠0 then((0,[]),(rdU l 0 281474976710656).2.1,(rdU l 0 281474976710656).2.2)
 else(((rdU l 0 281474976710656).1,(batS cs l (rdU l 0 281474976710656).2.1).1),(batS cs l (rdU l 0 281474976710656).2.1).2.1,(batS cs l (rdU l 0 281474976710656).2.1).2.2)
def entRE(cs:List ColB)(kind:Int)(l:Bs):Nat :=
 if errS (colsL cs)≠0 then errS (colsL cs)else if kind≠1/\kind≠2 then 10 else told l (entT cs l).2.1 (entT cs l).2.2
def entRV(cs:List ColB)(kind:Int)(l:Bs):Int×Int×List Bp :=
 if entRE cs kind l=0 then(2-kind,((entT cs l).1.1:Int),(entT cs l).1.2)else(0,0,[])
def zyT(k:Int)(l:Bs):(wrF k l).1.length<=1048591:=by
 unfold wrF;split
 ·simp
 split
 ·simp
 exact zh1 _ (by omega)
def entW_small(cs:List ColB)(x:EntB):(entW cs x).1.length<=1048591:=by
 unfold entW;split
 ·simp
 exact zyT _ _
def zpE(h:(rdU l 0 281474976710656).2.2≠0):(entT cs l).2.1=(rdU l 0 281474976710656).2.1/\(entT cs l).2.2=(rdU l 0 281474976710656).2.2:=by
 unfold entT;rw[Ab h];exact⟨rfl,rfl⟩
def zpD(h:(rdU l 0 281474976710656).2.2=0) :(entT cs l).1.1=(rdU l 0 281474976710656).1/\(entT cs l).1.2=(batS cs l (rdU l 0 281474976710656).2.1).1/\(entT cs l).2=(batS cs l (rdU l 0 281474976710656).2.1).2:=by
 unfold entT;rw[Aa (fun a=>a h)];exact⟨rfl,rfl,rfl⟩
/- -/
def zEY{x:EntB}(c:PSO x.2.2)(h:entE cs x=0) :entRE cs (2-x.1) (entP cs x)=0/\entRV cs (2-x.1) (entP cs x)=(x.1,x.2.1,psL x.2.2):=by
 obtain⟨i,j,e,a⟩:=zb8.1 h;obtain⟨kind,seq,ps⟩:=x;dsimp only at c j e a ⊢;obtain⟨n,rfl⟩:=Bq e.1;have hp:entP cs (kind,(n:Int),ps)=encU n++btWr (kindsL cs) (psL ps):=by unfold entP;dsimp only;rw[Aw]
 have f:rdU (entP cs (kind,(n:Int),ps)) 0 281474976710656=(n,0+(encU n).length,0):=zhY (rest:=btWr (kindsL cs) (psL ps)) (by rw[Bz];exact hp) (by omega) (by omega);have g:batS cs (entP cs (kind,(n:Int),ps)) (0+(encU n).length)=(psL ps,0+(encU n).length+(btWr (kindsL cs) (psL ps)).length,0):=zI3 c a (m:=[]) (by rw[hp,A5,B9,AV]);have d:entT cs (entP cs (kind,(n:Int),ps))=((n,psL ps),0+(encU n).length+(btWr (kindsL cs) (psL ps)).length,0):=by
  unfold entT;rw[f,Aa (by simp)];dsimp only;rw[g]
 have k:(entP cs (kind,(n:Int),ps)).length=(encU n).length+(btWr (kindsL cs) (psL ps)).length:=by rw[hp,Ae]
 have b:entRE cs (2-kind) (entP cs (kind,(n:Int),ps))=0:=by
  unfold entRE;rw[Aa (fun h=>h i),Aa (by omega),d];unfold told;rw[Ab rfl,Aa (by dsimp only;omega)]
 refine⟨b,?_⟩;unfold entRV;rw[Ab b,d];dsimp only;rw[show 2-(2-kind)=kind by omega]
def zHM{kind:Int}{ps:List PairB}(j:PSO ps)(h:entRE cs kind l=0)(a:psL ps=(entRV cs kind l).2.2) :(kind=1\/kind=2)/\(entRV cs kind l).1=2-kind/\entE cs ((entRV cs kind l).1,(entRV cs kind l).2.1,ps)=0/\entP cs ((entRV cs kind l).1,(entRV cs kind l).2.1,ps)=l:=by
 have m:entRV cs kind l=(2-kind,((entT cs l).1.1:Int),(entT cs l).1.2):=by unfold entRV;rw[Ab h]
 rw[m]at a ⊢;dsimp only at a ⊢;unfold entRE at h;have c:errS (colsL cs)=0:=by
  apply Av;intro b;rw[Ab b]at h;exact b h
 rw[Aa (fun h=>h c)]at h;have n:kind=1\/kind=2:=by
  apply Av;intro b;rw[Ab (by omega)]at h;cases h
 rw[Aa (by omega)]at h;have f:(entT cs l).2.2=0/\l.length<=(entT cs l).2.1:=by
  unfold told at h;by_cases d:(entT cs l).2.2=0
  .rw[Ab d]at h;by_cases p:(entT cs l).2.1<l.length
   .rw[Ab p]at h;cases h
   exact⟨d,by omega⟩
  rw[Aa d]at h;exact absurd h d
 have i:(rdU l 0 281474976710656).2.2=0:=by
  apply Av;intro b;have:=(zpE (cs:=cs) b).2;rw[f.1]at this;exact b this.symm
 obtain⟨r,s,t⟩:=zpD (cs:=cs) i;rw[t,zi2 c]at f;rw[s,zi2 c]at a;obtain⟨u1,u2,u3⟩:=zcE (l:=l) (k:=0) (Bg _) i;obtain⟨e,u,g⟩:=zwE u2 f.1;have hK:(btRd (ltE cs) l (kindsL cs) (rdU l 0 281474976710656).2.1).2.1=l.length:=by omega
 rw[hK,Bo,u1,AU,AA]at e;rw[<-a]at e g;refine⟨n,rfl,zb8.2 ⟨c,by dsimp only;omega,by dsimp only;omega,zIO j c g⟩,?_⟩;unfold entP;dsimp only;rw[r,Aw];exact e.symm
def zCE{x:EntB}(h:(entW cs x).2=0):entE cs x=0/\(entP cs x).length<=1048576/\entW cs x=(frB (2-x.1).toNat (entP cs x),0):=by
 unfold entW at h ⊢;by_cases a:entE cs x=0
 .rw[Aa (fun h=>h a)]at h ⊢;have c:=(zb8.1 a).2.1;unfold wrF at h ⊢;rw[Aa (by omega)]at h ⊢;by_cases b:1048576<(entP cs x).length
  .rw[Ab b]at h;cases h
  rw[Aa b];exact⟨a,by omega,rfl⟩
 rw[Ab a]at h;exact absurd h a
end
