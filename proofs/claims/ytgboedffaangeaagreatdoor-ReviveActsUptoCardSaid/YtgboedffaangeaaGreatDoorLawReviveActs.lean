/- -/
import Derived.Test.YtgboedffaangeaaGreatDoorVRvA
import Derived.Test.YtgboedffaangeaaGreatDoorVWrtR
import Derived.ChangeAlike
import Derived.Test.YtgboedffaangeaaGreatDoorTie
import Derived.Test.YtgboedffaangeaaGreatDoorCards
import Derived.LaidOnce
import Derived.SevenTiedAt
import Derived.Deep.DeepHandedRow
set_option maxHeartbeats 64000000
set_option linter.all false
set_option maxRecDepth 1000000
namespace Go.Proofs.YtgboedffaangeaaGreatDoor
open _root_.Go.Proofs.Tryz Go.RowKit Go.Shelf
section
theorem zqT(v:Value)(b:Bs)(w:World)(h:Rd w v b):Calls prog 44 #[v] w (RvO w b):=by
 obtain⟨N1,N2⟩:=za5 w (.cells #[.slice none 0 0,.slice none 0 0] 55);obtain⟨w0,O⟩:=nm_ (w.alloc (.cells #[.slice none 0 0,.slice none 0 0] 55));rw[<-O]at N1 N2;obtain⟨rb,L⟩:=nm_ w.heap.size;rw[<-L]at N1;have X:=h_ (show Tbox w0 rb (.slice none 0 0) (.slice none 0 0)from N1);have ak:=h_ N2;have an:=h_ O;have g:=h_ L;have aJ:=h_ (h.later N2 l_);have U:=h_ (ze8 v b w0 aJ.o);obtain⟨ao,cap,rfl,_⟩:=id h.shape;have V:=h_ X.lt;unfold zmL at U;unfold RvO;obtain⟨p,hp⟩:=nm_ ((trD b).2.2.2.1);obtain⟨x,hx⟩:=nm_ ((trD b).2.2.2.2);have A1:=fun h=>zA1 (b:=b) h;have A2:=fun h h4=>zvM (b:=b) h h4;have A3:=fun h4=>zvL (b:=b) h4;have A4:=fun h=>(zFQ (b:=b) h).2.2;rw[<-hp,<-hx]at U A1 A2 A4;rw[<-hp]at A3;obtain⟨cs,aa⟩:=nm_ ((trD b).1);obtain⟨es,ab⟩:=nm_ ((trD b).2.1);rw[<-aa,<-ab]at U A1;by_cases h0:x=0
 .have E:=A1 h0;rw[E];subst h0;clear N1 N2 O L h A1 A2 A3 A4 E hp hx aa ab;go_enter func44,ntmps44;go_wp2_with fail;rw[<-an.o,<-g.o];refine U.mono ?_;rintro e f⟨tv,rfl,k,Z,c⟩;obtain⟨sv,ev,rfl,G,J⟩:=k f (Only.refl _ _);obtain⟨u,ne,z,rfl⟩:=J.lit;obtain⟨t,A,y,rfl⟩:=G.lit12;obtain⟨M1,m⟩:=za5 f (.cells #[.slice t A y,.slice u ne z] 55);have HT:=h_ k;have HC:=h_ Z;have C:=h_ c;have a:=h_ ((X.later c).later m);obtain⟨r0,r1⟩:=a.cells;have f0:=a.free 0;have f1:=a.free 1;obtain⟨c0,c1⟩:=(show Tbox (f.alloc (.cells #[.slice t A y,.slice u ne z] 55)) f.heap.size (.slice t A y) (.slice u ne z)from M1).cells;have am:=h_ m;clear k G J Z c U M1 m;go_wp2;go_region
  all_goals(try clear c0 c1)
  go_wp2;obtain⟨w9,d⟩:=nm_ ((((f.alloc (.cells #[.slice t A y,.slice u ne z] 55)).setCell ⟨rb,0,none⟩ (.slice t A y)).setCell ⟨rb,1,none⟩ (.slice u ne z)).drew);rw[<-d];obtain⟨e0,e1,I,D⟩:=zmV ak.o g.o V.o C.o am.o HT.o (.inl rfl) a.o (.inr d);refine bodyPost_ret (by simp[results,results44,go_sem,e0,e1];try rfl) rfl ?_;exact⟨_,rfl,I,HC.o,D⟩
 have q0:((x:Int)==0)=false:=by rw[As];omega
 have av:=A4 h0;by_cases h4:p<=4
 .have E:=A2 h0 h4;rw[E];have d4:decide ((p:Int)<=4)=true:=Ah (by omega);clear N1 N2 O L h A1 A2 A3 A4 E hp hx aa ab h0 av;go_enter func44,ntmps44;go_wp2_with fail;rw[<-an.o,<-g.o];refine U.mono ?_;rintro e f⟨tv,rfl,k,Z,c⟩;obtain⟨sv,ev,rfl,G,J⟩:=k f (Only.refl _ _);obtain⟨u,ne,z,rfl⟩:=J.lit;obtain⟨t,A,y,rfl⟩:=G.lit12;obtain⟨M1,m⟩:=za5 f (.cells #[.slice t A y,.slice u ne z] 55);have C:=h_ c;have a:=h_ ((X.later c).later m);obtain⟨r0,r1⟩:=a.cells;have f0:=a.free 0;have f1:=a.free 1;have am:=h_ m;clear k G J Z c U M1 m;go_wp2;obtain⟨w9,d⟩:=nm_ ((((f.alloc (.cells #[.slice t A y,.slice u ne z] 55)).setCell ⟨rb,0,none⟩ (.slice none 0 0)).setCell ⟨rb,1,none⟩ (.slice none 0 0)));rw[<-d];obtain⟨e0,e1,I,D⟩:=zmV (w9:=w9) ak.o g.o V.o C.o am.o (fun wz _=>zA0 wz) (.inl rfl) a.o (.inl d);refine bodyPost_ret (by simp[results,results44,go_sem,e0,e1];try rfl) rfl ?_;exact⟨_,rfl,I,fun _ h=>absurd h (by simp),D⟩
 have E:=A3 h4;rw[E];have d4:decide ((p:Int)<=4)=false:=Af (by omega);obtain⟨pv,a7,ad⟩:=h.upto p av;have ah:(b.take p).length=p:=by rw[Aq];omega
 obtain⟨pa,pc,rfl,_⟩:=(ad w h).shape;rw[ah]at a7 ad;have aV:=h_ ad;clear N1 N2 O L h A1 A2 A3 A4 E hp hx aa ab h0 av ad ah;go_enter func44,ntmps44;go_wp2_with fail;rw[<-an.o,<-g.o];refine U.mono ?_;rintro e f⟨tv,rfl,k,Z,c⟩;obtain⟨sv,ev,rfl,G,J⟩:=k f (Only.refl _ _);obtain⟨u,ne,z,rfl⟩:=J.lit;obtain⟨t,A,y,rfl⟩:=G.lit12;obtain⟨M1,m⟩:=za5 f (.cells #[.slice t A y,.slice u ne z] 55);obtain⟨w2,af⟩:=nm_ (f.alloc (.cells #[.slice t A y,.slice u ne z] 55));obtain⟨l,M⟩:=nm_ f.heap.size;rw[<-af,<-M]at M1;rw[<-af]at m;have C:=h_ c;have al:=h_ (c.trans (m.mono c.size));have a:=h_ ((X.later c).later m);have i:=h_ (show Tbox w2 l (.slice t A y) (.slice u ne z)from M1);have aj:=h_ (ze8 _ (b.take p) w2 (aV.o w2 (aJ.later al.o l_)));have a0:=h_ af;have aI:=h_ M;have aH:=h_ (show l<w2.heap.size from i.lt);obtain⟨t0,t1⟩:=i.cells;have g0:=i.free 0;have g1:=i.free 1;clear k G J Z c U M1 m af M;unfold zmL at aj;go_wp2_with fail;rw[<-a0.o,<-aI.o];go_wp2_with fail;refine aj.mono ?_;rintro e w3⟨tv,rfl,k,Z,c⟩;obtain⟨sv,ev,rfl,G,J⟩:=k w3 (Only.refl _ _);obtain⟨aq,ax,au,rfl⟩:=J.lit;obtain⟨ap,aw,ar,rfl⟩:=G.lit12;have HT:=h_ k;have HC:=h_ Z;have aS:=h_ c;have aW:=h_ (a.later c);have Y:=h_ (i.later c);obtain⟨r0,r1⟩:=Y.cells;have k0:=Y.free 0;have k1:=Y.free 1;clear t0 t1 g0 g1 k Z c G J aj i;go_wp2;obtain⟨w4,T⟩:=nm_ ((w3.setCell ⟨l,0,none⟩ (.slice ap aw ar)).setCell ⟨l,1,none⟩ (.slice aq ax au));rw[<-T];have a6:=V.o;have a8:=C.size;have aO:=al.size;have M:=aI.o;have a5:=aH.o;have hO:Only (fun j=>j=l) w3 w4:=by rw[T];exact((Only.refl (fun j=>j=l) _).setCell (p:=⟨l,0,none⟩) rfl _).setCell (p:=⟨l,1,none⟩) rfl _
 have aM:Tbox w4 l (.slice ap aw ar) (.slice aq ax au):=by rw[T];exact Y.both _ _
 have H:Tbox w4 rb (.slice none 0 0) (.slice none 0 0):=hO.keep aW.o (by omega);have aN:Lz w0 w4:=by rw[T];exact((al.trans (aS.mono aO)).setCell (p:=⟨l,0,none⟩) (by show w0.heap.size<=l;omega) _).setCell (p:=⟨l,1,none⟩) (by show w0.heap.size<=l;omega) _
 have aZ:=h_ (fun wz(hz:Only (fun j=>j<w0.heap.size) w4 wz)=>HT.o wz ((hO.mono fun j h=>by omega).trans (hz.mono fun j h=>by omega)));obtain⟨c0,c1⟩:=aM.cells;obtain⟨d0,d1⟩:=H.cells;have f0:=H.free 0;have f1:=H.free 1;have aT:=h_ aN;have aX:=h_ H;clear hO aM H aN T r0 r1 k0 k1 a6 a8 aO M a5;go_region
 all_goals(try clear c0 c1)
 go_wp2;obtain⟨w9,d⟩:=nm_ (((w4.setCell ⟨rb,0,none⟩ (.slice ap aw ar)).setCell ⟨rb,1,none⟩ (.slice aq ax au)).drew);rw[<-d];obtain⟨e0,e1,I,D⟩:=zmV ak.o g.o V.o aT.o (Ac _ _) aZ.o (.inl rfl) aX.o (.inr d);refine bodyPost_ret (by simp[results,results44,go_sem,e0,e1];try rfl) rfl ?_;exact⟨_,rfl,I,HC.o,D⟩
/- -/
structure Lgm(w:World)(N gl gd gw:Nat)(cs:List ColB)(es:List EntB)(s r:Bs)(n:Nat)(Q:Nat->Prop):Prop where
 from_:N<=gl
 away:¬Q gl
 box:w.heap[gl]?=some (.cells #[.pointer (some ⟨gd,0,none⟩),.pointer (some ⟨gw,0,none⟩)] 44 (0,0))
 dsk:Mdk w N gd s r n (fun j=>Q j\/j=gl\/j=gw)
 wrt:Mr w N gw cs es (fun j=>Q j\/j=gl\/j=gd)
section
variable{w w':World}{N gl gd gw:Nat}{cs:List ColB}{es es':List EntB}{s r:Bs}{n:Nat}{Q S:Nat->Prop}
theorem Lgm.lt(h:Lgm w N gl gd gw cs es s r n Q):gl<w.heap.size:=(Aj.1 h.box).1
theorem Lgm.cells(h:Lgm w N gl gd gw cs es s r n Q):w.cell? ⟨gl,0,none⟩=some (.pointer (some ⟨gd,0,none⟩))/\w.cell? ⟨gl,1,none⟩=some (.pointer (some ⟨gw,0,none⟩)) :=
 ⟨Ag _ _ 0 _ _ _ h.box,Ag _ _ 1 _ _ _ h.box⟩
theorem Lgm.ne(h:Lgm w N gl gd gw cs es s r n Q):gd≠gl/\gw≠gl/\gw≠gd:=⟨fun e=>h.dsk.away (.inr (.inl e)),fun e=>h.wrt.free (.inr (.inl e)),fun e=>h.wrt.free (.inr (.inr e))⟩
theorem Lgm.only(h:Lgm w N gl gd gw cs es s r n Q)(a:Only S w w')(b:∀j,S j->Q j):Lgm w' N gl gd gw cs es s r n Q :=
 ⟨h.from_,h.away,a.keep h.box fun k=>h.away (b _ k),h.dsk.only a fun j k=>.inl (b j k),h.wrt.only a fun j _ k=>.inl (b j k)⟩
theorem Lgm.later(h:Lgm w N gl gd gw cs es s r n Q)(a:Lz w w'):Lgm w' N gl gd gw cs es s r n Q:=h.only (S:=fun _=>False) (Only.later15 a) fun _ h=>h.elim
end
theorem Lgm.more{w:World}{N gl gd gw n:Nat}{cs:List ColB}{es:List EntB}{s r:Bs}{Q Q':Nat->Prop}(h:Lgm w N gl gd gw cs es s r n Q)(b:∀j,j<w.heap.size->Q' j->Q j):Lgm w N gl gd gw cs es s r n Q' :=
 ⟨h.from_,fun q=>h.away (b _ h.lt q),h.box,h.dsk.more fun j a q=>q.imp_left (b j a),h.wrt.more fun j a q=>q.imp_left (b j a)⟩
variable {l r s:Bs} {cs:List ColB} {es es':List EntB} {N gd gl gw k n:Nat} {Q:Nat->Prop} {i w w4:World}
theorem zy1 {w':World} {Q' S:Nat->Prop}(h:Lgm w N gl gd gw cs es s r n Q)(c:Only S w w')(f:∀j,S j->Q j)(d:∀j,Q' j->Q j\/w.heap.size<=j):Lgm w' N gl gd gw cs es s r n Q' :=
 ((h.more (Q':=fun j=>Q j\/Q' j) fun j a b=>b.elim id fun q=>(d j q).elim id fun e=>absurd a (by omega)).only c fun j a=>.inl (f j a)).more fun j _ b=>.inr b
theorem Lgm.at_(h:Lgm w N gl gd gw cs es s r n Q){j:Nat}(a:j=gl\/j=gd\/j=gw):N<=j/\j<w.heap.size:=by
 rcases a with rfl|rfl|rfl
 .exact⟨h.from_,h.lt⟩
 .exact⟨h.dsk.from_,h.dsk.lt⟩
 exact⟨h.wrt.from_,h.wrt.lt⟩
def LgO(w:World)(N gl gd gw:Nat)(cs:List ColB)(s r:Bs)(n:Nat)(Q:Nat->Prop)(E:Nat)(es':List EntB)(e:Ending)(w':World):Prop :=
 e=.returned (.int .i64 (E:Int))/\Lgm w' N gl gd gw cs es' s r n Q/\Only (fun j=>j=gd\/j=gw) w w'
theorem zBS {c:World} {E:Nat} {B:Bs}{g rv:Value}(h:Lgm w N gl gd gw cs es s r n Q)(u:∀j,Q j->j<w.heap.size)(a:Only (fun j=>j=gw) w c)(hm:Mr c N gw cs es' (fun j=>Q j\/j=gl\/j=gd))(p:Only (fun j=>c.heap.size<=j) c i)(t:Only (fun j=>j=gd) i w4)(v:w4.heap[gd]?=some (.cells #[g,rv,.int .i64 (n:Int)] 48 (0,0)))(y:OffB w4 g s (fun q=>q=gd\/Q q\/q=gl\/q=gw))(x:OffB w4 rv (r++B) (fun q=>q=gd\/Q q\/q=gl\/q=gw))(H:s.length+r.length+B.length<=100000000):LgO w N gl gd gw cs s (r++B) n Q E es' (.returned (.int .i64 (E:Int))) w4:=by
 obtain⟨A,C,I⟩:=h.ne;have z:=a.size;have l:Mdk c N gd s r n (fun j=>Q j\/j=gl\/j=gw):=h.dsk.only a fun j k=>.inr (.inr k);have d:∀j,(Q j\/j=gl\/j=gw)->j<c.heap.size:=fun j k=>by
  have D:=h.lt;have G:=hm.lt;rcases k with k|k|k
  .have:=u j k;omega
  .omega
  omega
 obtain⟨m,b⟩:=zu2 l d p t v y x (by rw[Ae];omega) h.dsk.few;refine⟨rfl,⟨h.from_,h.away,?_,m,hm.only b fun j _ k=>.inr (.inr k)⟩,⟨b.os.trans a.os,b.tape.trans a.tape,b.output.trans a.output,Ar a.size b.size,fun j e f=>(b.block j (AE e a.size) fun k=>f (.inl k)).trans (a.block j e fun k=>f (.inr k))⟩⟩;exact(b.block gl (AE h.lt z) fun k=>A k.symm).trans ((a.block gl h.lt fun k=>C k.symm).trans h.box)
theorem zqX(N gl gd gw:Nat)(lv:Value)(ps:List PairB)(cs:List ColB)(es:List EntB)(s r:Bs)(n:Nat)(Q:Nat->Prop)(w:World)(u:Lgm w N gl gd gw cs es s r n Q)(Z:∀j,Q j->j<w.heap.size)(hR:RdP w lv ps)(hP:PSO ps)(hl:ps.length<=4000)(A:s.length+r.length+(actB cs es (0,ps)).length<=100000000) :Calls prog 9 #[.pointer (some ⟨gl,0,none⟩),lv] w (LgO w N gl gd gw cs s (r++actB cs es (0,ps)) n Q (actE cs es (0,ps)) (actS cs es (0,ps))):=by
 have I:=h_ u;have HQ:=h_ Z;obtain⟨c0,c1⟩:=u.cells;obtain⟨n1,n2,J⟩:=u.ne;have HN:=h_ (Al n1 (Al n2 J));have L:=h_ (zqY N gw lv cs es ps _ w u.wrt (fun j k=>by
  rcases k with k|k|k
  .exact Z j k
  .rw[k];exact u.lt
  .rw[k];exact u.dsk.lt) hR hP hl)
 have z:=u.lt;have ab:=u.wrt.lt;obtain⟨E,hE⟩:=nm_ (actE cs es (0,ps));obtain⟨B,Y⟩:=nm_ (actB cs es (0,ps));obtain⟨S,hS⟩:=nm_ (actS cs es (0,ps));rw[<-hE,<-Y,<-hS]at L ⊢;rw[<-Y]at A;have t:=h_ A;clear u Z n1 n2 J hE Y hS A;go_enter func9,ntmps9;go_wp2_with fail;refine L.mono ?_;rintro e b⟨xv,rfl,hx,hm,H⟩;have HX:=h_ (hx.rd (by have:=t.o;omega));obtain⟨ax,nx,cx,rfl⟩:∃a k c,xv=.slice a k c:=by
  obtain⟨a,c,h,_⟩:=HX.shape;exact⟨_,_,_,h⟩
 have HM:=h_ hm;have HO:=h_ H;have HD:=h_ (I.dsk.only H fun j k=>.inr (.inr k));have G:gl<b.heap.size:=AE z H.size;have aa:=HD.lt;have T:=h_ ((H.block gl z fun k=>HN.2.1 k.symm).trans I.box);obtain⟨sv,rv,hb,hs,hr⟩:=HD.box;obtain⟨ra,rc,rfl,_⟩:=hr.1.shape;have RX:=h_ (fun f(m:Only (fun j=>b.heap.size<=j) b f)=>((HX.off (Q:=fun _=>False) fun _ _ h=>h).keep (w':=f) fun j g _=>m.block j g (by omega)).1);have RR:=h_ (fun f(m:Only (fun j=>b.heap.size<=j) b f)=>(hr.keep (w':=f) fun j g _=>m.block j g (by omega)).1);have RS:=h_ (fun f(m:Only (fun j=>b.heap.size<=j) b f)=>(hs.keep (w':=f) fun j g _=>m.block j g (by omega)));have M:=h_ (fun f(m:Only (fun j=>b.heap.size<=j) b f)=>(m.block gd aa (by omega)).trans hb);have GX:=h_ (fun f(m:Only (fun j=>b.heap.size<=j) b f)=>show f.cell? ⟨gl,0,none⟩=some (.pointer (some ⟨gd,0,none⟩))from Ag _ _ 0 _ _ _ ((m.block gl G (by omega)).trans T.o));have O:=h_ (fun f(m:Only (fun j=>b.heap.size<=j) b f)=>show f.cell? ⟨gd,1,none⟩=some (.slice ra r.length rc)/\f.frozen? ⟨gd,1,none⟩=false from
  ⟨Ag _ _ 1 _ _ _ (M.o f m),At _ _ _ _ _ (M.o f m)⟩)
 have D:Only (fun j=>b.heap.size<=j) b (b.drew.alloc (.cells #[] 5)):=(Only.refl _ _).drew.alloc _;have L0:=fun x:OrdR.GW (Only (fun j=>b.heap.size<=j)) b.drew=>GX.o x.val ((Only.refl _ b).drew.trans x.grew);have L1:=fun x:OrdR.GW (Only (fun j=>b.heap.size<=j)) b.drew=>(O.o x.val ((Only.refl _ b).drew.trans x.grew)).1;have E1:=h_ (show Own (b.drew.alloc (.cells #[] 5)) b.heap.size (.slice (some ⟨b.heap.size,0,none⟩) 0 0) []from own_empty b.drew b.heap.size l_);have X:=h_ (RR.o _ D);clear hx hm H hb hs hr L c0 c1 z ab G;go_wp2_with fail;refine OrdZ.wp_region_ord (R:=Only (fun j=>b.heap.size<=j)) (zt9 _) [(0,false),(1,false),(2,false),(3,false),(5,false),(6,false),(7,false),(8,false),(9,false),(10,false),(11,false),(13,false),(4,true),(12,true),(14,true),(15,false),(16,false),(17,true)] 17 20 (by kernel_rfl) (by kernel_rfl) rfl (by kernel_rfl) (by kernel_rfl) (fun _ _ _ d _ h=>by cases d<;>exact h) ?_;iterate 12 (refine Ak rfl rfl (by kernel_rfl) (fun K hK=>?_);go_big_quiet_op;refine hK _ ?_;clear hK K)
 refine Ax rfl (by kernel_rfl) (fun K hK=>?_);go_big_op;refine hK _ _ (Only.later15 ((Ac _ _).alloc l_ _)) ?_;clear hK K;refine Ax rfl (by kernel_rfl) (fun K hK=>?_);refine zbW b.heap.size _ [] rfl E1.o _ r rfl X.o ?hn1 ?hb1 (fun v2 w2 g i=>hK _ _ i ?_)
 case hn1=>have:=t.o;simp;omega
 case hb1=>simp
 rw[AA]at g;obtain⟨a2,n2,rfl,_⟩:=g.tor.lit;have U:=h_ g;have v:=h_ (D.trans i);simp only[Act.put,A8,Bw,Bc];clear g i;clear hK K;refine Ax rfl (by kernel_rfl) (fun K hK=>?_);refine zbW b.heap.size _ r rfl U.o _ B rfl (RX.o _ v.o) ?hn2 ?hb2 (fun v3 C g i=>hK _ _ i ?_)
 case hn2=>have:=t.o;omega
 case hb2=>exact v.size
 obtain⟨a3,J,rfl,_⟩:=g.tor.lit;rw[Ae]at g;have V:=h_ g;have l:=h_ (v.trans i);simp only[Act.put,A8,Bw,Bc];have e0:=GX.o C l.o;have e1:=(O.o C l.o).1;have f1:=(O.o C l.o).2;clear g i;clear hK K;iterate 2 (refine Ak rfl rfl (by kernel_rfl) (fun K hK=>?_);go_big_quiet_op;refine hK _ ?_;clear hK K)
 refine OrdR.ord_last rfl (by kernel_rfl) (fun K hK=>?_);go_big_op;refine hK _ _ ?_;clear hK K;go_wp2;go_ret;have y:Only (fun j=>j=gd) C (C.setCell ⟨gd,1,none⟩ (.slice a3 (r.length+B.length) J)):=(Only.refl (fun j=>j=gd) _).setCell (p:=⟨gd,1,none⟩) rfl _;refine zBS I.o HQ.o HO.o HM.o l.o y (block_setCell (M.o C l.o) _) ((RS.o C l.o).only y fun j h=>.inl h) ?_ t.o;refine(V.off (by rw[Ae];have:=t.o;omega) fun j g i=>?_).only y fun j h=>.inl h;have a1:=I.lt;have a2:=HM.lt;have a3:=HO.size;rcases i with i|i|i|i
 .omega
 .have:=HQ.o j i;omega
 .omega
 omega
theorem zx9(N gl gd gw:Nat)(qs:List PairB)(k:Int)(cs:List ColB)(es:List EntB)(s r:Bs)(n:Nat)(Q:Nat->Prop)(w:World)(u:Lgm w N gl gd gw cs es s r n Q)(Z:∀j,Q j->j<w.heap.size)(hP:PSO qs)(hk:k≠0)(A:s.length+r.length+(actB cs es (k,qs)).length<=100000000) :Calls prog 11 #[.pointer (some ⟨gl,0,none⟩)] w (LgO w N gl gd gw cs s (r++actB cs es (k,qs)) n Q (actE cs es (k,qs)) (actS cs es (k,qs))):=by
 have I:=h_ u;have HQ:=h_ Z;obtain⟨c0,c1⟩:=u.cells;obtain⟨n1,n2,J⟩:=u.ne;have HN:=h_ (Al n1 (Al n2 J));have L:=h_ (zxA N gw cs es qs _ w u.wrt (fun j k=>by
  rcases k with k|k|k
  .exact Z j k
  .rw[k];exact u.lt
  .rw[k];exact u.dsk.lt) hP k hk)
 have z:=u.lt;have ab:=u.wrt.lt;obtain⟨E,hE⟩:=nm_ (actE cs es (k,qs));obtain⟨B,Y⟩:=nm_ (actB cs es (k,qs));obtain⟨S,hS⟩:=nm_ (actS cs es (k,qs));rw[<-hE,<-Y,<-hS]at L ⊢;rw[<-Y]at A;have t:=h_ A;clear u Z n1 n2 J hE Y hS A;go_enter func11,ntmps11;go_wp2_with fail;refine L.mono ?_;rintro e b⟨xv,rfl,hx,hm,H⟩;have HX:=h_ (hx.rd (by have:=t.o;omega));obtain⟨ax,nx,cx,rfl⟩:∃a k c,xv=.slice a k c:=by
  obtain⟨a,c,h,_⟩:=HX.shape;exact⟨_,_,_,h⟩
 have HM:=h_ hm;have HO:=h_ H;have HD:=h_ (I.dsk.only H fun j k=>.inr (.inr k));have G:gl<b.heap.size:=AE z H.size;have aa:=HD.lt;have T:=h_ ((H.block gl z fun k=>HN.2.1 k.symm).trans I.box);obtain⟨sv,rv,hb,hs,hr⟩:=HD.box;obtain⟨ra,rc,rfl,_⟩:=hr.1.shape;have RX:=h_ (fun f(m:Only (fun j=>b.heap.size<=j) b f)=>((HX.off (Q:=fun _=>False) fun _ _ h=>h).keep (w':=f) fun j g _=>m.block j g (by omega)).1);have RR:=h_ (fun f(m:Only (fun j=>b.heap.size<=j) b f)=>(hr.keep (w':=f) fun j g _=>m.block j g (by omega)).1);have RS:=h_ (fun f(m:Only (fun j=>b.heap.size<=j) b f)=>(hs.keep (w':=f) fun j g _=>m.block j g (by omega)));have M:=h_ (fun f(m:Only (fun j=>b.heap.size<=j) b f)=>(m.block gd aa (by omega)).trans hb);have GX:=h_ (fun f(m:Only (fun j=>b.heap.size<=j) b f)=>show f.cell? ⟨gl,0,none⟩=some (.pointer (some ⟨gd,0,none⟩))from Ag _ _ 0 _ _ _ ((m.block gl G (by omega)).trans T.o));have O:=h_ (fun f(m:Only (fun j=>b.heap.size<=j) b f)=>show f.cell? ⟨gd,1,none⟩=some (.slice ra r.length rc)/\f.frozen? ⟨gd,1,none⟩=false from
  ⟨Ag _ _ 1 _ _ _ (M.o f m),At _ _ _ _ _ (M.o f m)⟩)
 have D:Only (fun j=>b.heap.size<=j) b (b.drew.alloc (.cells #[] 5)):=(Only.refl _ _).drew.alloc _;have L0:=fun x:OrdR.GW (Only (fun j=>b.heap.size<=j)) b.drew=>GX.o x.val ((Only.refl _ b).drew.trans x.grew);have L1:=fun x:OrdR.GW (Only (fun j=>b.heap.size<=j)) b.drew=>(O.o x.val ((Only.refl _ b).drew.trans x.grew)).1;have E1:=h_ (show Own (b.drew.alloc (.cells #[] 5)) b.heap.size (.slice (some ⟨b.heap.size,0,none⟩) 0 0) []from own_empty b.drew b.heap.size l_);have X:=h_ (RR.o _ D);clear hx hm H hb hs hr L c0 c1 z ab G;go_wp2_with fail;refine OrdZ.wp_region_ord (R:=Only (fun j=>b.heap.size<=j)) (zt9 _) [(0,false),(1,false),(2,false),(3,false),(5,false),(6,false),(7,false),(8,false),(9,false),(10,false),(11,false),(13,false),(4,true),(12,true),(14,true),(15,false),(16,false),(17,true)] 17 20 (by kernel_rfl) (by kernel_rfl) rfl (by kernel_rfl) (by kernel_rfl) (fun _ _ _ d _ h=>by cases d<;>exact h) ?_;iterate 12 (refine Ak rfl rfl (by kernel_rfl) (fun K hK=>?_);go_big_quiet_op;refine hK _ ?_;clear hK K)
 refine Ax rfl (by kernel_rfl) (fun K hK=>?_);go_big_op;refine hK _ _ (Only.later15 ((Ac _ _).alloc l_ _)) ?_;clear hK K;refine Ax rfl (by kernel_rfl) (fun K hK=>?_);refine zbW b.heap.size _ [] rfl E1.o _ r rfl X.o ?hn1 ?hb1 (fun v2 w2 g i=>hK _ _ i ?_)
 case hn1=>have:=t.o;simp;omega
 case hb1=>simp
 rw[AA]at g;obtain⟨a2,n2,rfl,_⟩:=g.tor.lit;have U:=h_ g;have v:=h_ (D.trans i);simp only[Act.put,A8,Bw,Bc];clear g i;clear hK K;refine Ax rfl (by kernel_rfl) (fun K hK=>?_);refine zbW b.heap.size _ r rfl U.o _ B rfl (RX.o _ v.o) ?hn2 ?hb2 (fun v3 C g i=>hK _ _ i ?_)
 case hn2=>have:=t.o;omega
 case hb2=>exact v.size
 obtain⟨a3,J,rfl,_⟩:=g.tor.lit;rw[Ae]at g;have V:=h_ g;have l:=h_ (v.trans i);simp only[Act.put,A8,Bw,Bc];have e0:=GX.o C l.o;have e1:=(O.o C l.o).1;have f1:=(O.o C l.o).2;clear g i;clear hK K;iterate 2 (refine Ak rfl rfl (by kernel_rfl) (fun K hK=>?_);go_big_quiet_op;refine hK _ ?_;clear hK K)
 refine OrdR.ord_last rfl (by kernel_rfl) (fun K hK=>?_);go_big_op;refine hK _ _ ?_;clear hK K;go_wp2;go_ret;have y:Only (fun j=>j=gd) C (C.setCell ⟨gd,1,none⟩ (.slice a3 (r.length+B.length) J)):=(Only.refl (fun j=>j=gd) _).setCell (p:=⟨gd,1,none⟩) rfl _;refine zBS I.o HQ.o HO.o HM.o l.o y (block_setCell (M.o C l.o) _) ((RS.o C l.o).only y fun j h=>.inl h) ?_ t.o;refine(V.off (by rw[Ae];have:=t.o;omega) fun j g i=>?_).only y fun j h=>.inl h;have a1:=I.lt;have a2:=HM.lt;have a3:=HO.size;rcases i with i|i|i|i
 .omega
 .have:=HQ.o j i;omega
 .omega
 omega
/- -/
def NlO(w:World)(sv:Value)(cs:List ColB)(e:Ending)(w':World):Prop :=
 ∃v,e=.returned (.tuple #[v,.int .i64 (errS (colsL cs):Nat)])/\Lz w w' /\
  ((errS (colsL cs)≠0/\v=.pointer none)\/(errS (colsL cs)=0/\∃gl gd gw,v=.pointer (some ⟨gl,0,none⟩)/\∀Q:Nat->Prop,OffG colE w sv (cs.map colV) Q->(∀j,Q j->j<w.heap.size)->Lgm w' w.heap.size gl gd gw cs [] (trE cs []).1 [] 0 Q))
theorem zAD(v:Value)(cs:List ColB)(w:World)(D:RdC w v cs)(J:CS cs):Calls prog 7 #[v] w (NlO w v cs):=by
 have i:=h_ (zAE v cs w D J);unfold NmO at i;unfold NlO;have HS:=h_ (fun h=>(TrS.nil J h).2);obtain⟨ac,nc,cc,rfl⟩:=D.lit12;obtain⟨E,L⟩:=nm_ (errS (colsL cs));have Z:=h_ L;rw[<-L]at i ⊢;have H:=h_ D;clear D J L;by_cases I:E=0
 .subst I;go_enter func7,ntmps7;go_wp2_with fail;refine i.mono ?_;rintro e w1⟨pv,rfl,x,f⟩;rcases f with⟨f,_⟩|⟨_,gw,rfl,M⟩
  .exact absurd rfl f
  have c:=h_ x;have d:=M (fun _=>False) (OffG.old (Q:=fun _=>False) H.o zbK fun _ _ h=>h) fun _ h=>h.elim;have Y:=h_ (ztR d);have HM:=h_ M;have G:=h_ (Al d.from_ d.lt);clear i x M d;go_wp2_with fail;refine Y.mono ?_;rintro e b⟨bv,rfl,U,y⟩;have C:(trE cs []).1.length<=1048600:=by rw[HS.o Z.symm];exact zcJ Z.symm
  have A:=U.rd (by omega);obtain⟨ab,cb,rfl,_⟩:=A.shape;have HO:=h_ U;have m:=h_ y;have p:=h_ C;clear Y U y A C;go_wp2;go_ret2;obtain⟨N1,N2⟩:=za5 b (.cells #[.slice ab (trE cs []).1.length cb,.slice none 0 0,.int .i64 0] 48);obtain⟨X,g⟩:=nm_ (b.alloc (.cells #[.slice ab (trE cs []).1.length cb,.slice none 0 0,.int .i64 0] 48));rw[<-g]at N1 N2
  try rw[<-g]
  have V:X.heap.size=b.heap.size+1:=by rw[g];simp
  obtain⟨M1,M2⟩:=za5 X (.cells #[.pointer (some ⟨b.heap.size,0,none⟩),.pointer (some ⟨gw,0,none⟩)] 44);have h1:=c.size;have l:=m.size;have an:=G.o;have u:Lz b (X.alloc (.cells #[.pointer (some ⟨b.heap.size,0,none⟩),.pointer (some ⟨gw,0,none⟩)] 44)):=N2.trans (M2.mono (by omega));have t:=m.trans (u.mono l);refine⟨_,rfl,c.trans (t.mono h1),.inr ⟨by first|trivial|rfl,_,b.heap.size,gw,rfl,fun Q a O=>?_⟩⟩;rw[V]at M1;have z:∀j,Q j->j<b.heap.size:=fun j T=>by have:=O j T;omega
  refine⟨by omega,fun h=>by have:=z _ h;omega,M1,⟨by omega,?_,by simp;have:=p.o;omega,by omega,_,_,(M2.block _ (by omega)).trans N1,?_,OffB.nil _ _⟩,?_⟩
  .rintro(h|h|h)
   .have:=z _ h;omega
   .omega
   omega
  .have k:=HO.off (Q:=fun j=>Q j\/j=gw) (by have:=p.o;omega) (fun j h1 l=>by
    rcases l with l|l
    .have:=O j l;omega
    .omega)
   refine(k.more (Q':=fun q=>q=b.heap.size\/Q q\/q=b.heap.size+1\/q=gw) fun j T a=>?_).later u;rcases a with a|a|a|a
   .omega
   .exact .inl a
   .omega
   exact .inr a
  refine((HM.o Q a O).more (Q':=fun j=>Q j\/j=b.heap.size+1\/j=b.heap.size) fun j T a=>?_).later t;rcases a with a|a|a
  .exact a
  .omega
  omega
 have q:((E:Int)!=0)=true:=by rw[Ao];omega
 have HN:=h_ I;clear I;go_enter func7,ntmps7;go_wp2_with fail;refine i.mono ?_;rintro e w1⟨pv,rfl,x,f⟩;rcases f with⟨_,rfl⟩|⟨f,_⟩
 .have c:=h_ x;clear x i;go_wp2;go_ret2;exact⟨_,rfl,c.o,.inl ⟨HN.o,rfl⟩⟩
 exact absurd f HN.o
/- -/
def safN(ms:List (Int×Nat))(S:Nat):Nat:=(ms.filter fun m=>decide (m.2<=S)).length
theorem zzZ{ms:List (Int×Nat)} {S:Nat}(a:k<ms.length):safN (ms.take (k+1)) S=safN (ms.take k) S+if(ms.getD k default).2<=S then 1 else 0:=by
 unfold safN;rw[BL,AJ a,Option.toList_some,List.filter_append,Ae];have e:ms.getD k default=ms[k]:=by simp[List.getD,a]
 rw[e];by_cases h:ms[k].2<=S<;>simp[h]
theorem zGQ(ms:List (Int×Nat))(S:Nat):safN ms S<=ms.length:=Ca _ _
theorem zqI:∀(ms:List (Int×Nat))(k S:Nat),ms.Pairwise (fun x y=>x.2<y.2)->k<ms.length->(ms.getD k (0,0)).2=S->safN ms S=k+1
 | [],k,S,_,hk,_=>absurd hk (by simp)
 | m::t,0,S,hp,_,hS=>by
  obtain⟨b,c⟩:=BQ.1 hp;have e:m.2=S:=by simpa using hS
  unfold safN;rw[List.filter_cons,Ab (by simp[e]),Ap,List.filter_eq_nil_iff.2 (fun x f=>by have:=b x f;simp;omega)]
  rfl
 | m::t,k+1,S,hp,hk,hS=>by
  obtain⟨b,c⟩:=BQ.1 hp;have a:k<t.length:=by simpa using hk
  have e:(t.getD k (0,0)).2=S:=by simpa using hS
  have d:m.2<S:=by
   rw[<-e];have:t.getD k (0,0)=t[k]:=by simp[List.getD,a]
   rw[this];exact b _ (AM _)
  have ih:=zqI t k S c a e;unfold safN at ih ⊢;rw[List.filter_cons,Ab (by simp;omega),Ap,ih]
theorem zDU(h:TrS cs es)(c:k<=es.length):safN (trD (trE cs es).1).2.2.1 (trE cs (es.take k)).1.length=k+1:=by
 obtain⟨b,a,_⟩:=h.parts;rw[h.bytes,ze6 b h.en a,(zcX h k).1.bytes];dsimp only;refine zqI _ k _ (zu3 _ h.en a) (by rw[Ap,zzD];omega) ?_;cases k with
 | zero=>rw[AU,trW];simp
 | succ i=>
  rw[BK,zzE es _ 0 0 [] i a (by omega),Ae]
theorem zxC(N gl gd gw:Nat)(cs:List ColB)(es:List EntB)(s r:Bs)(n:Nat)(Q:Nat->Prop)(w:World)(I:Lgm w N gl gd gw cs es s r n Q) :Calls prog 24 #[.pointer (some ⟨gl,0,none⟩)] w fun e w'=>e=.returned (.int .i64 ((safN (trD (s++r)).2.2.1 s.length:Int)-1))/\Lz w w':=by
 have HL:=h_ I;obtain⟨c0,c1⟩:=I.cells;have BY:=h_ (zg4 N gd s r n _ w I.dsk);have X:=I.dsk.small;have ah:=h_ X;obtain⟨ms,v⟩:=nm_ ((trD (s++r)).2.2.1);obtain⟨S,hS⟩:=nm_ s.length;have HS:=h_ hS;rw[<-v,<-hS];have af:=h_ v;obtain⟨p,hp⟩:=nm_ ((trD (s++r)).2.2.2.1);obtain⟨y,hy⟩:=nm_ ((trD (s++r)).2.2.2.2);obtain⟨cu,O⟩:=nm_ (curs13 (trD (s++r)).1 ms);have E:=h_ (Al hp hy);have g:=h_ O;clear I c1 X v hS hp hy O;go_enter func24,ntmps24;go_wp2_with fail;refine BY.mono ?_;rintro e w1⟨bv,rfl,ho,J⟩;have z:=ho.rd (by rw[Ae];have:=ah.o;omega);have H:=h_ (ztN bv (s++r) w1 z);obtain⟨ab,cb,rfl,_⟩:=z.shape;obtain⟨nb,U⟩:=nm_ ((s++r).length);rw[<-U]at H ⊢;have ac:=h_ J;unfold zI6 at H;rw[<-af.o,<-E.1,<-E.2,<-g.o]at H;clear BY ho J z c0 U;go_wp2_with fail;refine H.mono ?_;rintro e w2⟨mv,rfl,hm,M⟩;have ak:=zHP hm;have HM:=h_ hm;have ad:=bT ac M;obtain⟨am,nm,cm,rfl⟩:∃a k c,mv=.slice a k c:=by
  obtain⟨a,c,h,_⟩:=RdG.shape hm;exact⟨_,_,_,h⟩
 have f:cu.length=ms.length:=by rw[g.o];simp[curs13]
 obtain⟨L,d⟩:=nm_ ms.length;rw[f,<-d]at ak;have ar:L<=140737488351232:=by have:=HM.small;rw[Ad,f,<-d]at this;exact this
 have ae:=h_ f;have D:=h_ d;have LG:=h_ (fun wz(hz:Lz w wz)=>HL.later hz);clear hm M H f d;go_wp2;go_loopw [6,7] (fun a i wr=>∃k:Nat,k<=L/\i=.int .i64 k/\a=.int .i64 ((safN (ms.take k) S:Int)-1)/\Hid (RdG zbQ wr (.slice am nm cm) (cu.map cuV))/\Hid (Lz w wr)) (fun _ i _=>L-(intOf i).toNat)
 case atStart=>exact⟨0,by omega,rfl,by simp[safN],HM,ad⟩
 obtain⟨k,hk,rfl,rfl,HR,C⟩:=hrel;by_cases u:k<L
 .have t:k<ms.length:=by rw[<-D.o];exact u
  obtain⟨b9,o9,aq,y0,y1,y2⟩:=zG7 HR.o (i:=k) (by rw[ae.o];exact t);have e1:(cu.getD k default).2.1=((ms.getD k default).2:Int):=by rw[g.o];simp[curs13,List.getD,t]
  rw[e1]at y1;have sn:=zzZ (S:=S) t;obtain⟨x,A⟩:=nm_ ((ms.getD k default).2);rw[<-A]at y1 sn;have lg:=LG.o wr C.o;obtain⟨d0,_⟩:=lg.cells;obtain⟨sv,rv,m,Y,_⟩:=lg.dsk.box;obtain⟨sa,sc,rfl,_⟩:=Y.1.shape;rw[<-HS.o]at m;have d1:wr.cell? ⟨gd,0,none⟩=some (.slice sa S sc):=Ag _ _ 0 _ _ _ m;have T:=zGQ (ms.take k) S;rw[Aq,A7 (by omega)]at T;obtain⟨sN,V⟩:=nm_ (safN (ms.take k) S);rw[<-V]at sn T ⊢;have G:=h_ sn;have d2:decide (k<L)=true:=Ah u;have Z:=h_ (fun j=>Go.below_drewN (Ac wr.heap.size wr) j);clear A sn lg m Y e1 y0 y2 V;by_cases A:x<=S
  .have d3:decide (x<=S)=true:=Ah (by omega);have b:safN (ms.take (k+1)) S=sN+1:=(by rw[G.o,Ab A]);have l:=h_ b;clear A b;go_wp2;go_quiet (fail);go_wp2;go_roundw
   case rel=>exact⟨k+1,by omega,by go_num,by rw[l.o];go_num,h_ (HR.later zeJ (Z.o _) l_),h_ (C.trans ((Z.o _).mono C.size))⟩
   simp[intOf];omega
  have d3:decide (x<=S)=false:=Af (by omega);have b:safN (ms.take (k+1)) S=sN:=by rw[G.o,Aa A,CJ]
  have l:=h_ b;clear A b;go_wp2;go_quiet (fail);go_wp2;go_roundw
  case rel=>exact⟨k+1,by omega,by go_num,by rw[l.o],h_ (HR.later zeJ (Z.o _) l_),h_ (C.trans ((Z.o _).mono C.size))⟩
  simp[intOf];omega
 obtain rfl:k=L:=by omega
 have d2:decide (k<k)=false:=by simp
 clear u;go_wp2;go_ret;refine⟨?_,C.o⟩;rw[Am (CM D.symm)];rfl
/- -/
theorem zGS{b:Bs}(h:(rvD b).2.2.2=0):(trD (b.take (rvD b).1)).1=(rvD b).2.1/\(trD (b.take (rvD b).1)).2.1=(rvD b).2.2.1/\(trD (b.take (rvD b).1)).2.2.2.2=0:=by
 obtain⟨_,_,a,c,d,e,_⟩:=zFY h;rw[e,ze6 a c d];exact⟨rfl,rfl,rfl⟩
def CrL(w:World)(N gl gd gw:Nat)(cs:List ColB)(es:List EntB)(s r:Bs)(n:Nat)(Q:Nat->Prop)(k:Int)(j B:Bs)(e:Ending)(w':World):Prop :=
 e=.returned (.int .i64 (crE r.length k j.length:Nat))/\Only (fun q=>q=gl\/q=gd) w w' /\
  ((crE r.length k j.length≠0/\Lgm w' N gl gd gw cs es s r n Q)\/(crE r.length k j.length=0/\∃hd hw,(w.heap.size<=hd/\w.heap.size<=hw)/\Lgm w' N gl hd hw (rvD B).2.1 (rvD B).2.2.1 (B.take (rvD B).1) [] (n+1) Q))
theorem zEF{B:Nat}{v:Value}(h:Rd (blank w B) v l):OffB w v l (fun j=>j<B):=by
 have key:∀i,i<l.length->¬(adr v i).block<B:=fun i c d=>by
  obtain⟨k,cap,rfl,_,_,f⟩:=h.shape;obtain⟨b,o,rfl⟩:=f (by omega);have e:=h.cells i c;rw[zaF]at e d;exact zo3 (a:=⟨b,o+i,none⟩) e d
 have g:(blank w B).heap.size=w.heap.size:=by simp[blank]
 refine⟨h.same fun i c=>?_,key⟩;have d:=h.block c;exact((ze0 w B).block _ (by omega) (key i c)).symm
theorem zHS {m x g b:World} {c:Nat} {t:List ColB}{M:Value}(u:Lgm w N gl gd gw cs es s r n Q)(D:∀j,Q j->j<w.heap.size)(hN:N<=w.heap.size)(C:Only (fun j=>j=gd) w m)(e:Lz m x)(hp:OffB x M l fun j=>j<m.heap.size)(hl:l.length<=100000000)(U:n<1000000)(a:Lz x w4)(z:g=w4.alloc (.cells #[M,.slice none 0 0,.int .i64 ((n:Int)+1)] 48 (0,0)))(A:b=(g.setCell ⟨gl,0,none⟩ (.pointer (some ⟨w4.heap.size,0,none⟩))).drew)(f:Lz b i)(T:Mr i b.heap.size c t es' fun j=>j<b.heap.size) :Only (fun q=>q=gl\/q=gd) w (i.setCell ⟨gl,1,none⟩ (.pointer (some ⟨c,0,none⟩)))/\(w.heap.size<=w4.heap.size/\w.heap.size<=c)/\Lgm (i.setCell ⟨gl,1,none⟩ (.pointer (some ⟨c,0,none⟩))) N gl w4.heap.size c t es' l [] (n+1) Q:=by
 have z1:=C.size;have Y:=e.size;have O:=a.size;have z5:g.heap.size=w4.heap.size+1:=by rw[z];simp
 have z6:b.heap.size=w4.heap.size+1:=by rw[A];simpa using z5
 have z7:=f.size;have E:=u.lt;have zw:=T.from_;have d:Lz w4 g:=by rw[z];exact(Ac _ _).alloc l_ _
 have I:Only (fun j=>j=gl) m g:=(Only.refl _ _).below (e.trans ((a.trans (d.mono O)).mono Y)) l_;have V:Only (fun j=>j=gl) g b:=by rw[A];exact((Only.refl (fun j=>j=gl) _).setCell (p:=⟨gl,0,none⟩) rfl _).drew
 have X:Only (fun j=>j=gl) b i:=(Only.refl _ _).below f l_;have L:Only (fun j=>j=gl) i (i.setCell ⟨gl,1,none⟩ (.pointer (some ⟨c,0,none⟩))):=(Only.refl (fun j=>j=gl) _).setCell (p:=⟨gl,1,none⟩) rfl _;have J:=((I.trans V).trans X).trans L;have v:=(V.trans X).trans L;obtain⟨n1,n2,n3⟩:=u.ne;have Z:=(C.block gl E fun q=>n1 q.symm).trans u.box;have B5:=((e.trans ((a.trans (d.mono O)).mono Y)).block gl (by omega)).trans Z;have B6:b.heap[gl]?=some (.cells #[.pointer (some ⟨w4.heap.size,0,none⟩),.pointer (some ⟨gw,0,none⟩)] 44 (0,0)):=by rw[A];exact block_setCell B5 _
 have B8:=block_setCell (k:=1) ((f.block gl (by omega)).trans B6) (.pointer (some ⟨c,0,none⟩));have D5:g.heap[w4.heap.size]?=some (.cells #[M,.slice none 0 0,.int .i64 ((n+1:Nat):Int)] 48 (0,0)):=by rw[z];exact AB w4 _
 have key:∀j,j<x.heap.size->(j=w4.heap.size\/Q j\/j=gl\/j=c)->j<m.heap.size:=fun j G H=>by
  rcases H with h|h|h|h
  .omega
  .have:=D j h;omega
  .omega
  omega
 refine⟨(C.mono fun j h=>.inr h).trans (J.mono fun j h=>.inl h),⟨by omega,by omega⟩,u.from_,u.away,B8,⟨by omega,?_,by simpa using hl,by omega,_,_,(v.block _ (by omega) (by omega)).trans D5,?_,OffB.nil _ _⟩,?_⟩
 .rintro(h|h|h)
  .have:=D _ h;omega
  .omega
  omega
 .refine(hp.more key).keep fun j G U=>?_;have y:=a.trans (d.mono O);exact(v.block j (by omega) fun h=>U (.inr (.inr (.inl h)))).trans (y.block j G)
 refine((T.lower (N':=N) (by omega)).only L fun j _ h=>by omega).more fun j G H=>?_;rcases H with h|h|h
 .have:=D j h;omega
 .omega
 omega
theorem ztO(N gl gd gw:Nat)(k:Int)(jv:Value)(j:Bs)(cs:List ColB)(es:List EntB)(s r:Bs)(n:Nat)(Q:Nat->Prop)(w:World)(X:Lgm w N gl gd gw cs es s r n Q)(hQ:∀j,Q j->j<w.heap.size)(hN:N<=w.heap.size)(hj:Rd w jv j)(hk:-9223372036854775808<=k/\k<=9223372036854775807)(hn:n<1000000)(u:crE r.length k j.length=0->(rvD (s++(r.take k.toNat++j))).2.2.2=0) :Calls prog 16 #[.pointer (some ⟨gl,0,none⟩),.int .i64 k,jv] w (CrL w N gl gd gw cs es s r n Q k j (s++(r.take k.toNat++j))):=by
 have HL:=h_ X;have HQ:=h_ hQ;obtain⟨c0,c1⟩:=X.cells;obtain⟨n1,n2,n3⟩:=X.ne;have HN:=h_ (Al n1 (Al n2 n3));have aa:=X.lt;have ax:=X.wrt.lt;have O:=h_ (ztP N gd s r n _ k jv j w X.dsk (fun j k=>by
  rcases k with k|k|k
  .exact hQ j k
  .rw[k];exact aa
  .rw[k];exact ax) hj hk hn)
 obtain⟨aj,cj,rfl,_⟩:=hj.shape;unfold CrM at O;unfold CrL;have aQ:=h_ hN;have T:=h_ aa;obtain⟨B,hB⟩:=nm_ (s++(r.take k.toNat++j));obtain⟨E,hE⟩:=nm_ (crE r.length k j.length);rw[<-hB]at O u ⊢;rw[<-hE]at O u ⊢;clear X hQ n1 n2 n3 hj hk ax hN hB hE aa;by_cases h0:E=0
 .subst h0;have C:=u rfl;obtain⟨hp,_⟩:=zFY C;have HD:=h_ (zGS C);have aW:=h_ C;clear u C;go_enter func16,ntmps16;go_wp2_with fail;refine O.mono ?_;rintro e z⟨rfl,hO,g⟩;rcases g with⟨g,_⟩|⟨_,hm⟩
  .exact absurd rfl g
  have f:=h_ ((hO.block gl T.o fun q=>HN.1 q.symm).trans HL.box);have d0:z.cell? ⟨gl,0,none⟩=some (.pointer (some ⟨gd,0,none⟩)):=Ag _ _ 0 _ _ _ f.o;have BY:=h_ (zg4 N gd B [] (n+1) _ z hm);rw[AV]at BY;have HO:=h_ hO;have HM:=h_ hm;have aA:B.length<=100000000:=by have:=hm.small;simpa using this
  have U:=h_ aA;clear O hO hm c0 c1 aA;go_wp2_with fail;refine BY.mono ?_;rintro e M⟨bv,rfl,ho,ar⟩;have t:=ho.rd (by have:=U.o;omega);have RV:=h_ (zqT bv B M t);obtain⟨pv,aB,m⟩:=t.upto (rvD B).1 hp;obtain⟨ab,cb,rfl,_⟩:=t.shape;have l:(B.take (rvD B).1).length=(rvD B).1:=by rw[Aq];omega
  obtain⟨pa,pc,rfl,_⟩:=(m M t).shape;rw[l]at aB m;have aU:=h_ ho;have A:=h_ ar;have ba:=h_ l;unfold RvO at RV;rw[aW.o]at RV;obtain⟨p,ad⟩:=nm_ ((rvD B).1);rw[<-ad]at RV aB m;have an:=h_ ad;have aV:=h_ m;clear BY ho ar t m d0 l ad hp;go_wp2_with fail;refine RV.mono ?_;rintro e w3⟨tv,rfl,hT,hC,au⟩;obtain⟨sv,ev,rfl,hR,hZ⟩:=hT;obtain⟨ae,ne,ce,rfl⟩:=hZ.lit;obtain⟨ac,nc,cc,rfl⟩:=hR.lit12;obtain⟨M1,M2⟩:=za5 w3 (.cells #[.slice ac nc cc,.slice ae ne ce] 55);have am:=h_ au;have aS:=h_ M2;clear RV hC au hR hZ M1 M2;go_wp2;obtain⟨w4,af⟩:=nm_ (w3.alloc (.cells #[.slice ac nc cc,.slice ae ne ce] 55));rw[<-af];have b:Lz M w4:=by rw[af];exact am.trans (aS.mono am.size)
  have J:=h_ b;have i:gl<z.heap.size:=AE T.o HO.size;have L:=HM.lt;have H:=A.size;have I:=b.size;obtain⟨bN,bM,av,_,_⟩:=HM.box;have a:∀c,Only (fun j=>w4.heap.size<=j) w4 c->c.heap[gl]?=z.heap[gl]?/\c.heap[gd]?=z.heap[gd]?:=fun c G=>
   ⟨(G.block gl (by omega) (by omega)).trans ((b.block gl (by omega)).trans (A.block gl i)),(G.block gd (by omega) (by omega)).trans ((b.block gd (by omega)).trans (A.block gd L))⟩
  have GX:=h_ (fun c(G:Only (fun j=>w4.heap.size<=j) w4 c)=>show c.cell? ⟨gl,0,none⟩=some (.pointer (some ⟨gd,0,none⟩))from Ag _ _ 0 _ _ _ ((a c G).1.trans f.o));have DX:=h_ (fun c(G:Only (fun j=>w4.heap.size<=j) w4 c)=>show c.cell? ⟨gd,2,none⟩=some (.int .i64 ((n+1:Nat):Int))from Ag _ _ 2 _ _ _ ((a c G).2.trans av));have FX:=h_ (fun c o(G:Only (fun j=>w4.heap.size<=j) w4 c)=>show(c.alloc o).cell? ⟨gl,0,none⟩=some (.pointer (some ⟨gd,0,none⟩))/\(c.alloc o).frozen? ⟨gl,0,none⟩=false from
   ⟨Ag _ _ 0 _ _ _ ((a _ (G.alloc o)).1.trans f.o),At _ _ _ _ _ ((a _ (G.alloc o)).1.trans f.o)⟩)
  have L0:=fun x:OrdR.GW (Only (fun j=>w4.heap.size<=j)) w4.drew=>GX.o x.val ((Only.refl _ w4).drew.trans x.grew);have L2:=fun x:OrdR.GW (Only (fun j=>w4.heap.size<=j)) w4.drew=>DX.o x.val ((Only.refl _ w4).drew.trans x.grew);obtain⟨f0,f1⟩:=FX.o w4 (.cells #[.slice pa p pc,.slice none 0 0,.int .i64 ((n:Int)+1)] 48 (0,0)) (Only.refl _ _);have aN:=h_ a;have aO:=h_ (Al i (Al H I));clear b i L H I av af a;go_wp2_with fail;refine OrdZ.wp_region_ord (R:=Only (fun j=>w4.heap.size<=j)) (zt9 _) [(0,false),(1,false),(2,false),(3,false),(4,false),(5,false),(6,false),(7,false),(8,false),(9,false),(10,false),(11,true),(12,true),(13,false),(14,false),(15,true)] 15 20 (by kernel_rfl) (by kernel_rfl) rfl (by kernel_rfl) (by kernel_rfl) (fun _ _ _ d _ h=>by cases d<;>exact h) ?_;iterate 11 (refine Ak rfl rfl (by kernel_rfl) (fun K hK=>?_);go_big_quiet_op;refine hK _ ?_;clear hK K)
  refine Ax rfl (by kernel_rfl) (fun K hK=>?_);go_big_op;refine hK _ _ (Only.refl _ _) ?_
  try simp only[Act.put,A8,Bw,Bc]
  clear hK K;refine Ax rfl (by kernel_rfl) (fun K hK=>?_);go_big_op;refine hK _ _ (Only.later15 ((Ac _ _).alloc l_ _)) ?_
  try simp only[Act.put,A8,Bw,Bc]
  clear hK K;iterate 2 (refine Ak rfl rfl (by kernel_rfl) (fun K hK=>?_);go_big_quiet_op;refine hK _ ?_;clear hK K)
  refine OrdR.ord_last rfl (by kernel_rfl) (fun K hK=>?_);go_big_op;refine hK _ _ ?_;clear hK K;obtain⟨w5,D⟩:=nm_ (w4.alloc (.cells #[.slice pa p pc,.slice none 0 0,.int .i64 ((n:Int)+1)] 48 (0,0)));obtain⟨w6,y⟩:=nm_ ((w5.setCell ⟨gl,0,none⟩ (.pointer (some ⟨w4.heap.size,0,none⟩))).drew);have V:Only (fun j=>w4.heap.size<=j) w4 w5:=by rw[D];exact(Only.refl _ _).alloc _
  have az:w5.heap.size=w4.heap.size+1:=by rw[D];simp
  have a6:w6.heap.size=w4.heap.size+1:=by rw[y];simpa using az
  obtain⟨a3,H,I⟩:=aO.o;have aC:=aU.off (Q:=fun j=>j<z.heap.size) (by have:=U.o;omega) fun j h1 h2=>by omega
  have ag:OffB M (.slice pa p pc) (B.take p) fun j=>j<z.heap.size:=zEF (aV.o _ (aC.keep (w':=blank M z.heap.size) fun j h1 h2=>(ze0 _ _).block j h1 h2).1);have ay:∀j,j<M.heap.size->¬j<z.heap.size->w6.heap[j]?=M.heap[j]?:=fun j h1 h2=>by
   have o6:Only (fun q=>q=gl) w5 w6:=(by rw[y];exact((Only.refl (fun q=>q=gl) _).setCell (p:=⟨gl,0,none⟩) rfl _).drew);exact(o6.block j (by omega) (by omega)).trans ((V.block j (by omega) (by omega)).trans (J.block j h1))
  have aw:w6.heap[gl]?=some (.cells #[.pointer (some ⟨w4.heap.size,0,none⟩),.pointer (some ⟨gw,0,none⟩)] 44 (0,0)):=by
   rw[y];exact block_setCell (k:=0) ((aN.o w5 V).1.trans f.o) _
  have OP:=h_ (ztM (.slice pa p pc) (B.take p) w6 (ag.keep ay).1);unfold OmN at OP;obtain⟨D1,D2,D3⟩:=HD.o;rw[<-an.o]at D1 D2 D3;rw[D1,D2,D3]at OP;have aP:=h_ aw;have aX:=h_ ag;have aR:=h_ (show gl<w6.heap.size from by omega);have ao:=h_ D;have ap:=h_ y;clear V az a6 a3 H I aC ag ay aw D1 D2 D3 D y f0 f1;go_wp2_with fail;rw[<-ao.o,<-ap.o];go_wp2_with fail;refine OP.mono ?_;rintro e w7⟨v,rfl,Y,g⟩;rcases g with⟨g,_⟩|⟨_,hw,rfl,hM⟩
  .exact absurd rfl g
  have Z:=(Y.block gl aR.o).trans aP.o;have e1:w7.cell? ⟨gl,1,none⟩=some (.pointer (some ⟨gw,0,none⟩)):=Ag _ _ 1 _ _ _ Z;have f1:w7.frozen? ⟨gl,1,none⟩=false:=At _ _ _ _ _ Z;have aM:=h_ Y;have aT:=h_ hM;clear OP Y hM Z;go_wp2;go_ret;obtain⟨a1,a7,a0⟩:=zHS HL.o HQ.o aQ.o HO.o A.o aX.o (by rw[Aq];have:=U.o;omega) hn J.o ao.o ap.o aM.o aT.o;exact⟨by first|trivial|rfl,a1,.inr ⟨by first|trivial|rfl,_,_,a7,by rw[<-an.o];exact a0⟩⟩
 have q:((E:Int)!=0)=true:=by rw[Ao];omega
 have HE:=h_ h0;clear u h0;go_enter func16,ntmps16;go_wp2_with fail;refine O.mono ?_;rintro e z⟨rfl,hO,g⟩;rcases g with⟨_,hm⟩|⟨g,_⟩
 .have HO:=h_ hO;have HM:=h_ hm;clear O hO hm;go_wp2;go_ret;exact⟨rfl,HO.mono fun j h=>.inr h,.inl ⟨HE.o,HL.from_,HL.away,(HO.block gl T.o fun q=>HN.1 q.symm).trans HL.box,HM.o,HL.wrt.only HO.o fun j _ h=>.inr (.inr h)⟩⟩
 exact absurd g HE.o
end
section
theorem zqW(N g:Nat)(s r:Bs)(n:Nat)(Q:Nat->Prop)(k:Int)(w:World)(h:Mdk w N g s r n Q)(c:(r.length:Int)<k) :Calls prog 43 #[.pointer (some ⟨g,0,none⟩),.int .i64 k,.slice none 0 0] w fun e w'=>e=.returned (.int .i64 3)/\w=w':=by
 obtain⟨t,rv,b,i,a⟩:=h.box;have j:w.cell? ⟨g,1,none⟩=some rv:=by rw[Ag _ _ _ _ _ _ b];rfl
 have f:=a.1.len;obtain⟨m,p,rfl,_⟩:=a.1.shape;have l:decide (k<0)=false:=Af (by omega);have d:(r.length:Int)<k:=c;clear h b i a c;go_enter func43,ntmps43;go_wp2;go_ret;exact⟨rfl,rfl⟩
theorem zqV{N gl gd gw:Nat}{cs:List ColB}{es:List EntB}{s r:Bs}{n:Nat}{Q:Nat->Prop}{w:World}(k:Int)(h:Lgm w N gl gd gw cs es s r n Q)(a:(r.length:Int)<k) :Calls prog 16 #[.pointer (some ⟨gl,0,none⟩),.int .i64 k,.slice none 0 0] w fun e w'=>e=.returned (.int .i64 3)/\w=w':=by
 obtain⟨d,c⟩:=h.cells;have b:=h_ (zqW N gd s r n _ k w h.dsk a);clear h a c;go_enter func16,ntmps16;go_wp2_with fail;refine b.mono ?_;rintro e w1⟨rfl,rfl⟩;go_wp2;go_ret;exact⟨rfl,rfl⟩
def rest16(cs:List ColB)(es:List EntB)(k:Nat):Bs:=(trE cs es).1.drop (trE cs (es.take k)).1.length
structure P16(w:World)(W N gl gw gd:Nat)(bv dv:Value)(ml md mw:Nat)(cs:List ColB)(es:List EntB)(k n:Nat):Prop where
 p:Lgp w W gl gw gd bv dv cs es k (fun j=>j=ml\/j=md\/j=mw)
 m:Lgm w N ml md mw cs es (trE cs (es.take k)).1 (rest16 cs es k) n (LgS gl gw gd bv dv)
section
variable{w w' w1 w2:World}{W N gl gw gd ml md mw k k' n:Nat}{bv dv:Value}{cs:List ColB}{es es':List EntB}
theorem zhM(h:TrS cs es)(k:Nat):(rest16 cs es k).length=rvR cs es k/\(trE cs (es.take k)).1++rest16 cs es k=(trE cs es).1:=by
 obtain⟨_,a,b⟩:=zcX h k;unfold rest16 rvR;refine⟨Ay,?_⟩
 conv=>lhs;lhs;rw[a]
 exact A0 _ _
theorem P16.later(h:P16 w W N gl gw gd bv dv ml md mw cs es k n)(a:Lz w w'):P16 w' W N gl gw gd bv dv ml md mw cs es k n:=⟨h.p.later a,h.m.later a⟩
theorem P16.hp(h:P16 w W N gl gw gd bv dv ml md mw cs es k n):∀j,(j=ml\/j=md\/j=mw)->j<w.heap.size:=fun j a=>(h.m.at_ a).2
theorem P16.hm(h:P16 w W N gl gw gd bv dv ml md mw cs es k n):∀j,LgS gl gw gd bv dv j->j<w.heap.size:=fun j a=>(h.p.at_ a).2.1
theorem zgZ{e:Nat->Prop}(h:P16 w W N gl gw gd bv dv ml md mw cs es k n)(f:Lgx w' W gl cs es' k' (fun j=>j=ml\/j=md\/j=mw) e)(g:Only (LgS gl gw gd bv dv) w w')(i:∀j,e j->LgS gl gw gd bv dv j\/w.heap.size<=j) :∃d c a b,Lgp w' W gl d c a b cs es' k' (fun j=>j=ml\/j=md\/j=mw)/\Lgm w' N ml md mw cs es (trE cs (es.take k)).1 (rest16 cs es k) n (LgS gl d c a b):=by
 obtain⟨d,c,a,b,hp,rfl⟩:=f;exact⟨d,c,a,b,hp,zy1 h.m g (fun _ h=>h) i⟩
theorem zB4{a:ActB}{E:Nat}{e:Ending}(hp:Lgp w1 W gl gw gd bv dv cs (actS cs es a) k (fun j=>j=ml\/j=md\/j=mw))(d:TrS cs es)(g:PSO a.2)(m:k<=es.length)(h:LgO w1 N ml md mw cs (trE cs (es.take k)).1 (rest16 cs es k++actB cs es a) n (LgS gl gw gd bv dv) E (actS cs es a) e w2):e=.returned (.int .i64 (E:Int))/\P16 w2 W N gl gw gd bv dv ml md mw cs (actS cs es a) k n/\Only (fun j=>j=md\/j=mw) w1 w2:=by
 obtain⟨i,hm,c⟩:=h;refine⟨i,⟨hp.only c fun j l=>.inr l,?_⟩,c⟩;have b:(actS cs es a).take k=es.take k:=zpO cs a m;have f:rest16 cs (actS cs es a) k=rest16 cs es k++actB cs es a:=by
  unfold rest16;rw[b,ze1 d g,List.drop_append_of_le_length (zcX d k).2.2]
 rw[b,f];exact hm
theorem zE9(hp:Lgp w1 W gl gw gd bv dv cs es es.length (fun j=>j=ml\/j=md\/j=mw))(hm:Lgm w1 N ml md mw cs es (trE cs (es.take k)).1 (rest16 cs es k) n (LgS gl gw gd bv dv))(d:Mdk w2 N md ((trE cs (es.take k)).1++rest16 cs es k) [] n (fun j=>LgS gl gw gd bv dv j\/j=ml\/j=mw))(a:Only (fun j=>j=md) w1 w2):P16 w2 W N gl gw gd bv dv ml md mw cs es es.length n:=by
 refine⟨hp.only a fun j b=>.inr (.inl b),hm.from_,hm.away,a.keep hm.box fun h=>hm.ne.1 h.symm,?_,hm.wrt.only a fun j _ b=>.inr (.inr b)⟩;have c:rest16 cs es es.length=[]:=by unfold rest16;rw[Bo];exact Ch l_
 rw[c,Bo,<-(zhM hp.wrt.trs k).2];exact d
theorem zB3{a c:Nat}{B:Bs}(hp:Lgp w1 W gl gw gd bv dv cs es' es'.length (fun j=>j=ml\/j=md\/j=mw))(d:Left cs B es')(hm:Lgm w2 N ml a c (rvD B).2.1 (rvD B).2.2.1 (B.take (rvD B).1) [] (n+1) (LgS gl gw gd bv dv))(f:Only (fun q=>q=ml\/q=md) w1 w2)(g:w1.heap.size<=a/\w1.heap.size<=c):P16 w2 W N gl gw gd bv dv ml a c cs es' es'.length (n+1):=by
 rw[d.rv]at hm;dsimp only at hm;rw[d.take]at hm;refine⟨zy0 hp f (fun j b=>b.elim .inl fun h=>.inr (.inl h)) fun j b=>?_,?_⟩
 .rcases b with h|h|h
  .exact .inl (.inl h)
  .exact .inr (by omega)
  exact .inr (by omega)
 have e:rest16 cs es' es'.length=[]:=by unfold rest16;rw[Bo];exact Ch l_
 rw[e,Bo];exact hm
end
end
theorem zkC(sv:Value)(cs:List ColB)(v:Value)(l:List ActR)(w:World)(hR:RdC w sv cs)(hC:CS cs)(hA:zgJ w v l)(Z:ACR l)(hU:(flat16 l).length+junk16 l<=1048576)(hT:Tabs w)(hF:Frs w) :Calls prog 3 #[sv,v] w fun e w'=>e=.returned (.bool true)/\Lz w w':=by
 obtain⟨ac,nc,cc,rfl⟩:=hR.lit12;obtain⟨al,nl,cl,rfl⟩:=hA.lit;have fH:=hR.len;have co:=hA.len;have AL:=h_ (fun u(H:Lz w u)=>zu8 u (hT.later H) (hF.later H));have GR:=h_ (fun u(H:Lz w u)=>zu6 (.slice al nl cl) l u (hA.later H) (by omega) (by omega));have be:=h_ (fun u(H:Lz w u)=>hR.later H l_);have HA:=h_ hA;have aG:=h_ (fun u(H:Lz w u)=>Al (hT.later H) (hF.later H));have HC:=h_ hC;have HO:=h_ Z;obtain⟨n,hn⟩:=nm_ l.length;rw[<-hn]at co;have HN:=h_ hn;clear hR hC hA Z hU hT hF hn;go_enter func3,ntmps3;go_wp2_with fail;refine(AL.o w (Ac _ _)).mono ?_;rintro e w1⟨rfl,c⟩;have bz:=h_ c;clear c;go_wp2_with fail;refine(GR.o w1 bz.o).mono ?_;rintro e w2⟨y,rfl,hy,hf,c⟩;have ay:=bT bz c;clear c GR bz;rcases hy with rfl|rfl
 .have aZ:=h_ (hf rfl);have fp:n<=20:=by rw[HN.o];exact aZ.1
  clear hf;by_cases cg:30<cs.length
  .have d3:decide ((cs.length:Int)>30)=true:=Ah (by omega);clear cg;go_wp2_with fail;refine(AL.o w2 ay.o).mono ?_;rintro e w3⟨rfl,c⟩;have af:=bT ay c;clear c;go_wp2;go_ret;exact⟨rfl,af.o⟩
  have d3:decide ((cs.length:Int)>30)=false:=Af (by omega);clear cg;have NW:=h_ (zmX (.slice ac nc cc) cs w2 (be.o w2 ay.o) HC.o (aG.o w2 ay.o).1);unfold NlP at NW;obtain⟨E,hE⟩:=nm_ (errS (colsL cs));have HE:=h_ hE;rw[<-hE]at NW;clear AL hE;go_wp2_with fail;refine NW.mono ?_;rintro e w3⟨v3,rfl,c,hw⟩;have af:=bT ay c;have b1:=h_ c;have NM:=h_ (zAD (.slice ac nc cc) cs w3 (be.o w3 af.o) HC.o);unfold NlO at NM;rw[<-HE.o]at NM;clear c NW;rcases hw with⟨h0,rfl⟩|⟨h0,gl,gw,gd,bv,dv,rfl,hw⟩
  .have q:((E:Int)!=0)=true:=(by rw[Ao];omega);go_wp2_with fail;refine NM.mono ?_;rintro e wn⟨v4,rfl,c,hm⟩;have ba:=bT af c;rcases hm with⟨_,rfl⟩|⟨S,_⟩
   .clear c h0 NM;go_wp2;go_ret;exact⟨rfl,ba.o⟩
   exact absurd S h0
  subst h0;go_wp2_with fail;refine NM.mono ?_;rintro e wn⟨v4,rfl,c,hm⟩;rcases hm with⟨S,_⟩|⟨_,Y,md,mw,rfl,hm⟩
  .exact absurd rfl S
  have ba:=bT af c;have bm:=(hw (fun _=>False) fun j h=>h.elim).lower ay.size;have bl:=hm (LgS gl gw gd bv dv) ((OffG.old (be.o w (Ac _ _)) zbK (Q:=LgS gl gw gd bv dv) fun j hj g=>by
   have:=(bm.at_ g).1;omega).keep zbK fun j hj _=>af.block j hj) (fun j g=>(bm.at_ g).2.1)
  obtain⟨N,hN⟩:=nm_ w3.heap.size;rw[<-hN]at bl;have bb:=h_ (show w.heap.size<=N from by rw[hN];exact af.size);have b6:=h_ (show P16 wn w.heap.size N gl gw gd bv dv Y md mw cs [] 0 0 from⟨(bm.more (Q':=fun j=>j=Y\/j=md\/j=mw) fun j hj g=>by
   have:=(bl.at_ g).1;omega).later c,by
   have e:rest16 cs [] 0=[]:=by unfold rest16;rw[AU];exact Ch l_
   rw[e,AU];exact bl⟩)
  have aV:=h_ (show(trE cs []).1.length<=1048600+0*1048591 from by rw[(TrS.nil HC.o HE.symm).2];exact zcJ HE.symm);have dK:=h_ (show N<=wn.heap.size from by rw[hN];exact c.size);clear hw c hm bm bl hN b1 be NM;go_wp2;go_loopw [52] (fun i wr=>∃(j:Nat)(es:List EntB)(k nn:Nat)(gw gd:Nat)(bv dv:Value)(md mw:Nat),j<=n/\i=.int .i64 j/\nn<=j/\Hid (P16 wr w.heap.size N gl gw gd bv dv Y md mw cs es k nn)/\Hid ((trE cs es).1.length<=1048600+j*1048591)/\Hid (Lz w wr)) (fun i _=>n-(intOf i).toNat)
  case atStart=>exact⟨0,[],0,0,_,_,_,_,_,_,by omega,rfl,l_,b6,aV,ba⟩
  clear b6 ba aV af dK;obtain⟨j,es,k,nn,X,V,T,U,s,O,hj,rfl,fJ,HP,aV,HB⟩:=hrel;by_cases cq:j<n
  .have a6:j<l.length:=(by rw[<-HN.o];exact cq);obtain⟨b9,o9,pv,jv,fo,y0,y1,y2,y3,a7,aW,fC⟩:=HA.get a6;have e0:=za6 HB.o y0;have e1:=za6 HB.o y1;have e2:=za6 HB.o y2;have e3:=za6 HB.o y3;have bh:=HO.get a6;have bk:(l.getD j default).2.1.length<=4000:=(by have S:=zy7 a6;have h2:=aZ.2.1;omega);have a3:(l.getD j default).2.2.2.length<=2000:=(by have S:=zy3 a6;have h2:=aZ.2.2.1;omega);obtain⟨a,hx⟩:∃x,x=l.getD j default:=⟨_,rfl⟩;rw[<-hx]at e0 e2 a7 aW bh bk a3;obtain⟨kd,ps,kc,jl⟩:=a;dsimp only at e0 e1 e2 e3 a7 aW bh bk a3;obtain⟨ap,np,cp,rfl⟩:=a7.lit12;obtain⟨aj,cj,rfl,_⟩:=aW.shape;obtain⟨jn,bJ⟩:=nm_ jl.length;have dI:=h_ bJ;rw[<-bJ]at e3 aW a3;obtain⟨N1,bi⟩:=za5 wr (.cells #[.int .i64 kd,.slice ap np cp,.int .u8 (kc:Int),.slice aj jn cj] 36);obtain⟨w4,bn⟩:=nm_ (wr.alloc (.cells #[.int .i64 kd,.slice ap np cp,.int .u8 (kc:Int),.slice aj jn cj] 36));obtain⟨eb,bI⟩:=nm_ wr.heap.size;rw[<-bn]at bi;rw[<-bn,<-bI]at N1;have bC:=h_ (Al bn bI);have aH:=h_ (show Ybox w4 eb kd (.slice ap np cp) kc (.slice aj jn cj)from N1);have ag:=bT HB bi;have dP:=h_ bi;have bd:=h_ (fun u(H:Lz w u)=>Al (a7.later H l_) (aW.later H l_));have aU:=h_ bh;have b3:=h_ (Al bk a3);obtain⟨x0,x1,x2,x3⟩:=aH.cells;clear a6 y0 y1 y2 y3 a7 aW bh bk a3 hx N1 bi bn bI bJ;have z:=h_ (HP.later dP.o);have ht:=HP.p.wrt.trs;have aq:=h_ ht;have fG:j*1048591<=20*1048591:=Cb _ (by omega)
   have bD:=h_ (show(∀q,LgS gl X V T U q->q<wr.heap.size/\q≠Y/\q≠s)/\Y<wr.heap.size/\s<wr.heap.size/\O<wr.heap.size from
    ⟨fun q g=>⟨HP.hm q g,fun e=>(HP.p.at_ g).2.2 (.inl e),fun e=>(HP.p.at_ g).2.2 (.inr (.inl e))⟩,HP.hp _ (.inl rfl),HP.hp _ (.inr (.inl rfl)),HP.hp _ (.inr (.inr rfl))⟩)
   clear HP ht;go_wp2_with ((with_reducible show wpList _ _ _ (⟨some 56,_,_,_,_,_⟩::_) _ _);refine Hid.o ?_);rw[<-bC.1,<-bC.2];have bo:=h_ (show eb=wr.heap.size/\eb<w4.heap.size from⟨bC.2,(Aj.1 aH.o).1⟩);refine h_ ?_
   rename (∀(a:Act)(w:World),Code.wp _ (Code.seq (Code.region 26 _ _) _) _ a w->(_:Act->World->Prop) a w)=>h26
   have ak:=fun(ee ef eg eh ei ej ek el em en eo ep eq er et eu ev ew ex ey ez eA eB eC eD eE eF eG eH eI eJ eK eL eM eN eO eP eQ eR eS eT eU eV eW eX eY cL cM cN cO cP cQ cR cS cT cU cV cW cX cY cZ c1 c2 c3 c4 c5 c6 c7 c8 c9 da db dc dd de df:Value)(E:Nat)(ar:List EntB)(k5 a8 aL aK:Nat)(aI aJ:Value)(bO cB:Nat)(C:World)(b5:Hid (P16 C w.heap.size N gl aL aK aI aJ Y bO cB cs ar k5 a8))(fI:a8<=j+1)(dN:Hid ((trE cs ar).1.length<=1048600+(j+1)*1048591))(M:Hid (Lz w C))=>h26 (⟨#[.slice ac nc cc,.slice al nl cl,undef,undef,u4,.pointer (some ⟨gl,0,none⟩),.int .i64 0,.pointer (some ⟨Y,0,none⟩),.int .i64 0,undef,.pointer (some ⟨eb,0,none⟩),.int .i64 (E:Int),.int .i64 (E:Int),ee,ef,.bool true,.bool false,.bool false,.slice al nl cl,.int .i64 0,.bool false,.bool false,.bool false,.slice ac nc cc,.int .i64 (cs.length:Int),.bool false,.bool false,undef,.tuple #[.pointer (some ⟨gl,0,none⟩),.int .i64 0],.slice ac nc cc,.tuple #[.pointer (some ⟨gl,0,none⟩),.int .i64 0],.pointer (some ⟨gl,0,none⟩),.int .i64 0,.tuple #[.pointer (some ⟨Y,0,none⟩),.int .i64 0],.slice ac nc cc,.tuple #[.pointer (some ⟨Y,0,none⟩),.int .i64 0],.pointer (some ⟨Y,0,none⟩),.int .i64 0,.int .i64 0,.int .i64 0,.bool false,.bool false,.pointer (some ⟨gl,0,none⟩),.bool false,.int .i64 0,.bool false,.bool false,.bool false,.int .i64 0,.bool false,.slice al nl cl,.int .i64 (n:Int),.int .i64 (j:Int),.bool true,.pointer (some ⟨b9,o9,none⟩),.agg #[.int .i64 kd,.slice ap np cp,.int .u8 (kc:Int),.slice aj jn cj],eg,eh,ei,ej,ek,el,em,en,eo,ep,eq,er,et,eu,ev,ew,ex,ey,ez,eA,eB,eC,eD,eE,eF,eG,eH,eI,eJ,eK,eL,eM,eN,eO,eP,eQ,eR,eS,eT,eU,eV,eW,eX,eY,cL,cM,cN,cO,cP,cQ,cR,cS,cT,cU,cV,cW,cX,cY,cZ,c1,c2,c3,c4,c5,c6,c7,c8,c9,da,db,dc,dd,de,df,u130,u131,u132,u133,u134,u135,u136,u137,u138,u139,u140,u141,u142,u143,u144,u145,u146,u147,u148,u149,u150,u151,u152,u153,u154,u155,u156,u157,u158,u159,u160,u161,u162,u163,u164,u165,u166,u167,u168,u169,u170,u171,u172,u173,u174,u175,u176,u177,u178,u179,u180,u181,u182,u183,u184,u185,u186,u187,u188,u189,u190,u191,u192,u193,u194,u195,u196,u197,u198],[]⟩:Act) C (by
    clear h26;have hP:=b5.o;have bL:=hP.p.wrt.trs;obtain⟨rl,rc⟩:=zhM bL k5;have BX:=h_ (fun u(H:Lz C u)=>zqL (hP.p.later H));have BM:=h_ (fun u(H:Lz C u)=>zg4 N bO _ _ a8 _ u (hP.m.dsk.later H));have SX:=h_ (fun u(H:Lz C u)=>zmW (hP.p.later H));have VX:=h_ (fun u(H:Lz C u)=>zk9 (hP.p.later H));have MN:=h_ (fun u(H:Lz C u)=>zcY (hP.p.later H).box (hP.p.later H).wrt);have SF:=h_ (fun u(H:Lz C u)=>zkB (hP.p.later H));have SM:=h_ (fun u(H:Lz C u)=>show Calls prog 24 #[.pointer (some ⟨Y,0,none⟩)] u (fun e w'=>e=.returned (.int .i64 (k5:Int))/\Lz u w')from
     (zxC N Y bO cB cs ar _ _ a8 _ u (hP.m.later H)).mono fun e w' h=>⟨by rw[h.1,rc,zDU bL hP.p.le];simp,h.2⟩)
    obtain⟨d9,d8,fO,bH,ck,bM⟩:=hP.m.wrt.trace;obtain⟨s',e',cm,_,hZ⟩:=ck;obtain⟨rfl,rfl⟩:d9=s'/\d8=e':=by cases cm;exact⟨rfl,rfl⟩
    have d2:=hZ.len;obtain⟨ae,ne,ce,rfl⟩:=hZ.lit;obtain⟨av,nv,cv,rfl⟩:=bM.lit12;obtain⟨L,hL⟩:=nm_ ((trE cs ar).1);obtain⟨sq,cu⟩:=nm_ ((trE cs ar).2.1);obtain⟨vw,cy⟩:=nm_ ((trE cs ar).2.2.1);obtain⟨m,hm⟩:=nm_ ar.length;have bE:=h_ (show(trE cs ar).1.length<=140737488351232 from by have:=hP.p.dsk.small;omega);have b8:=h_ bM;rw[rc]at BM;rw[<-hL]at BX BM bE;rw[<-cu]at SX bH;rw[<-cy]at VX b8;rw[<-hm]at MN d2;have b:Lz C C.drew:=(Ac _ _).drew;have D:=h_ (fun u(H:Lz C u)=>(hP.m.later H).cells);have f:=h_ (fun u(H:Lz C u)=>(bH.later H).cells);have ad:Lz C C.drew:=(Ac _ _).drew;have t0:=fun x:Ord.GW C.drew=>(D.o _ (ad.trans (x.grew.mono ad.size))).1;have t1:=fun x:Ord.GW C.drew=>(D.o _ (ad.trans (x.grew.mono ad.size))).2;have t2:=fun x:Ord.GW C.drew=>(f.o _ (ad.trans (x.grew.mono ad.size))).2.1;have t3:=fun x:Ord.GW C.drew=>(f.o _ (ad.trans (x.grew.mono ad.size))).2.2.1;have t4:=fun x:Ord.GW C.drew=>(f.o _ (ad.trans (x.grew.mono ad.size))).2.2.2;clear hP bL rl rc bH cm hZ bM hL cu cy hm ad;go_wp2_with fail;refine AY Ord.way [(0,false),(1,false),(2,false),(3,false),(4,false),(5,false),(6,false),(7,false),(8,false),(9,false),(10,false),(11,false),(14,false),(15,false),(16,false),(17,false),(12,true),(13,false),(18,true),(19,false),(20,false),(21,false),(22,false),(23,false),(25,false),(26,false),(27,false),(28,false),(29,false),(30,false),(31,false),(24,true),(32,false),(33,false),(34,false),(35,false),(37,false),(38,false),(39,false),(40,false),(41,false),(42,false),(43,false),(36,true),(44,true),(45,false),(46,false),(47,false),(48,false),(50,false),(51,false),(52,false),(53,false),(54,false),(55,false),(56,false),(57,false),(58,false),(49,true),(59,false),(60,false),(61,false),(62,false),(64,false),(63,true),(65,true),(66,false),(67,false)] (by kernel_rfl) rfl (by kernel_rfl) (by kernel_rfl) (fun _ _ _ d _ h=>by cases d<;>exact h) ?_;refine Ak rfl rfl (by kernel_rfl) (fun K hK=>?_);go_big_quiet_op;refine hK _ ?_;clear hK K;refine Ak rfl rfl (by kernel_rfl) (fun K hK=>?_);go_big_quiet_op;refine hK _ ?_;clear hK K;refine Ak rfl rfl (by kernel_rfl) (fun K hK=>?_);go_big_quiet_op;refine hK _ ?_;clear hK K;refine Ak rfl rfl (by kernel_rfl) (fun K hK=>?_);go_big_quiet_op;refine hK _ ?_;clear hK K;refine Ak rfl rfl (by kernel_rfl) (fun K hK=>?_);go_big_quiet_op;refine hK _ ?_;clear hK K;refine Ak rfl rfl (by kernel_rfl) (fun K hK=>?_);go_big_quiet_op;refine hK _ ?_;clear hK K;refine Ak rfl rfl (by kernel_rfl) (fun K hK=>?_);go_big_quiet_op;refine hK _ ?_;clear hK K;refine Ak rfl rfl (by kernel_rfl) (fun K hK=>?_);go_big_quiet_op;refine hK _ ?_;clear hK K;refine Ak rfl rfl (by kernel_rfl) (fun K hK=>?_);go_big_quiet_op;refine hK _ ?_;clear hK K;refine Ak rfl rfl (by kernel_rfl) (fun K hK=>?_);go_big_quiet_op;refine hK _ ?_;clear hK K;refine Ak rfl rfl (by kernel_rfl) (fun K hK=>?_);go_big_quiet_op;refine hK _ ?_;clear hK K;refine Ak rfl rfl (by kernel_rfl) (fun K hK=>?_);go_big_quiet_op;refine hK _ ?_;clear hK K;refine Ak rfl rfl (by kernel_rfl) (fun K hK=>?_);go_big_quiet_op;refine hK _ ?_;clear hK K;refine Ak rfl rfl (by kernel_rfl) (fun K hK=>?_);go_big_quiet_op;refine hK _ ?_;clear hK K;refine Ak rfl rfl (by kernel_rfl) (fun K hK=>?_);go_big_quiet_op;refine hK _ ?_;clear hK K;refine Ak rfl rfl (by kernel_rfl) (fun K hK=>?_);go_big_quiet_op;refine hK _ ?_;clear hK K;refine Ax rfl (by kernel_rfl) (fun K hK=>?_);go_big_op;refine(BX.o _ b).mono ?_;rintro e wa⟨va,rfl,ho,c⟩;have fK:=str_later ho bE.o;clear ho;replace b:=b.trans (c.mono b.size);refine hK _ _ c ?_;clear c;clear t0 t1 t2 t3 t4;have t0:=fun x:Ord.GW wa=>(D.o _ (b.trans (x.grew.mono b.size))).1;have t1:=fun x:Ord.GW wa=>(D.o _ (b.trans (x.grew.mono b.size))).2;have t2:=fun x:Ord.GW wa=>(f.o _ (b.trans (x.grew.mono b.size))).2.1;have t3:=fun x:Ord.GW wa=>(f.o _ (b.trans (x.grew.mono b.size))).2.2.1;have t4:=fun x:Ord.GW wa=>(f.o _ (b.trans (x.grew.mono b.size))).2.2.2;clear hK K;refine Ak rfl rfl (by kernel_rfl) (fun K hK=>?_)
    go_big_quiet_op;refine hK _ ?_;clear hK K;refine Ax rfl (by kernel_rfl) (fun K hK=>?_);go_big_op;refine(BM.o _ b).mono ?_;rintro e wb⟨vb,rfl,ho,c⟩;have fL:=str_later ho bE.o;clear ho;replace b:=b.trans (c.mono b.size);refine hK _ _ c ?_;clear c;clear t0 t1 t2 t3 t4;have t0:=fun x:Ord.GW wb=>(D.o _ (b.trans (x.grew.mono b.size))).1;have t1:=fun x:Ord.GW wb=>(D.o _ (b.trans (x.grew.mono b.size))).2;have t2:=fun x:Ord.GW wb=>(f.o _ (b.trans (x.grew.mono b.size))).2.1;have t3:=fun x:Ord.GW wb=>(f.o _ (b.trans (x.grew.mono b.size))).2.2.1;have t4:=fun x:Ord.GW wb=>(f.o _ (b.trans (x.grew.mono b.size))).2.2.2;clear hK K;refine Ak rfl rfl (by kernel_rfl) (fun K hK=>?_);go_big_quiet_op;refine hK _ ?_;clear hK K;refine Ak rfl rfl (by kernel_rfl) (fun K hK=>?_);go_big_quiet_op;refine hK _ ?_;clear hK K;refine Ak rfl rfl (by kernel_rfl) (fun K hK=>?_);go_big_quiet_op;refine hK _ ?_;clear hK K;refine Ak rfl rfl (by kernel_rfl) (fun K hK=>?_);go_big_quiet_op;refine hK _ ?_;clear hK K;refine Ak rfl rfl (by kernel_rfl) (fun K hK=>?_);go_big_quiet_op;refine hK _ ?_;clear hK K;refine Ak rfl rfl (by kernel_rfl) (fun K hK=>?_);go_big_quiet_op;refine hK _ ?_;clear hK K;refine Ak rfl rfl (by kernel_rfl) (fun K hK=>?_);go_big_quiet_op;refine hK _ ?_;clear hK K;refine Ak rfl rfl (by kernel_rfl) (fun K hK=>?_);go_big_quiet_op;refine hK _ ?_;clear hK K;refine Ak rfl rfl (by kernel_rfl) (fun K hK=>?_);go_big_quiet_op;refine hK _ ?_;clear hK K;refine Ak rfl rfl (by kernel_rfl) (fun K hK=>?_);go_big_quiet_op;refine hK _ ?_;clear hK K;refine Ak rfl rfl (by kernel_rfl) (fun K hK=>?_);go_big_quiet_op;refine hK _ ?_;clear hK K;refine Ak rfl rfl (by kernel_rfl) (fun K hK=>?_);go_big_quiet_op;refine hK _ ?_;clear hK K;refine Ax rfl (by kernel_rfl) (fun K hK=>?_);go_big_op;refine(SX.o _ b).mono ?_;rintro e wc⟨rfl,c⟩;replace b:=b.trans (c.mono b.size);refine hK _ _ c ?_;clear c;clear t0 t1 t2 t3 t4;have t0:=fun x:Ord.GW wc=>(D.o _ (b.trans (x.grew.mono b.size))).1;have t1:=fun x:Ord.GW wc=>(D.o _ (b.trans (x.grew.mono b.size))).2;have t2:=fun x:Ord.GW wc=>(f.o _ (b.trans (x.grew.mono b.size))).2.1;have t3:=fun x:Ord.GW wc=>(f.o _ (b.trans (x.grew.mono b.size))).2.2.1;have t4:=fun x:Ord.GW wc=>(f.o _ (b.trans (x.grew.mono b.size))).2.2.2;clear hK K;refine Ak rfl rfl (by kernel_rfl) (fun K hK=>?_);go_big_quiet_op;refine hK _ ?_;clear hK K;refine Ak rfl rfl (by kernel_rfl) (fun K hK=>?_);go_big_quiet_op;refine hK _ ?_;clear hK K;refine Ak rfl rfl (by kernel_rfl) (fun K hK=>?_);go_big_quiet_op;refine hK _ ?_;clear hK K;refine Ak rfl rfl (by kernel_rfl) (fun K hK=>?_);go_big_quiet_op;refine hK _ ?_;clear hK K;refine Ak rfl rfl (by kernel_rfl) (fun K hK=>?_);go_big_quiet_op;refine hK _ ?_;clear hK K;refine Ak rfl rfl (by kernel_rfl) (fun K hK=>?_);go_big_quiet_op;refine hK _ ?_;clear hK K;refine Ak rfl rfl (by kernel_rfl) (fun K hK=>?_);go_big_quiet_op;refine hK _ ?_;clear hK K;refine Ak rfl rfl (by kernel_rfl) (fun K hK=>?_);go_big_quiet_op;refine hK _ ?_;clear hK K;refine Ak rfl rfl (by kernel_rfl) (fun K hK=>?_);go_big_quiet_op;refine hK _ ?_;clear hK K;refine Ak rfl rfl (by kernel_rfl) (fun K hK=>?_);go_big_quiet_op;refine hK _ ?_;clear hK K;refine Ak rfl rfl (by kernel_rfl) (fun K hK=>?_);go_big_quiet_op;refine hK _ ?_;clear hK K;refine Ax rfl (by kernel_rfl) (fun K hK=>?_);go_big_op;refine(VX.o _ b).mono ?_;rintro e wd⟨vd,rfl,ho,c⟩;have dO:=h_ ho.rd;replace b:=b.trans (c.mono b.size);refine hK _ _ c ?_;clear c ho;clear t0 t1 t2 t3 t4;have t0:=fun x:Ord.GW wd=>(D.o _ (b.trans (x.grew.mono b.size))).1;have t1:=fun x:Ord.GW wd=>(D.o _ (b.trans (x.grew.mono b.size))).2;have t2:=fun x:Ord.GW wd=>(f.o _ (b.trans (x.grew.mono b.size))).2.1;have t3:=fun x:Ord.GW wd=>(f.o _ (b.trans (x.grew.mono b.size))).2.2.1;have t4:=fun x:Ord.GW wd=>(f.o _ (b.trans (x.grew.mono b.size))).2.2.2;clear hK K;refine Ax rfl (by kernel_rfl) (fun K hK=>?_);go_big_op;refine((zn2 vd _ vw vw _ dO.o (b8.later b l_)).mono ?_);rintro e we⟨rfl,c⟩;rw[Ah rfl];replace b:=b.trans (c.mono b.size);refine hK _ _ c ?_
    clear c;clear t0 t1 t2 t3 t4;have t0:=fun x:Ord.GW we=>(D.o _ (b.trans (x.grew.mono b.size))).1;have t1:=fun x:Ord.GW we=>(D.o _ (b.trans (x.grew.mono b.size))).2;have t2:=fun x:Ord.GW we=>(f.o _ (b.trans (x.grew.mono b.size))).2.1;have t3:=fun x:Ord.GW we=>(f.o _ (b.trans (x.grew.mono b.size))).2.2.1;have t4:=fun x:Ord.GW we=>(f.o _ (b.trans (x.grew.mono b.size))).2.2.2;clear hK K;refine Ak rfl rfl (by kernel_rfl) (fun K hK=>?_);go_big_quiet_op;refine hK _ ?_;clear hK K;refine Ak rfl rfl (by kernel_rfl) (fun K hK=>?_);go_big_quiet_op;refine hK _ ?_;clear hK K;refine Ak rfl rfl (by kernel_rfl) (fun K hK=>?_);go_big_quiet_op;refine hK _ ?_;clear hK K;refine Ak rfl rfl (by kernel_rfl) (fun K hK=>?_);go_big_quiet_op;refine hK _ ?_;clear hK K;refine Ak rfl rfl (by kernel_rfl) (fun K hK=>?_);go_big_quiet_op;refine hK _ ?_;clear hK K;refine Ak rfl rfl (by kernel_rfl) (fun K hK=>?_);go_big_quiet_op;refine hK _ ?_;clear hK K;refine Ak rfl rfl (by kernel_rfl) (fun K hK=>?_);go_big_quiet_op;refine hK _ ?_;clear hK K;refine Ak rfl rfl (by kernel_rfl) (fun K hK=>?_);go_big_quiet_op;refine hK _ ?_;clear hK K;refine Ak rfl rfl (by kernel_rfl) (fun K hK=>?_);go_big_quiet_op;refine hK _ ?_;clear hK K;refine Ak rfl rfl (by kernel_rfl) (fun K hK=>?_);go_big_quiet_op;refine hK _ ?_;clear hK K;refine Ak rfl rfl (by kernel_rfl) (fun K hK=>?_);go_big_quiet_op;refine hK _ ?_;clear hK K;refine Ak rfl rfl (by kernel_rfl) (fun K hK=>?_);go_big_quiet_op;refine hK _ ?_;clear hK K;refine Ak rfl rfl (by kernel_rfl) (fun K hK=>?_);go_big_quiet_op;refine hK _ ?_;clear hK K;refine Ax rfl (by kernel_rfl) (fun K hK=>?_);go_big_op;refine(MN.o _ b).mono ?_;rintro e wf⟨rfl,c⟩;replace b:=b.trans (c.mono b.size);refine hK _ _ c ?_;clear c;clear t0 t1 t2 t3 t4;have t0:=fun x:Ord.GW wf=>(D.o _ (b.trans (x.grew.mono b.size))).1;have t1:=fun x:Ord.GW wf=>(D.o _ (b.trans (x.grew.mono b.size))).2;have t2:=fun x:Ord.GW wf=>(f.o _ (b.trans (x.grew.mono b.size))).2.1;have t3:=fun x:Ord.GW wf=>(f.o _ (b.trans (x.grew.mono b.size))).2.2.1;have t4:=fun x:Ord.GW wf=>(f.o _ (b.trans (x.grew.mono b.size))).2.2.2;clear hK K;refine Ak rfl rfl (by kernel_rfl) (fun K hK=>?_);go_big_quiet_op;refine hK _ ?_;clear hK K;refine Ak rfl rfl (by kernel_rfl) (fun K hK=>?_);go_big_quiet_op;refine hK _ ?_;clear hK K;refine Ak rfl rfl (by kernel_rfl) (fun K hK=>?_);go_big_quiet_op;refine hK _ ?_;clear hK K;refine Ak rfl rfl (by kernel_rfl) (fun K hK=>?_);go_big_quiet_op;refine hK _ ?_;clear hK K;refine Ak rfl rfl (by kernel_rfl) (fun K hK=>?_);go_big_quiet_op;refine hK _ ?_;clear hK K;refine Ax rfl (by kernel_rfl) (fun K hK=>?_);go_big_op;refine(SF.o _ b).mono ?_;rintro e wg⟨rfl,c⟩;replace b:=b.trans (c.mono b.size);refine hK _ _ c ?_;clear c;clear t0 t1 t2 t3 t4;have t0:=fun x:Ord.GW wg=>(D.o _ (b.trans (x.grew.mono b.size))).1;have t1:=fun x:Ord.GW wg=>(D.o _ (b.trans (x.grew.mono b.size))).2;have t2:=fun x:Ord.GW wg=>(f.o _ (b.trans (x.grew.mono b.size))).2.1;have t3:=fun x:Ord.GW wg=>(f.o _ (b.trans (x.grew.mono b.size))).2.2.1;have t4:=fun x:Ord.GW wg=>(f.o _ (b.trans (x.grew.mono b.size))).2.2.2;clear hK K;refine Ax rfl (by kernel_rfl) (fun K hK=>?_);go_big_op;refine(SM.o _ b).mono ?_;rintro e wh⟨rfl,c⟩;replace b:=b.trans (c.mono b.size);refine hK _ _ c ?_;clear c;clear t0 t1 t2 t3 t4;have t0:=fun x:Ord.GW wh=>(D.o _ (b.trans (x.grew.mono b.size))).1;have t1:=fun x:Ord.GW wh=>(D.o _ (b.trans (x.grew.mono b.size))).2;have t2:=fun x:Ord.GW wh=>(f.o _ (b.trans (x.grew.mono b.size))).2.1;have t3:=fun x:Ord.GW wh=>(f.o _ (b.trans (x.grew.mono b.size))).2.2.1;have t4:=fun x:Ord.GW wh=>(f.o _ (b.trans (x.grew.mono b.size))).2.2.2;clear hK K;refine Ak rfl rfl (by kernel_rfl) (fun K hK=>?_);go_big_quiet_op;refine hK _ ?_;clear hK K;refine Ak rfl rfl (by kernel_rfl) (fun K hK=>?_);go_big_quiet_op;refine hK _ ?_;clear hK K;refine Bk ?_;have dE:=bT M b;have dM:=h_ (b5.later b);clear b t0 t1 t2 t3 t4;go_wp2;go_roundw
    case rel=>exact⟨j+1,ar,k5,a8,_,_,_,_,_,_,by omega,by go_num,by omega,dM,dN,dE⟩
    case measure=>simp[intOf];omega
    )
   clear h26;have bu:∀a,(trE cs (actS cs es a)).1.length<=(trE cs es).1.length+1048591->(trE cs (actS cs es a)).1.length<=1048600+(j+1)*1048591:=fun a h=>(by have:=aV.o;omega);have bp:=h_ bu;have aR:=h_ (show(trE cs es).1.length<=1048600+(j+1)*1048591 from Ar aV.o (Nat.add_le_add_left (Cb _ (C2 j)) _));have ai:=h_ (show(trE cs es).1.length+1048591<=100000000 from by have:=aV.o;omega);have aF:=h_ (zhM aq.o k);clear bu e0 e1 e2 e3;by_cases az:kd=0
   .have q0:(kd==0)=true:=(by rw[az];rfl);have r:Lz w4 w4.drew:=(Ac _ _).drew;have A:=h_ (z.later r);have aa:=bT ag r
    have AP:=h_ (ze7 w.heap.size gl X V T U (.slice ap np cp) cs es ps k (fun q=>q=Y\/q=s\/q=O) w4.drew A.p A.hp (bd.o _ aa.o).1 aU.2.1 b3.1 (aG.o _ aa.o).1 (aG.o _ aa.o).2 (by
     have S:=ai.o;have h2:=zc4 cs es (0,ps);omega))
    have hS:∀q,(LgS gl X V T U q\/q=s\/q=O\/w4.heap.size<=q)->q≠eb:=fun q g he=>by
     have S:=bo.o;have h2:=bD.o;rcases g with g|g|g|g
     .have:=(h2.1 q g).1;omega
     .omega
     .omega
     omega
    have t0:=fun x:OrdR.GW (Only fun q=>LgS gl X V T U q\/q=s\/q=O\/w4.heap.size<=q) w4.drew=>(show Ybox x.val eb kd (.slice ap np cp) kc (.slice aj jn cj)from(x.grew.block eb bo.2 fun g=>hS eb g rfl).trans (aH.later r)).cells.2.1;clear az hS r;go_wp2_with fail;refine AY (R:=Only fun q=>LgS gl X V T U q\/q=s\/q=O\/w4.heap.size<=q) (zt9 _) [(0,false),(1,false),(2,false),(4,false),(5,false),(6,false),(3,true),(7,true),(8,false),(9,false)] (by kernel_rfl) rfl (by kernel_rfl) (by kernel_rfl) (fun _ _ _ d _ h=>by cases d<;>exact h) ?_;iterate 6 (refine Ak rfl rfl (by kernel_rfl) (fun K hK=>?_);go_big_quiet_op;refine hK _ ?_;clear hK K)
    refine Ax rfl (by kernel_rfl) (fun K hK=>?_);go_big_op;refine AP.mono ?_;rintro e C⟨rfl,T5,hl,Z,hT⟩;obtain⟨aL,aK,aI,aJ,G,t⟩:=zgZ A.o hl Z hT;have M:=h_ (aa.trans (A.p.below Z));have RA:=h_ (zqX N Y s O (.slice ap np cp) ps cs es _ _ nn _ C t (fun q g=>(G.at_ g).2.1) (bd.o _ M.o).1 aU.2.1 b3.1 (by
     have S:=ai.o;have h2:=zc4 cs es (0,ps);have h3:=congrArg List.length aF.2;rw[Ae]at h3;omega))
    have ao:=h_ G;refine hK _ _ (Z.mono fun q g=>.inl g) ?_;clear hl Z hT t G AP;clear hK K;refine Ax rfl (by kernel_rfl) (fun K hK=>?_);go_big_op;refine RA.mono ?_;rintro e w6 aQ;obtain⟨rfl,a2,ah⟩:=zB4 (a:=(0,ps)) ao.o aq.o aU.2.1 A.p.le aQ;have aE:=h_ a2;have an:=h_ (M.trans (ah.toBelow (fun q g=>by
     have S:=aQ.2.1.at_ (j:=q) (.inr g);exact Ar bb.o S.1) (by have:=M.size;omega)))
    refine hK _ _ (ah.mono fun q g=>.inr (g.elim .inl fun h=>.inr (.inl h))) ?_;clear aQ a2 ah RA;clear hK K;iterate 2 (refine Ak rfl rfl (by kernel_rfl) (fun K hK=>?_);go_big_quiet_op;refine hK _ ?_;clear hK K)
    refine Bk ?_;clear t0;go_wp2;exact ak _ _ _ _ _ _ _ _ _ _ _ _ _ _ _ _ _ _ _ _ _ _ _ _ _ _ _ _ _ _ _ _ _ _ _ _ _ _ _ _ _ _ _ _ _ _ _ _ _ _ _ _ _ _ _ _ _ _ _ _ _ _ _ _ _ _ _ _ _ _ _ _ _ _ _ _ (actE cs es (0,ps)) _ k nn _ _ _ _ _ _ _ aE (by omega) (h_ (bp.o (0,ps) (by
     have h2:=zc4 cs es (0,ps);rw[ze1 aq.o aU.2.1,Ae];omega))) an
   have q0:(kd==0)=false:=(by rw[As];exact az);by_cases aP:kd=1
   .have q1:(kd==1)=true:=by rw[aP];rfl
    have SN:=h_ (ztG w.heap.size gl X V T U cs es [] 1 k (fun q=>q=Y\/q=s\/q=O) w4 z.p z.hp (fun p hp=>absurd hp (by simp)) (by decide) (aG.o _ ag.o).1 (aG.o _ ag.o).2 (by
     have S:=ai.o;have h2:=zc4 cs es (1,[]);omega))
    clear az aP;go_wp2_with fail;refine SN.mono ?_;rintro e C⟨rfl,T5,hl,Z,hT⟩;obtain⟨aL,aK,aI,aJ,G,t⟩:=zgZ z.o hl Z hT;have M:=h_ (ag.trans (z.p.below Z));have RS:=h_ (zx9 N Y s O [] 1 cs es _ _ nn _ C t (fun q g=>(G.at_ g).2.1) (fun p hp=>absurd hp (by simp)) (by decide) (by
     have S:=ai.o;have h2:=zc4 cs es (1,[]);have h3:=congrArg List.length aF.2;rw[Ae]at h3;omega))
    have ao:=h_ G;clear hl Z hT t G SN;go_wp2_with fail;refine RS.mono ?_;rintro e w6 aQ;obtain⟨rfl,a2,ah⟩:=zB4 (a:=(1,[])) ao.o aq.o (fun p hp=>absurd hp (by simp)) z.p.le aQ;have aE:=h_ a2;have an:=h_ (M.trans (ah.toBelow (fun q g=>by
     have S:=aQ.2.1.at_ (j:=q) (.inr g);exact Ar bb.o S.1) (by have:=M.size;omega)))
    clear aQ a2 ah RS;go_wp2;exact ak _ _ _ _ _ _ _ _ _ _ _ _ _ _ _ _ _ _ _ _ _ _ _ _ _ _ _ _ _ _ _ _ _ _ _ _ _ _ _ _ _ _ _ _ _ _ _ _ _ _ _ _ _ _ _ _ _ _ _ _ _ _ _ _ _ _ _ _ _ _ _ _ _ _ _ _ (actE cs es (1,[])) _ k nn _ _ _ _ _ _ _ aE (by omega) (h_ (bp.o (1,[]) (by
     have h2:=zc4 cs es (1,[]);rw[ze1 aq.o (fun p hp=>absurd hp (by simp)),Ae];omega))) an
   have q1:(kd==1)=false:=(by rw[As];exact aP);by_cases aX:kd=2
   .have q2:(kd==2)=true:=(by rw[aX];rfl);have SY:=h_ (zkA w.heap.size gl X V T U cs es k (fun q=>q=Y\/q=s\/q=O) w4 z.p z.hp);clear az aP aX;go_wp2_with fail;refine SY.mono ?_;rintro e C⟨rfl,T5,hl,Z,hT⟩;obtain⟨aL,aK,aI,aJ,G,t⟩:=zgZ z.o hl Z hT;have M:=h_ (ag.trans (z.p.below Z));have c0:=t.cells.1
    have SD:=h_ (zn0 N s _ _ nn _ C t.dsk (fun q g=>by
     rcases g with g|g|g
     .exact(G.at_ g).2.1
     .exact(t.at_ (.inl g)).2
     .exact(t.at_ (.inr (.inr g))).2))
    have ao:=h_ (Al G t);clear hl Z hT t G SY;go_wp2_with fail;refine SD.mono ?_;rintro e w6⟨rfl,hD,ah⟩;have aE:=h_ (zE9 ao.1 ao.2 hD ah);have an:=h_ (M.trans (ah.toBelow (fun q g=>by
     have S:=ao.2.at_ (j:=q) (.inr (.inl g));exact Ar bb.o S.1) (by have:=M.size;omega)))
    clear hD ah SD c0;go_wp2;exact ak _ _ _ _ _ _ _ _ _ _ _ _ _ _ _ _ _ _ _ _ _ _ _ _ _ _ _ _ _ _ _ _ _ _ _ _ _ _ _ _ _ _ _ _ _ _ _ _ _ _ _ _ _ _ _ _ _ _ _ _ _ _ _ _ _ _ _ _ _ _ _ _ _ _ _ _ 0 es es.length nn _ _ _ _ _ _ _ aE (by omega) aR an
   have q2:(kd==2)=false:=(by rw[As];exact aX);by_cases a5:kd=3
   .have q3:(kd==3)=true:=(by rw[a5];rfl);have r:Lz w4 w4.drew:=(Ac _ _).drew;obtain⟨sv,rv,aN,_,hr⟩:=z.m.dsk.box;obtain⟨rest,I⟩:=nm_ ((rest16 cs es k).length);obtain⟨ra,rc,rfl,_⟩:=hr.1.shape;rw[<-I]at aN;have a1:=h_ (show rvR cs es k=rest from by rw[I,aF.1]);have ct:rest<=100000000:=by
     have S:=aF.2;have h2:=congrArg List.length S;rw[Ae]at h2;have:=ai.o;omega
    have bA:=h_ aN;have y0:=fun x:Ord.GW w4.drew=>(aH.later (r.trans (x.grew.mono r.size))).cells.1;have y1:=fun x:Ord.GW w4.drew=>(aH.later (r.trans (x.grew.mono r.size))).cells.2.1;have y2:=fun x:Ord.GW w4.drew=>(aH.later (r.trans (x.grew.mono r.size))).cells.2.2.1;have y3:=fun x:Ord.GW w4.drew=>(aH.later (r.trans (x.grew.mono r.size))).cells.2.2.2;have l0:=fun x:Ord.GW w4.drew=>(z.m.later (r.trans (x.grew.mono r.size))).cells.1;have l1:=fun x:Ord.GW w4.drew=>show x.val.cell? ⟨s,1,none⟩=some (.slice ra rest rc)from Ag _ _ 1 _ _ _ (((r.trans (x.grew.mono r.size)).block s (z.m.at_ (.inr (.inl rfl))).2).trans bA.o);have CC:=h_ (fun u(H:Lz w4 u)=>zu7 kd ap np cp kc aj cj jn jl rest u aU.2.2 dI.o (bd.o u (ag.trans (H.mono ag.size))).2 ct);have d1:=zrJ (rest:=rest) aU.2.2;obtain⟨kp,cn⟩:=nm_ (keep16 kc rest);rw[<-cn]at CC d1;have b:=r;clear az aP aX a5 aN hr r cn I;go_wp2_with fail;refine AY Ord.way [(0,false),(1,false),(2,false),(3,false),(4,false),(5,false),(6,false),(7,false),(8,false),(9,true),(10,false),(11,false),(12,false),(13,false),(14,false)] (by kernel_rfl) rfl (by kernel_rfl) (by kernel_rfl) (fun _ _ _ d _ h=>by cases d<;>exact h) ?_;iterate 9 (refine Ak rfl rfl (by kernel_rfl) (fun K hK=>?_);go_big_quiet_op;refine hK _ ?_;clear hK K)
    refine Ax rfl (by kernel_rfl) (fun K hK=>?_);go_big_op;refine(CC.o _ b).mono ?_;rintro e wa⟨xv,rfl,hx,c⟩;obtain⟨J,hJ⟩:=nm_ (jl.take (rest-kp));have dY:J.length<=rest-kp:=(by rw[hJ,Aq];omega);rw[<-hJ]at hx;have bf:=h_ (hx w (bd.o w (Ac _ _)).2);obtain⟨ax,cx,rfl,_⟩:=bf.shape;obtain⟨cA,a4⟩:=nm_ J.length;rw[<-a4]at dY bf ⊢;have b2:=h_ a4;replace b:=b.trans (c.mono b.size);refine hK _ _ c ?_;clear c hx hJ a4;clear hK K;iterate 5 (refine Ak rfl rfl (by kernel_rfl) (fun K hK=>?_);go_big_quiet_op;refine hK _ ?_;clear hK K)
    refine Bk ?_;clear y0 y1 y2 y3 l0 l1;have a0:=h_ (z.later b);have bB:=bT ag b;obtain⟨bg,p1,_,_,_⟩:=zBU aq.o k (kp:Int) J;have aO:crE (rvR cs es k) (kp:Int) J.length=0:=by
     rw[a1.o,<-b2.o];unfold crE;rw[Aa (by omega),Aa (by omega)]
    have CR:=h_ (zeX w.heap.size gl X V T U (.slice ax cA cx) cs es bg k (kp:Int) J (fun q=>q=Y\/q=s\/q=O) wa a0.p a0.hp ((bf.off fun q g hd=>by
     have:=(a0.p.dsk.q hd).1;omega).later bB.o) ⟨by omega,by omega⟩ (fun _=>p1) (fun u H=>aG.o u (bB.trans H)))
    rw[aO]at CR;have b4:=h_ p1;have dG:=h_ aO;have cw:(trE cs bg).1.length<=(trE cs es).1.length:=by
     have S:=p1.le;unfold rvB at S;rw[Ae,Aq]at S;have h2:=a1.o;unfold rvR at h2;have h3:=(zcX aq.o k).2.2;rw[<-b2.o]at S;omega
    have b7:=h_ (Ar cw aR.o);clear p1 aO b CC cw;go_wp2_with fail;refine CR.mono ?_;rintro e w7⟨rfl,T7,Z,hT,hl⟩;rcases hl with⟨h0,_⟩|⟨_,hl⟩
    .exact absurd rfl h0
    obtain⟨aL,aK,aI,aJ,G,t⟩:=zgZ a0.o hl Z hT;have an:=h_ (bB.trans (a0.p.below Z));have ci:N<=w7.heap.size:=by have:=t.at_ (j:=Y) (.inl rfl);omega
    have RC:=h_ (ztO N Y s O (kp:Int) (.slice ax cA cx) J cs es _ _ nn _ w7 t (fun q g=>(G.at_ g).2.1) ci (bf.later an.o l_) ⟨by omega,by omega⟩ (by omega) (fun _=>by
     have e:(trE cs (es.take k)).1++((rest16 cs es k).take (kp:Int).toNat++J)=rvB cs es k (kp:Int) J:=(zoG aq.o k (kp:Int).toNat J).symm;rw[e,b4.rv]))
    unfold CrL at RC;rw[aF.1,dG.o]at RC;have ao:=h_ G;have dJ:=h_ t;clear hl Z hT t G CR ci;go_wp2_with fail;refine RC.mono ?_;rintro e w8⟨rfl,bG,hl⟩;rcases hl with⟨h0,_⟩|⟨_,fE,fM,cz,bK⟩
    .exact absurd rfl h0
    have e8:(trE cs (es.take k)).1++((rest16 cs es k).take (kp:Int).toNat++J)=rvB cs es k (kp:Int) J:=(zoG aq.o k (kp:Int).toNat J).symm;rw[e8]at bK;have dL:=h_ (zB3 ao.o b4.o bK bG cz);have dD:=h_ (an.trans (bG.toBelow (fun q g=>by
     have S:=dJ.at_ (j:=q) (by rcases g with h|h;exact .inl h;exact .inr (.inl h));exact Ar bb.o S.1) (by have:=an.size;omega)))
    clear bG cz bK e8 RC;go_wp2;exact ak _ _ _ _ _ _ _ _ _ _ _ _ _ _ _ _ _ _ _ _ _ _ _ _ _ _ _ _ _ _ _ _ _ _ _ _ _ _ _ _ _ _ _ _ _ _ _ _ _ _ _ _ _ _ _ _ _ _ _ _ _ _ _ _ _ _ _ _ _ _ _ _ _ _ _ _ 0 bg bg.length (nn+1) _ _ _ _ _ _ _ dL (by omega) b7 dD
   have q3:(kd==3)=false:=(by rw[As];exact a5);by_cases bj:kd=4
   .have q4:(kd==4)=true:=(by rw[bj];rfl);have r:Lz w4 w4.drew:=(Ac _ _).drew;obtain⟨sv,rv,aN,_,hr⟩:=z.m.dsk.box;obtain⟨rest,I⟩:=nm_ ((rest16 cs es k).length);obtain⟨ra,rc,rfl,_⟩:=hr.1.shape;rw[<-I]at aN;have a1:=h_ (show rvR cs es k=rest/\(rest16 cs es k).length=rest from⟨by rw[I,aF.1],I.symm⟩);have ct:rest<=100000000:=by
     have S:=aF.2;have h2:=congrArg List.length S;rw[Ae]at h2;have:=ai.o;omega
    have bA:=h_ aN;have A:=h_ (z.later r);have aa:=bT ag r;have aO:crE (rvR cs es k) ((rest:Int)+1) ([]:Bs).length=3:=by
     rw[a1.1];exact Ab (.inr (by omega))
    have CR:=h_ (zeX w.heap.size gl X V T U (.slice none 0 0) cs es es k ((rest:Int)+1) [] (fun q=>q=Y\/q=s\/q=O) w4.drew A.p A.hp ⟨(zaE _ 0).rd (by simp),fun i hi=>absurd hi (by simp)⟩ ⟨by omega,by omega⟩ (fun h=>by rw[aO]at h;cases h) (fun u H=>aG.o u (aa.trans H)));rw[aO]at CR;have l0:=fun x:OrdR.GW (Only fun q=>LgS gl X V T U q\/w4.heap.size<=q) w4.drew=>show x.val.cell? ⟨Y,0,none⟩=some (.pointer (some ⟨s,0,none⟩))from Ag _ _ 0 _ _ _ ((x.grew.block Y (A.m.at_ (.inl rfl)).2 fun g=>g.elim (fun h=>(bD.1 _ h).2.1 rfl) fun h=>by
     have:=(z.m.at_ (j:=Y) (.inl rfl)).2;omega).trans A.m.box)
    have l1:=fun x:OrdR.GW (Only fun q=>LgS gl X V T U q\/w4.heap.size<=q) w4.drew=>show x.val.cell? ⟨s,1,none⟩=some (.slice ra rest rc)from Ag _ _ 1 _ _ _ ((x.grew.block s (A.m.at_ (.inr (.inl rfl))).2 fun g=>g.elim (fun h=>(bD.1 _ h).2.2 rfl) fun h=>by
     have:=(z.m.at_ (j:=s) (.inr (.inl rfl))).2;omega).trans ((r.block s (z.m.at_ (.inr (.inl rfl))).2).trans bA.o))
    clear az aP aX a5 bj aN hr r I aO;go_wp2_with fail;refine AY (R:=Only fun q=>LgS gl X V T U q\/w4.heap.size<=q) (zt9 _) [(0,false),(1,false),(2,false),(3,false),(4,false),(5,false),(6,false),(7,false),(8,false),(9,false),(11,false),(12,false),(13,false),(14,false),(15,false),(16,false),(17,false),(18,false),(19,false),(20,false),(10,true),(21,true),(22,false),(23,false)] (by kernel_rfl) rfl (by kernel_rfl) (by kernel_rfl) (fun _ _ _ d _ h=>by cases d<;>exact h) ?_;iterate 20 (refine Ak rfl rfl (by kernel_rfl) (fun K hK=>?_);go_big_quiet_op;refine hK _ ?_;clear hK K)
    refine Ax rfl (by kernel_rfl) (fun K hK=>?_);go_big_op;refine CR.mono ?_;rintro e C⟨rfl,T5,Z,hT,hl⟩;rcases hl with⟨_,hl⟩|⟨h0,_⟩
    rotate_left
    .exact absurd h0 (by decide)
    obtain⟨aL,aK,aI,aJ,G,t⟩:=zgZ A.o hl Z hT;have M:=h_ (aa.trans (A.p.below Z));have RC:=h_ (zqV ((rest:Int)+1) t (by have:=a1.2;omega));have aE:=h_ (show P16 C w.heap.size N gl aL aK aI aJ Y s O cs es k nn from⟨G,t⟩);refine hK _ _ (Z.mono fun q g=>.inl g) ?_;clear hl Z hT t G CR;clear hK K;refine Ax rfl (by kernel_rfl) (fun K hK=>?_);go_big_op;refine RC.mono ?_;rintro e w6⟨rfl,rfl⟩;refine hK _ _ (Only.refl _ _) ?_;clear RC;clear hK K;iterate 2 (refine Ak rfl rfl (by kernel_rfl) (fun K hK=>?_);go_big_quiet_op;refine hK _ ?_;clear hK K)
    refine Bk ?_;clear l0 l1;go_wp2;exact ak _ _ _ _ _ _ _ _ _ _ _ _ _ _ _ _ _ _ _ _ _ _ _ _ _ _ _ _ _ _ _ _ _ _ _ _ _ _ _ _ _ _ _ _ _ _ _ _ _ _ _ _ _ _ _ _ _ _ _ _ _ _ _ _ _ _ _ _ _ _ _ _ _ _ _ _ 3 es k nn _ _ _ _ _ _ _ aE (by omega) aR M
   have q4:(kd==4)=false:=(by rw[As];exact bj);clear az aP aX a5 bj;go_wp2;exact ak _ _ _ _ _ _ _ _ _ _ _ _ _ _ _ _ _ _ _ _ _ _ _ _ _ _ _ _ _ _ _ _ _ _ _ _ _ _ _ _ _ _ _ _ _ _ _ _ _ _ _ _ _ _ _ _ _ _ _ _ _ _ _ _ _ _ _ _ _ _ _ _ _ _ _ _ 0 es k nn _ _ _ _ _ _ _ z (by omega) aR ag
  obtain rfl:j=n:=by omega
  clear cq;go_wp2;go_ret;exact⟨rfl,HB.o⟩
 clear hf;go_wp2_with fail;refine(AL.o w2 ay.o).mono ?_;rintro e w3⟨rfl,c⟩;have af:=bT ay c;clear c;go_wp2;go_ret;exact⟨rfl,af.o⟩
end Go.Proofs.YtgboedffaangeaaGreatDoor
namespace Go.Proofs.YtgboedffaangeaaGreatDoor.reviveActs
open _root_.Go.Proofs.Tryz Go.ChangeShapes Go.WideShapes Go.ChangeAt Go.RowKit
theorem reads(os:Os){H:Type}(enc:TypeId×Value->H):∃a,DataW.whole enc prog ((World.laidAll prog os Rows.reviveActsUptoRow.laid).forCall (fun _ _=>0) ⟨#[],#[.slice none 0 0,.slice none 0 0],[]⟩).memory Tryz.f3.params.toList (Rows.OpenSpec.upto Rows.reviveActsSpec).vars false #[Value.slice none 0 0,.slice none 0 0].toList 8=some ([.nil,.nil],[],a) :=
 ⟨[],by kernel_rfl⟩
set_option maxRecDepth 1000000 in
theorem lifted(os:Os)(c:os.Started)(H:Type)(enc:TypeId×Value->H)(F:Stop.Interp) :ReturnsInHanded {} Tryz.checked os 3 .any ((Rows.OpenSpec.upto Rows.reviveActsSpec).preRow enc prog Tryz.f3 Rows.reviveActsUptoRow.domain false Rows.reviveActsUptoRow.laid) (((Rows.OpenSpec.upto Rows.reviveActsSpec).at F).post enc prog Tryz.f3 false true false false):=by
 obtain⟨u,hx⟩:=reads os enc;refine returnsInHanded_of_row (C:=Tryz.checked) (s:=Rows.OpenSpec.upto Rows.reviveActsSpec) own c (by kernel_rfl) func3
  ⟨World.laidAll prog os Rows.reviveActsUptoRow.laid,fun _ _=>0,⟨#[],#[.slice none 0 0,.slice none 0 0],[]⟩,World.laidAll_os _ _ _,World.shaped_of_ZipB (by kernel_rfl) (by kernel_rfl),rfl,(Input.okWide_of_okWideB (by kernel_rfl)).2,
   OpenSpec.preRow_of_cond 8 hx (by kernel_rfl) (fun k hk=>by cases hk;kernel_rfl) (by kernel_rfl) (by rw[MakeChecks.laidMetH_plain _ _ _ (by kernel_rfl)];exact laidMet_laidAll _ (by kernel_rfl) (by kernel_rfl)),by
    simp only[Assume.holds];exact⟨by simp,by simp,fun _=>Modest.zero,by simp,by simp⟩⟩ ?_
 intro W base args w M n b S _ g d y _ _;have D:Rows.uptoSmall H (w++M)=true:=g _ rfl;have r:=y;rw[MakeChecks.laidMetH_plain _ _ _ (by kernel_rfl)]at r;have hT:Tabs W:=zGN (Lib.laidMet.reads r (.tail _ (.tail _ (.head _)))) (Lib.laidMet.reads r (.head _));have hF:=zC7 (Lib.laidMet.reads r (.tail _ (.head _)));have i:(DataW.weightsEach prog (Tryz.f3.params.toList++Rows.reviveActsSpec.plain.varTypes prog) (w++M)).all (·<=reachBytes)=true:=d;have a:∀(j:Nat) t v,Tryz.f3.params[j]?=some t->args[j]?=some v->Value.okWide prog W .any base t v:=b;have z:=S;obtain⟨p,q,l,hV,rfl,af,ah⟩:=S;have Q:DataW.TrodAll enc prog W 0 (fun _=>true) true Tryz.f3.params.toList args.toList w p:=l;rw[params3]at Q a i;obtain⟨J,ao,d0,Y,p0,q0,A,rfl,rfl,N,r0⟩:=trodAll_cons Q;obtain⟨L,ap,d1,Z,p1,q1,rfl,rfl,rfl,O,r1⟩:=trodAll_cons r0;obtain⟨rfl,rfl,rfl⟩:=trodAll_nil r1;obtain rfl:args=#[J,L]:=by cases args;simp_all
 obtain⟨rfl,rfl⟩:=trodVars_none hV;have T:=N;have G:∀x∈p0,x.block<W.heap.size:=by obtain⟨m,hm⟩:=T;exact DataW.trod_lt m _ _ _ hm
 obtain⟨l0,w0,V⟩:=zCK (a 0 22 J rfl rfl) N i (j:=0) rfl rfl;have U:=O;have I:∀x∈p1,x.block<W.heap.size:=by obtain⟨m,hm⟩:=U;exact DataW.trod_lt m _ _ _ hm
 obtain⟨E,w1,X,b1⟩:=zsR (a 1 23 L rfl rfl) O i (j:=1) rfl rfl;clear l b d;have hU:(flat16 E).length+junk16 E<=1048576:=by
  have h:=Cm D;simp only[AQ,Rows.uptoBulkAll]at h;omega
 refine(zkC J l0 L E W w0 V w1 X hU hT hF).mono fun e W'⟨he,f⟩=>?_;subst he;exact⟨_,rfl,_,_,_,[],_,[],z,trodAll_mk1 (shut_bool underlying4 _),(trodAll_cons_mk (Below.trod laidOut (by kernel_rfl) (Cm (by kernel_rfl)) T f G) (trodAll_cons_mk (Below.trod laidOut (by kernel_rfl) (Cm (by kernel_rfl)) U f I) trodAll_mk0)),rfl,f.frame _,fun h=>by cases h⟩
theorem zHY:(Rows.reviveActsUptoRow.inPlace==Tryz.pinned.checked.prog.inPlace 3)=true:=by kernel_rfl
theorem zHX:(Rows.reviveActsUptoRow.unfollowed==Tryz.pinned.checked.prog.unfollowed 3)=true:=by kernel_rfl
theorem closed2:(Rows.reviveActsUptoRow.recurses==Tryz.pinned.checked.prog.recurses 3)=true:=by kernel_rfl
theorem zHW:(Rows.reviveActsUptoRow.named==Tryz.pinned.checked.prog.varsNamed 3)=true:=by kernel_rfl
theorem closed:joinedFacts Tryz.pinned.checked.prog 3 Tryz.f3 (Rows.OpenSpec.upto Rows.reviveActsSpec).bare Rows.reviveActsUptoRow=true:=by
 unfold joinedFacts;rw[zHY,zHX,closed2,zHW]
 kernel_rfl
theorem over:Rows.ReviveActsUptoSaid :=
 OpenClaim.holds_of_cond 3 Tryz.f3 rfl rfl rfl rfl rfl rfl rfl ⟨rfl,rfl,rfl,rfl,rfl⟩ rfl rfl rfl rfl rfl (by kernel_rfl) func3 closed
  (Cm (by kernel_rfl)) (by unfold Func.isWrapper;first|(rw[Ab (by decide +kernel)];kernel_rfl)|(rw[Aa (by decide +kernel)];exact⟨rfl,rfl⟩))
  (fun os a H enc _ F=>by rw[OpenClaim.pre_eq_preRow];exact lifted os a H enc F)
theorem proved:Rows.ReviveActsUptoCardSaid :=
 Claim7.holds_tied_plain_at .later [] _ _ _ _ over (fun _ h=>by cases h) (by kernel_rfl) (fun _ h=>by cases h) reviveActsUpto_row_tie rfl ⟨rfl,rfl⟩ (by kernel_rfl) rfl
  (fun f d e b=>by
   obtain rfl:f=3 :=Option.some.inj ((show prog.funcNamed "deckle/decklelaw16.ReviveActs" = some 3 by kernel_rfl).symm.trans e) |>.symm;obtain rfl:d=Tryz.f3:=(Option.some.inj (func3.symm.trans b)).symm;exact⟨by kernel_rfl,fun j t c=>by
    rw[params3]at c;have hm:t∈[22,23]:=by simpa using Array.mem_of_getElem? c
    have a:([22,23].all fun u=>!prog.wantsStandIn u)=true:=by kernel_rfl
    exact(show prog.wantsStandIn t=false by simpa using CV.1 a t hm)⟩)
  (by kernel_rfl)
#print axioms proved
