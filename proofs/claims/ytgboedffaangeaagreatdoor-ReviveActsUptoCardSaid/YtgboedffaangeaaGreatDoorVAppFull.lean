/- -/
import Derived.Test.YtgboedffaangeaaGreatDoorVCell
import Derived.ArgAppend
import Derived.Test.YtgboedffaangeaaGreatDoorShelf8
import Derived.Shelf.SlSortCmp.NoneTotal
import Derived.WalkMore
set_option maxHeartbeats 16000000
set_option linter.all false
set_option maxRecDepth 1000000
namespace Go.Proofs.YtgboedffaangeaaGreatDoor
open _root_.Go.Proofs.Tryz Go.RowKit Go.Shelf
section
section
variable{cs:List ColB}{ps qs a b c:List PairB}
def Zs(cs:List ColB)(a:List PairB):Prop:=PSO a/\chkZ cs a=0
def Zs.set(h:Zs cs a):Z.isSet (Vr cs) (cmpR cs) a:=((zb9 h.1).1 h.2).2.2
def Zs.few(h:Zs cs a):a.length<=1024:=((zb9 h.1).1 h.2).2.1
def Zs.schema(h:Zs cs a):errS (colsL cs)=0:=((zb9 h.1).1 h.2).1
def Zs.of(d:PSO a)(e:errS (colsL cs)=0)(f:a.length<=1024)(g:Z.isSet (Vr cs) (cmpR cs) a):Zs cs a:=⟨d,(zb9 d).2 ⟨e,f,g⟩⟩
def Zs.w64(h:Zs cs a)(r:List CellB):i64 (Z.sumW a r):=by
 by_cases d:Z.has a r
 .obtain⟨p,hp,rfl⟩:=d;rw[Z.sumW_mem (zbS cs) h.set.srt h.set.all p hp];exact(h.1 p hp).2
 rw[Z.sumW_no fun p hp e=>d ⟨p,hp,e⟩];exact zp1
def zIY(f:PSO ps)(h:clcE cs ps=0):Zs cs (clcO cs ps)/\(∀r,Z.sumW (clcO cs ps) r=Z.sumW ps r)/\Z.AllV (Vr cs) ps:=by
 obtain⟨g,d,i,j⟩:=(zlR f).1 h;have e:clcO cs ps=canonC cs ps:=by unfold clcO;rw[Ab h]
 rw[e];exact⟨Zs.of (zsK f d i) g j (Z.canon_set (zbS cs) d),Z.canon_sum (zbS cs) d,d⟩
def zIZ(i:PSO ps)(g:Z.AllV (Vr cs) ps)(d:Zs cs c)(h:∀r,Z.sumW ps r=Z.sumW c r):clcE cs ps=0/\clcO cs ps=c:=by
 have e:canonC cs ps=c:=Z.canon_of (zbS cs) g d.set (fun r=>(h r).symm);have f:clcE cs ps=0:=(zlR i).2 ⟨d.schema,g,fun r=>by rw[h r];exact d.w64 r,by rw[e];exact d.few⟩;exact⟨f,by unfold clcO;rw[Ab f];exact e⟩
def Zs.all(h:Zs cs a):Z.AllV (Vr cs) a:=h.set.all
def zwH(d:Z.AllV (Vr cs) a)(e:Z.AllV (Vr cs) b):Z.AllV (Vr cs) (a++b):=fun p hp=>by
 rcases AD.1 hp with hp|hp
 .exact d p hp
 .exact e p hp
def zzT(d:Zs cs a)(f:Zs cs b):sumE cs a b=clcE cs (a++b)/\sumO cs a b=clcO cs (a++b):=by
 have e:sumE cs a b=clcE cs (a++b):=by unfold sumE;rw[Aa (fun h=>h d.2),Aa (fun h=>h f.2)]
 exact⟨e,by unfold sumO clcO;rw[e]⟩
def zFS(d:Zs cs a)(e:Zs cs b)(h:sumE cs a b=0):Zs cs (sumO cs a b)/\∀r,Z.sumW (sumO cs a b) r=Z.sumW a r+Z.sumW b r:=by
 obtain⟨f,g⟩:=zzT d e;rw[f]at h;obtain⟨i,j,_⟩:=zIY (d.1.append e.1) h;rw[g];exact⟨i,fun r=>by rw[j,Z.sumW_append]⟩
def zIE(d:Zs cs a)(e:Zs cs b)(i:Zs cs c)(h:∀r,Z.sumW a r+Z.sumW b r=Z.sumW c r):sumE cs a b=0/\sumO cs a b=c:=by
 obtain⟨f,g⟩:=zzT d e;rw[f,g];exact zIZ (d.1.append e.1) (zwH d.all e.all) i (fun r=>by rw[Z.sumW_append,h])
def zBI(h:errS (colsL cs)=0):Zs cs []:=Zs.of (fun p hp=>by simp at hp) h (by simp) Z.isSet.nil
end
/- -/
abbrev EntB:=Int×Int×List PairB
def EnO(x:EntB):Prop:=inW x.1/\inW x.2.1/\PSO x.2.2
def entE(cs:List ColB)(x:EntB):Nat :=
 if errS (colsL cs)≠0 then errS (colsL cs)else if x.1<0\/1<x.1 then 10 else if x.2.1<0\/281474976710656<x.2.1 then 3 else chkZ cs x.2.2
def apE(cs:List ColB)(seq:Int)(view:List PairB)(x:EntB):Nat :=
 if chkZ cs view≠0 then chkZ cs view else if seq<0\/281474976710656<seq then 3 else if entE cs x≠0 then entE cs x
 else if(x.1=0/\x.2.1≠seq+1)\/(x.1=1/\x.2.1≠seq)then 14
 else if x.1=1 then(if x.2.2=view then 0 else 15)else sumE cs view x.2.2
def apN(cs:List ColB)(seq:Int)(view:List PairB)(x:EntB):Int:=if apE cs seq view x=0 then x.2.1 else 0
def apV(cs:List ColB)(seq:Int)(view:List PairB)(x:EntB):List PairB :=
 if apE cs seq view x=0 then(if x.1=1 then view else sumO cs view x.2.2)else[]
section
variable{cs:List ColB}{x:EntB}
def zb8:entE cs x=0↔errS (colsL cs)=0/\(x.1=0\/x.1=1)/\(0<=x.2.1/\x.2.1<=281474976710656)/\chkZ cs x.2.2=0:=by
 unfold entE;by_cases d:errS (colsL cs)=0
 .rw[Aa (by simpa using d)];by_cases e:x.1<0\/1<x.1
  .rw[Ab e];exact⟨fun h=>(by cases h),fun h=>(by omega)⟩
  rw[Aa e];by_cases f:x.2.1<0\/281474976710656<x.2.1
  .rw[Ab f];exact⟨fun h=>(by cases h),fun h=>(by omega)⟩
  rw[Aa f];exact⟨fun h=>⟨d,by omega,by omega,h⟩,fun h=>h.2.2.2⟩
 rw[Ab d];exact⟨fun h=>absurd h d,fun h=>absurd h.1 d⟩
def zDP{view:List PairB}(h:Zs cs view):sumE cs view []=0/\sumO cs view []=view :=
 zIE h (zBI h.schema) h (fun r=>by simp[Z.sumW])
end
/- -/
attribute [local go_sem] Oper.semAt_some
def zg2(v1 H I:Value)(cs:List ColB)(a b:List CellB)(w:World)(h1:RdC w v1 cs)(h2:RdE w H a)(h3:RdE w I b)(hC:CS cs)(hA:CES a)(hB:CES b)(hT:Tabs w) :Calls prog 76 #[v1,H,I] w fun e w'=>e=.returned (.int .i64 (cmpR cs a b))/\Lz w w':=by
 have R1:=h_ (fun f(E:Lz w f)=>h1.later E l_);have R2:=h_ (fun f(E:Lz w f)=>h2.later E l_);have R3:=h_ (fun f(E:Lz w f)=>h3.later E l_);have HT:=h_ hT;obtain⟨x,hx⟩:=nm_ (errRow cs a);have CA:=h_ (fun f(E:Lz w f)=>(show Calls prog 99 #[v1,H] f fun e w'=>e=.returned (.int .i64 (x:Int))/\Lz f w' from by
  rw[hx];exact zk8 v1 H cs a f (R1.o f E) (R2.o f E) hC hA (HT.later E)))
 obtain⟨ao,cap,hv,_⟩:=RdG.shape h1;generalize (cs.map colV).length=n9 at hv;subst hv;clear h1 h2 h3 hT;by_cases h0:x=0
 .obtain⟨y,hy⟩:=nm_ (errC cs b)
  have CB:=h_ (fun f(E:Lz w f)=>(show Calls prog 102 #[.slice ao n9 cap,I] f fun e w'=>e=.returned (.int .i64 (y:Int))/\Lz f w' from by
   rw[hy];exact zfR _ I cs b f (R1.o f E) (R3.o f E) hC hB (HT.later E)))
  have ag:=zaQ (show errRow cs a=0 from by omega);have aX:errRow cs b=y:=by unfold errRow;rw[Ab ag.1,hy]
  subst h0;by_cases bq:y=0
  .have aY:=zaQ (show errRow cs b=0 from by omega);have HE:=h_ (show cmpR cs a b=cmpL cs (a.zip b)from by unfold cmpR;rw[Aa (by omega)]);subst bq;have aH:=h_ ag.2.1;have a6:=h_ aY.2.1;clear hx hy ag aY aX;have j:=h_ (new2 w (.cells #[.slice ao n9 cap] 22) (.cells #[.int .i64 0] 3));rw[show((0:Nat):Int)=0 from rfl]at CA CB;refine(callsIn_wide (n:=5)).1 ?_;refine callsIn_of_wp_marks func76 rfl trivial ?_ rfl;simp only[ntmps76,Br,Ap,Bh,Nat.reduceAdd,Nat.reduceSub,BU,BV,Cc,B7,AA,AQ]
   gi_wp2_with fail;refine⟨trivial,?_⟩;gi_at_call 99;refine(callsIn_wide.2 (CA.o _ j.2.2.2)).mono ?_;rintro e w1⟨rfl,d⟩;have B1:=h_ (j.2.2.2.trans (d.mono j.2.2.2.size));have h:Boxed w1 w.heap.size 22 (.slice ao n9 cap):=za9 j.2.1 d;have t:Boxed w1 (w.heap.size+1) 3 (.int .i64 0):=za9 j.2.2.1 d;have X1:=h_ h;have X2:=h_ t;have an:=h.cell;clear d h t;gi_wp2_with fail;refine⟨trivial,?_⟩;gi_at_call 102;refine(callsIn_wide.2 (CB.o _ B1.o)).mono ?_;rintro e S⟨rfl,d⟩;have B2:=bT B1 d;have Y1:=h_ (za9 X1.o d);have Y2:=h_ (za9 X2.o d);have N1:=new1 S (.cells #[.int .i64 0] 3);have L:Lz w (S.alloc (.cells #[.int .i64 0] 3)):=B2.trans (N1.2.2.mono B2.size);have Y3:Boxed (S.alloc (.cells #[.int .i64 0] 3)) S.heap.size 3 (.int .i64 0):=N1.2.1;have Z1:Boxed (S.alloc (.cells #[.int .i64 0] 3)) w.heap.size 22 (.slice ao n9 cap):=za9 Y1.o N1.2.2;have Z2:Boxed (S.alloc (.cells #[.int .i64 0] 3)) (w.heap.size+1) 3 (.int .i64 0):=za9 Y2.o N1.2.2;have MK:=h_ (zm6 H I a b _ (R2.o _ L) (R3.o _ L));have aV:=X2.lt;have aW:w.heap.size+1<S.heap.size:=Y2.lt;have J:=h_ N1.1;clear d N1 an aV;gi_wp2_with fail;refine⟨trivial,?_⟩;gi_at_call 103;generalize S.alloc (.cells #[.int .i64 0] 3)=w3 at MK L Y3 Z1 Z2 J ⊢;refine(callsIn_wide.2 MK.o).mono ?_;rintro e w4⟨rfl,rfl⟩;gi_wp2;obtain⟨W0,aO⟩:∃W0,(w3.alloc (.cells #[H] 67)).alloc (.cells #[I] 67)=W0:=⟨_,rfl⟩;obtain⟨M0,M1,M2,M3⟩:=new2 w3 (.cells #[H] 67) (.cells #[I] 67);rw[aO]at M0 M1 M2 M3 ⊢;clear aO;have bs:=h_ (za9 Z1 M3);have br:=h_ (za9 Z2 M3);have bt:=h_ (za9 Y3 M3);have aM:Lz w W0:=L.trans (M3.mono L.size);clear Y3 Z1 Z2 MK X1 X2 Y1 Y2 CA CB j B1 B2;have aQ:Boxed W0 w3.heap.size 67 H:=M1;have aR:Boxed W0 (w3.heap.size+1) 67 I:=M2;obtain⟨T,aN⟩:=nm_ S.heap.size;have Q:=J.o;rw[<-aN]at bt Q aW ⊢;rw[Q]at M0 aQ aR ⊢;clear aN J Q M1 M2;generalize (Value.slice ao n9 cap)=v1 at R1 bs ⊢;have aP:a.length=b.length:=(by rw[aH.o,a6.o]);have bu:(a.zip b).length=cs.length:=(by rw[Bd,<-aP,aH.o];omega);refine zeC (by omega) (gf:=151) (lb:=#[.pointer (some ⟨T+1,0,none⟩),.pointer (some ⟨T+1+1,0,none⟩)]) rfl (enters_of func151 (by kernel_rfl) rfl)
    (zfW (5-1) (by omega) (T+1) (T+1+1) H I a b aP w R2.o R3.o W0 aM aQ.cell aR.cell) zBD (zBE (by omega) (by omega) (by omega)) (fun _=>rfl)
    (fun g W=>((Boxed W w.heap.size 22 v1/\Boxed W (w.heap.size+1) 3 (.int .i64 0))/\Boxed W T 3 (.int .i64 (g.length:Nat)))/\Lz w W/\cmpL cs g=0)
    (fun c g W=>(Boxed W (w.heap.size+1) 3 (.int .i64 (cmpL cs g))/\Lz w W)/\(c=.ret/\cmpL cs g≠0))
    (OwnFrom.and (OwnFrom.and (OwnFrom.and (Own.from (boxed_own _ _ _) _) (Own.from (boxed_own _ _ _) _)) (Own.from (boxed_own _ _ _) _)) (OwnFrom.and (ownFrom_below l_ (by omega)) (ownFrom_pure _ _)))
    (fun c=>OwnFrom.and (OwnFrom.and (Own.from (boxed_own _ _ _) _) (ownFrom_below l_ (by omega))) (ownFrom_pure _ _))
    ⟨⟨⟨bs.o,br.o⟩,bt.o⟩,aM,by cases cs<;>rfl⟩
    (fun(x:CellB×CellB) a' W=>∃Bx By,(W.heap[Bx]?=some (Obj.cells #[.int .u64 (x.1.1:Int),.string x.1.2] 65 (0,0))/\W.heap[By]?=some (Obj.cells #[.int .u64 (x.2.1:Int),.string x.2.2] 65 (0,0))) /\
     a'={ tmps:=#[v1,H,I,.pointer (some ⟨w.heap.size,0,none⟩),undef,undef,.pointer (some ⟨w.heap.size+1,0,none⟩),.pointer (some ⟨T,0,none⟩),.pointer (some ⟨Bx,0,none⟩),.pointer (some ⟨By,0,none⟩),undef,v1,H,.int .i64 0,.bool false,.bool false,v1,I,.int .i64 0,.bool false,.bool false,H,I,
      .func (.func 151) #[] #[.pointer (some ⟨T+1,0,none⟩),.pointer (some ⟨T+1+1,0,none⟩)],
      .agg #[.int .u64 (x.1.1:Int),.string x.1.2],.agg #[.int .u64 (x.2.1:Int),.string x.2.2],undef,undef,undef,undef,undef,undef,undef,undef,undef,undef,undef,undef,undef],defers:=[]})
    ?_ ?_ ?_ ?_ ?_
   .rintro x a' s X Y row⟨Bx,By,⟨h4,h5⟩,h6⟩hg hr;exact⟨Bx,By,⟨zcU h4 hg hr,zcU h5 hg hr⟩,h6⟩
   .rintro l g⟨⟨nm,tx⟩,⟨nn,ty⟩⟩W K hi hx hK;unfold zCF;dsimp only
    gi_wp2;obtain⟨j,N1,N2,N3⟩:=new2 W (.cells #[.int .u64 (nm:Int),.string tx] 65) (.cells #[.int .u64 (nn:Int),.string ty] 65);exact hK _ _ (zaN N3) (zdT N3) ⟨⟨⟨za9 hi.1.1.1 N3,za9 hi.1.1.2 N3⟩,za9 hi.1.2 N3⟩,hi.2.1.trans (N3.mono hi.2.1.size),hi.2.2⟩ ⟨_,_,⟨N1,N2⟩,rfl⟩
   .rintro l g⟨⟨nm,tx⟩,⟨nn,ty⟩⟩a' W⟨⟨⟨aa,G⟩,ab⟩,C,ac⟩⟨Bx,By,⟨h,t⟩,rfl⟩ad hx;have O:=List.of_mem_zip hx;have M:=hA _ O.1;have N:=hB _ O.2;rw[bu]at ad;have ae:=R1.o W C;have af:=ae.small;obtain⟨ba,oa,aU,aS,_⟩:=ae.get ad;obtain⟨bk,aK⟩:=aS _ ae;obtain⟨K,hK⟩:=nm_ ((cs.getD g.length default).2);rw[<-hK]at aK;have p1:=aa.cell;have p2:=ab.cell;have e2:=za2 h (i:=0) rfl;have e3:=za2 h (i:=1) rfl;have e4:=za2 t (i:=0) rfl;have e5:=za2 t (i:=1) rfl;obtain⟨c,hc⟩:=nm_ (cmpC K nm tx.data.toList nn ty.data.toList);have HC:=h_ (show cmpL cs (g++[((nm,tx),(nn,ty))])=c from by rw[zsB cs g _ ad ac,hc,hK];rfl)
    have CK:=h_ (fun f(E:Lz W f)=>(show Calls prog 104 #[.int .i64 K,.agg #[.int .u64 (nm:Int),.string tx],.agg #[.int .u64 (nn:Int),.string ty]] f fun e w'=>e=.returned (.int .i64 c)/\Lz f w' from by
     rw[hc];exact zsJ K nm nn M.1 N.1 tx ty _ _ f (CES.rdS M) (CES.rdS N) (HT.later (C.trans (E.mono C.size)))))
    have a4:=h_ aa;have a5:=h_ G;have aG:=h_ ab;have U:=h_ C;have hd:1<=5-1-1:=(by omega);have aT:=h_ ((Ac W.heap.size W).drew);have bp:prog.follows .mixedOrders=true:=(by kernel_rfl);obtain⟨m,hm⟩:=nm_ g.length;rw[<-hm]at aU p2 aG ad;have HM:=h_ hm;have b0:m<140737488351232:=(by omega);clear hm af;clear ae aS bk h t O M N aa G ab C ac hc hK;gi_wp2;gi_region_with ((refine⟨trivial,?_⟩;gi_at_call 104;refine(CallsIn.inRound l (callsIn_wide.2 (CK.o _ aT.o))).mono ?_;rintro e w'⟨rfl,d⟩))
    all_goals
     have z:=h_ (aT.trans (d.mono l_));have V:=za9 a5.o z.o;have Z:=za9 aG.o z.o;have q1:=V.cell;have q2:=V.frozen;have q3:=Z.cell;have q4:=Z.frozen;have aI:=h_ V;have a9:=h_ Z;have a7:=h_ (za9 a4.o z.o);clear d CK aK p1 p2 e2 e3 e4 e5 aU V Z bp;by_cases h0:c=0
     .subst h0
      gi_wp2;refine⟨(zaN z.o).trans ((KeepsOthers.setCell _ _ _).from _),(zdT z.o).setCell (p:=⟨T,0,none⟩) ⟨by show w.heap.size<=T;omega,by show T≠T+1;omega,by show T≠T+1+1;omega⟩ _,⟨⟨a7.other (by omega) _,aI.other (by omega) _⟩,?_⟩,?_,HC.o⟩
      .have:=a9.set (.int .i64 ((m:Int)+1));have e9:(g++[((nm,tx),(nn,ty))]).length=m+1:=(by rw[Ae,<-HM.o];rfl);rw[e9,show((m+1:Nat):Int)=(m:Int)+1 from by omega];exact this
      exact(U.trans (z.mono U.size)).setCell (p:=⟨T,0,none⟩) (by show w.heap.size<=T;omega) _
     have q5:(c !=0)=true:=by rw[Ao];exact h0
     gi_wp2;refine⟨(zaN z.o).trans ((KeepsOthers.setCell _ _ _).from _),⟨?_,?_⟩,rfl,by rw[HC.o];exact h0⟩
     .rw[HC.o];exact aI.set _
     exact(U.trans (z.mono U.size)).setCell (p:=⟨w.heap.size+1,0,none⟩) (by show w.heap.size<=w.heap.size+1;omega) _
   .rintro D W hD⟨⟨⟨aa,G⟩,ab⟩,C,ac⟩hK;have bY:=G.cell;have bZ:=G.frozen
    gi_wp2;have am:=(KeepsOthers.setCell W ⟨w.heap.size+1,0,none⟩ (.int .i64 0)).same D _ hK rfl;have A:=cell_kept (G.set (.int .i64 0)).cell (grownBy_putObj' _ D (.deferred none)) (fun r e=>by cases e;exact⟨_,am,rfl⟩);refine⟨by simp,.inl ⟨_,_,rfl,run_takeDeferred am,?_⟩⟩;refine⟨.int .i64 0,by simp[results,results76,go_sem,A],by rw[HE.o,ac],?_⟩;exact(C.setCell (p:=⟨w.heap.size+1,0,none⟩) (by show w.heap.size<=w.heap.size+1;omega) _).trans (belowK_b (w:=w) l_ _ D _ _ (by omega) am rfl rfl)
   rintro D c k W hD hk⟨⟨d,hB⟩,rfl,hp⟩hK;gi_wp2;have A:=cell_kept d.cell (grownBy_putObj' _ D (.deferred none)) (fun r e=>by cases e;exact⟨_,hK,rfl⟩);refine⟨by simp,.inl ⟨_,_,rfl,run_takeDeferred hK,?_⟩⟩;refine⟨_,by simp[results,results76,go_sem,A];rfl,by rw[HE.o,zsA (by omega) hp],?_⟩;exact hB.trans (belowK_b (w:=w) l_ _ D _ _ (by omega) hK rfl rfl)
  have HE:=h_ (show cmpR cs a b=0 from by unfold cmpR;rw[Ab (.inr (by omega))]);have q:((y:Int)!=0)=true:=by rw[Ao];omega
  clear hx hy ag aX;rw[show((0:Nat):Int)=0 from rfl]at CA;have j:=h_ (new2 w (.cells #[.slice ao n9 cap] 22) (.cells #[.int .i64 0] 3));go_enter func76,ntmps76;go_wp2_with fail;refine(CA.o _ j.2.2.2).mono ?_;rintro e w1⟨rfl,d⟩;have B1:=h_ (j.2.2.2.trans (d.mono j.2.2.2.size));have h:Boxed w1 w.heap.size 22 (.slice ao n9 cap):=za9 j.2.1 d;have t:Boxed w1 (w.heap.size+1) 3 (.int .i64 0):=za9 j.2.2.1 d;have X2:=h_ t;have an:=h.cell;clear d h t j;go_wp2_with fail;refine(CB.o _ B1.o).mono ?_;rintro e S⟨rfl,d⟩;have B2:=bT B1 d;have u:=za9 X2.o d;have bn:=u.cell;have bo:=u.frozen;have Y2:=h_ u;clear d u an X2;go_wp2;have A:=(Y2.set (.int .i64 0)).cell;refine bodyPost_ret (v:=.int .i64 0) (by simp[results,results76,go_sem,A]) rfl ?_;exact⟨by rw[HE.o],B2.setCell (p:=⟨w.heap.size+1,0,none⟩) (by show w.heap.size<=w.heap.size+1;omega) _⟩
 have HE:=h_ (show cmpR cs a b=0 from by unfold cmpR;rw[Ab (.inl (by omega))]);have q:((x:Int)!=0)=true:=by rw[Ao];omega
 clear hx;have j:=h_ (new2 w (.cells #[.slice ao n9 cap] 22) (.cells #[.int .i64 0] 3));go_enter func76,ntmps76;go_wp2_with fail;refine(CA.o _ j.2.2.2).mono ?_;rintro e w1⟨rfl,d⟩;have B1:=h_ (j.2.2.2.trans (d.mono j.2.2.2.size));have u:Boxed w1 (w.heap.size+1) 3 (.int .i64 0):=za9 j.2.2.1 d;have bn:=u.cell;have bo:=u.frozen;have Y2:=h_ u;clear d u j;go_wp2;have A:=(Y2.set (.int .i64 0)).cell;refine bodyPost_ret (v:=.int .i64 0) (by simp[results,results76,go_sem,A]) rfl ?_;exact⟨by rw[HE.o],B1.setCell (p:=⟨w.heap.size+1,0,none⟩) (by show w.heap.size<=w.heap.size+1;omega) _⟩
/- -/
variable {a:Act} {l:Bs} {Q:Exit->Act->World->Prop} {rest:List Oper} {base:Nat} {s x:Operand} {pos:String} {v:Value} {w:World}
def zfO{r:Array Oper}{i:Option Tmp}{ty:TypeId}{v:Array Edge}(b cap:Nat)(m l:Bs)(X:a.eval s=.slice (some ⟨b,0,none⟩) m.length cap)(hm:Rd w (.slice (some ⟨b,0,none⟩) m.length cap) m)(M:Value)(Y:a.eval x=M)(S:Rd w M l)(J:0<l.length)(f:cap<m.length+l.length)(hn:m.length+l.length<=140737488355328)(B:Nat)(L:World)(T:Below B L w)(y:B<=w.heap.size)(h:∀t w',Own w' w.heap.size t (m++l)->Below B L w'->wpList prog r Q rest (a.put i t) w') :wpList prog r Q (⟨i,.call ⟨.builtin .append,#[s,x],#[34,34]⟩,ty,pos,v,none⟩::rest) a w:=by
 obtain⟨Z,U,C,D,E⟩:=info_parts zgB;obtain⟨⟨N,G,rfl,I,p,A⟩,n,_⟩:=S;cases N with
 | none=>
  obtain rfl:G=0:=p rfl;omega
 | some ad=>
  refine wpList_append_grows w rfl s x 34 rfl 5 Z (.int .u8 0) 1 1 underlying34 U C D E rfl (by decide) (some ⟨b,0,none⟩) m.length cap (za7 m) X (fun e=>by cases e) (by simp[za1]) ?_ ad l.length G (za7 l) Y (by simp[za1]) ?_ (zbL l) f (by unfold maxLen;omega) (by omega) ?_
  .intro b9 d j u z;injection d with d
   subst d;obtain⟨g,rfl⟩:=zbM z;exact hm.cells j g
  .intro j u z;obtain⟨g,rfl⟩:=zbM z;exact n j g
  intro t w' H O;refine h t w' ?_ (T.grown O y fun k V=>by cases V);rw[<-zaG]at H;unfold Own;rw[Ae];exact H
def zCS:Elt:=⟨34,5,1,1,.int .u8 0⟩
def zJ0:zCS.Ok:=⟨underlying34,by kernel_rfl,by kernel_rfl,rfl,by decide⟩
def oneB(l:Bs):List (List Value):=l.map fun c=>[cellB c]
def zkW:∀l,(oneB l).flatten=za7 l
 | []=>rfl
 | c::r=>by
  have:=zkW r;unfold oneB za7 at this ⊢;rw[AT,Bt,this];rfl
def zvS(l:Bs):∀x∈oneB l,x.length=1:=by
 intro x d;obtain⟨c,_,rfl⟩:=Au.1 d;rfl
def zvT(l:Bs):∀x∈oneB l,∀u∈x,u.oneCell'=true:=by
 intro x e u d;obtain⟨c,_,rfl⟩:=Au.1 e;rw[AH.1 d];rfl
def Own.toG(h:Own w base v l):OwnG zCS w base v (oneB l):=by
 refine⟨?_,zvS l,zvT l⟩;rw[zkW,show(oneB l).length=l.length from by simp[oneB]];exact h
def Own.ofG(h:OwnG zCS w base v (oneB l)):Own w base v l:=by
 have:=h.1;rw[zkW,show(oneB l).length=l.length from by simp[oneB]]at this;exact this
def Rd.toG(h:Rd w v l):RdG zCS w v (oneB l):=by
 have g:(oneB l).length=l.length:=by simp[oneB]
 refine⟨by rw[g];exact h.shape,fun i f j u d=>?_,zvS l,by rw[g];exact h.small⟩;rw[g]at f;have e:(oneB l).getD i []=[cellB l[i]]:=by simp[oneB,List.getD,f]
 rw[e]at d;obtain rfl:j=0:=by
  have:=(AG.1 d).1;simpa using this
 have d:cellB l[i]=u:=by simpa using d
 rw[show i*zCS.n+0=i from by show i*1+0=i;omega,h.cells i f,<-d,ziY f];rfl
def zeU{f:Array Oper}{e:Option Tmp}{H:TypeId}{k:Array Edge}(base:Nat)(g:Value)(m:Bs)(E:a.eval s=g)(D:Own w base g m)(r:Value)(l:Bs)(G:a.eval x=r)(z:Rd w r l)(C:m.length+l.length<=140737488355328)(d:base<=w.heap.size)(B:Nat)(p:World)(A:Below B p w)(n:B<=base)(h:∀i w',Own w' base i (m++l)->Below B p w'->w.grownBy w' g.ownBlock->Place w g i->wpList prog f Q rest (a.put e i) w') :wpList prog f Q (⟨e,.call ⟨.builtin .append,#[s,x],#[34,34]⟩,H,pos,k,none⟩::rest) a w:=by
 have j:∀l,(oneB l).length=l.length:=fun l=>by simp[oneB]
 refine zbH zJ0 base g E D.toG r G z.toG (zvT l) (by rw[j,j];show(m.length+l.length)*1<=_;omega) (by rw[j,j];exact C) d B p A n fun i w' t u v y=>h i w' (Own.ofG ?_) u v y;rw[show oneB (m++l)=oneB m++oneB l from by simp[oneB]];exact t
def zxN {q:Nat}(h:Own w base v l)(f:v.ownBlock=some q):∃d,w.heap[q]?=some (.cells d 5 (0,0)):=by
 rcases h.2 with⟨rfl,j⟩|⟨g,cap,d,rfl,i,e,_⟩
 .cases f
 cases f;exact⟨_,e⟩
end
section
def zdL(v1 v2:Value)(cs:List ColB)(ps:List PairB)(w:World)(h1:RdC w v1 cs)(h2:RdP w v2 ps)(hC:CS cs)(hP:PSO ps)(hT:Tabs w) :Calls prog 108 #[v1,v2] w fun e w'=>e=.returned (.int .i64 (chkZ cs ps:Nat))/\Lz w w':=by
 have V:=h_ (zb0 v1 cs w h1 hC hT);have aC:=h2.len;have aF:=h2.small;have HT:=h_ hT;have H2:=h_ h2;have R1:=h_ (fun wz(I:Lz w wz)=>h1.later I l_);clear h1 h2 hT;obtain⟨x,hx⟩:=nm_ (errS (colsL cs));rw[<-hx]at V;by_cases h0:x=0
 .subst h0;obtain⟨n,hn⟩:=nm_ ps.length;rw[<-hn]at aC aF;by_cases aR:1024<n
  .have A:=h_ (show chkZ cs ps=13 from by unfold chkZ;rw[Aa (by omega),Ab (by omega)]);clear hx hn;go_enter func108,ntmps108;go_wp2_with fail;refine V.mono ?_;rintro e w1⟨rfl,h⟩;go_wp2;go_ret;exact⟨by rw[A.o];rfl,h⟩
  have A:=h_ (show chkZ cs ps=chkF cs none ps from by unfold chkZ;rw[Aa (by omega),Aa (by omega)]);have HN:=h_ hn;clear hx hn;go_enter func108,ntmps108;go_wp2_with fail;refine V.mono ?_;rintro e w1⟨rfl,h⟩;have N:=h_ h;clear h V;go_wp2;go_loopw [19] (fun i wr=>∃k:Nat,k<=n/\i=.int .i64 k/\Hid (chkF cs none ps=chkF cs (prevR ps k) (ps.drop k))/\Hid (Lz w wr)) (fun i _=>n-(intOf i).toNat)
  case atStart=>exact⟨0,by omega,rfl,h_ rfl,N⟩
  clear N;obtain⟨k,hk,rfl,t,M⟩:=hrel;by_cases aD:k<n
  .have J:k<ps.length:=(by rw[<-HN.o];exact aD);obtain⟨b,o,rv,hi,c0,c1,s,Y⟩:=H2.get J;obtain⟨u,ad⟩:=hP.get J;obtain⟨ao,nn,cap,rfl⟩:=s.lit;have HK:=h_ J;have g:=h_ (fun a b c=>zsD (cs:=cs) J a b c);have S:=h_ (zjJ J);obtain⟨p,hp⟩:=nm_ (ps.getD k default);rw[<-hp]at c1 s u ad g S;rcases p with⟨r,y⟩
   dsimp only at c1 s u ad g S;have az:=(M.cell (p:=⟨b,o,none⟩) Y).trans c0;have aA:=(M.cell (p:=⟨b,o+1,none⟩) Y).trans c1;have NN:=h_ (new1 wr (.cells #[.slice ao nn cap,.int .i64 y] 69));have l:=bT M NN.2.2;have CK:=h_ (zk8 v1 _ cs r _ (R1.o _ l.o) (s.later l.o l_) hC u (HT.later l.o));have ap:=h_ s;have an:=h_ u;clear hp J s u c0 c1;obtain⟨c,hc⟩:=nm_ (errRow cs r);rw[<-hc]at CK g;have z:=h_ hc;clear hc;by_cases ab:c=0
   .subst ab;go_wp2_with fail;refine CK.mono ?_;rintro e L⟨rfl,h⟩;have d:=bT l h;have G:=(h.block _ (by rw[NN.1];omega)).trans NN.2.1;have d0:=Ag _ _ 0 _ _ _ G;have d1:=Ag _ _ 1 _ _ _ G;simp at d0 d1;clear az aA h M CK G l NN;by_cases v:y=0
    .have f:=h_ (show chkF cs none ps=2 from by
      rw[t.o,S.o];unfold chkF;rw[Aa (fun h9=>h9 z.symm),Ab v])
     subst v;clear t;go_wp2;go_ret;exact⟨by rw[A.o,f.o];rfl,d.o⟩
    have a4:(y==0)=false:=(by rw[Co];intro hh;exact v (beq_iff_eq.1 hh));have HY:=h_ v;clear v;by_cases ac:k=0
    .subst ac;have f:=h_ (t.trans (g.o (by simp) HY.o (fun r H=>by cases H)));clear t g;rw[show((0:Nat):Int)=0 from rfl]at hi;go_wp2;go_quiet (fail);go_wp2;go_roundw
     case rel=>exact⟨1,by omega,rfl,f,h_ (_root_.Go.below_drewN d.o _)⟩
     simp[intOf];omega
    obtain⟨j,hj⟩:∃j,k=j+1:=⟨k-1,by omega⟩;have j2:j<ps.length:=(by have:=HK.o;omega);obtain⟨b',o',aH,a2,X,ar,D,Z⟩:=H2.get j2;obtain⟨C,_⟩:=hP.get j2;have aa:=(d.cell (p:=⟨b',o',none⟩) Z).trans X;have CC:=h_ (fun wz(I:Lz L wz)=>zg2 v1 aH _ cs (ps.getD j default).1 r wz (R1.o wz (d.trans (I.mono d.size))) (D.later (d.trans (I.mono d.size)) l_) (ap.later (d.trans (I.mono d.size)) l_) hC C an.o (HT.later (d.trans (I.mono d.size))));have aT:(k:Int)-1=(j:Int):=(by omega);have a3:IntKind.i64.wrap (j:Int)=(j:Int):=IntWalk.i64_in _ (by omega);have aS:decide (0<k)=true:=Ah (by omega);have U:=h_ (show prevR ps k=some (ps.getD j default).1 from by rw[hj];rfl);obtain⟨m,hm⟩:=nm_ (cmpR cs (ps.getD j default).1 r);rw[<-hm]at CC;have HM:=h_ hm;clear hm j2 D C ac X ar;have HJ:=h_ hj;clear hj;go_wp2;go_still_tail 12,(by kernel_rfl);change wpList _ _ _ _ _ L.drew;have O:=h_ d.drew;have T:=h_ ((Ac L.heap.size L).drew);clear d0 d1 aa;go_wp2_with fail;refine(CC.o _ T.o).mono ?_;rintro e w3⟨rfl,h⟩;have Q:=bT O h;clear h O T CC;by_cases E:0<=m
    .have f:=h_ (show chkF cs none ps=9 from by
      rw[t.o,S.o,U.o];unfold chkF;rw[Aa (fun h9=>h9 z.symm),Aa HY.o];show(if _ then _ else _)=_;rw[Ab (by rw[<-HM.o];exact E)])
     have aE:decide (0<=m)=true:=Ah E;clear t g;go_wp2;go_ret;exact⟨by rw[A.o,f.o];rfl,Q.o⟩
    have f:=h_ (t.trans (g.o (by simp) HY.o (fun r H=>by rw[U.o]at H;injection H with H;rw[<-H,<-HM.o];omega)));have aE:decide (0<=m)=false:=Af E;clear t g;go_wp2;go_roundw
    case rel=>exact⟨k+1,by omega,by go_num,f,Q⟩
    simp[intOf];omega
   have f:=h_ (show chkF cs none ps=c from by
    rw[t.o,S.o];unfold chkF;rw[Ab (by rw[<-z.o];exact ab),z.o])
   have aZ:((c:Int)!=0)=true:=(by rw[Ao];omega);clear t g;go_wp2_with fail;refine CK.mono ?_;rintro e L⟨rfl,h⟩;have d:=bT l h;clear h;go_wp2;go_ret;exact⟨by rw[A.o,f.o];rfl,d.o⟩
  obtain rfl:k=n:=by omega
  have f:=h_ (show chkF cs none ps=0 from by rw[t.o,HN.o,List.drop_length];simp[chkF]);clear t;go_wp2;go_ret;exact⟨by rw[A.o,f.o];rfl,M.o⟩
 have A:=h_ (show chkZ cs ps=x from by unfold chkZ;rw[Ab (by omega),hx]);have q:((x:Int)!=0)=true:=by rw[Ao];omega
 clear hx;go_enter func108,ntmps108;go_wp2_with fail;refine V.mono ?_;rintro e w1⟨rfl,h⟩;go_wp2;go_ret;exact⟨by rw[A.o];rfl,h⟩
variable {x:Int} {cs:List ColB} {ps:List PairB} {us:List TriB} {base g k n:Nat} {w w':World}
def zuB(h:k<ps.length):firstE cs (ps.drop k)=if errRow cs (ps.getD k default).1≠0 then errRow cs (ps.getD k default).1 else firstE cs (ps.drop (k+1)):=by
 rw[zjJ h];rfl
def rowsE(cs:List ColB)(ps:List PairB):Nat:=if errS (colsL cs)≠0 then errS (colsL cs)else firstE cs ps
def zmD(L v2:Value)(cs:List ColB)(ps:List PairB)(w:World)(M:RdC w L cs)(H:RdP w v2 ps)(hC:CS cs)(hP:PSO ps)(N:Tabs w) :Calls prog 73 #[L,v2] w fun e w'=>e=.returned (.int .i64 (rowsE cs ps:Nat))/\Lz w w':=by
 have E:=h_ (zb0 L cs w M hC N);have S:=H.len;have V:=H.small;have HT:=h_ N;have H2:=h_ H;have R1:=h_ (fun wz(hz:Lz w wz)=>M.later hz l_);clear M H N;obtain⟨x,I⟩:=nm_ (errS (colsL cs));rw[<-I]at E;by_cases h0:x=0
 .subst h0;obtain⟨n,U⟩:=nm_ ps.length;rw[<-U]at S V;have D:=h_ (show rowsE cs ps=firstE cs ps from by unfold rowsE;rw[Aa (by omega)]);have X:=h_ U;clear I U;go_enter func73,ntmps73;go_wp2_with fail;refine E.mono ?_;rintro e w1⟨rfl,h⟩;have u:=h_ h;clear h E;go_wp2;go_loopw [16] (fun i wr=>∃k:Nat,k<=n/\i=.int .i64 k/\Hid (firstE cs ps=firstE cs (ps.drop k))/\Hid (Lz w wr)) (fun i _=>n-(intOf i).toNat)
  case atStart=>exact⟨0,by omega,rfl,h_ rfl,u⟩
  clear u;obtain⟨k,hk,rfl,s,t⟩:=hrel;by_cases T:k<n
  .have J:k<ps.length:=(by rw[<-X.o];exact T);obtain⟨b,o,rv,hi,Z,G,g,v⟩:=H2.get J;obtain⟨j,A⟩:=hP.get J;obtain⟨ao,nn,cap,rfl⟩:=g.lit;have a:=h_ (zuB (cs:=cs) J);obtain⟨p,hp⟩:=nm_ (ps.getD k default);rw[<-hp]at G g j A a;rcases p with⟨r,y⟩
   dsimp only at G g j A a;have O:=(t.cell (p:=⟨b,o,none⟩) v).trans Z;have Q:=(t.cell (p:=⟨b,o+1,none⟩) v).trans G;have Y:=h_ (new1 wr (.cells #[.slice ao nn cap,.int .i64 y] 69));have d:=bT t Y.2.2;have C:=h_ (zk8 L _ cs r _ (R1.o _ d.o) (g.later d.o l_) hC j (HT.later d.o));clear hp J g j Z G;obtain⟨c,hc⟩:=nm_ (errRow cs r);rw[<-hc]at C a;clear hc;by_cases z:c=0
   .subst z;have f:=h_ (s.trans (a.trans (Aa (fun h9=>h9 rfl))));go_wp2_with fail;refine C.mono ?_;rintro e w2⟨rfl,h⟩;have l:=bT d h;clear O Q h t C d Y s a;go_wp2;go_roundw
    case rel=>exact⟨k+1,by omega,by go_num,f,l⟩
    simp[intOf];omega
   have f:=h_ (show firstE cs ps=c from s.trans (a.trans (Ab z)));have ak:((c:Int)!=0)=true:=(by rw[Ao];omega);clear s a;go_wp2_with fail;refine C.mono ?_;rintro e w2⟨rfl,h⟩;have l:=bT d h;clear h;go_wp2;go_ret;exact⟨by rw[D.o,f.o];rfl,l.o⟩
  obtain rfl:k=n:=by omega
  have f:=h_ (show firstE cs ps=0 from by rw[s.o,X.o,List.drop_length];simp[firstE]);clear s;go_wp2;go_ret;exact⟨by rw[D.o,f.o];rfl,t.o⟩
 have D:=h_ (show rowsE cs ps=x from by unfold rowsE;rw[Ab (by omega),I]);have q:((x:Int)!=0)=true:=by rw[Ao];omega
 clear I;go_enter func73,ntmps73;go_wp2_with fail;refine E.mono ?_;rintro e w1⟨rfl,h⟩;go_wp2;go_ret;exact⟨by rw[D.o];rfl,h⟩
/- -/
def zp2 {W:World}(h:Lz W w')(n:W.drawn<=w'.drawn):∃q b,w'=Go.Sort.grow (W.drewN q) b:=by
 refine⟨w'.drawn-W.drawn,w'.heap.extract W.heap.size w'.heap.size,?_⟩;obtain⟨hp,v,t,os,u⟩:=w';obtain⟨a,s,j,p,r⟩:=W;obtain⟨c,d,e,l,f⟩:=h;dsimp only at c d e l f n;subst c d e;unfold Go.Sort.grow World.drewN;dsimp only;congr 1
 .apply Array.ext_getElem?;intro i;by_cases g:i<a.size
  .rw[Array.getElem?_append_left g];exact f i g
  rw[Array.getElem?_append_right (by omega),Array.getElem?_extract];split
  ·congr 1;omega
  exact Array.getElem?_eq_none (by omega)
 omega
section
variable{α:Type}[Inhabited α]{enc:α->List Value}{k:Nat}{w0 w:World}{blk off m:Nat}{dk:Array α}{os:Array Obj}
def zhK(j:Nat)(a:j<w.heap.size):(sortWorldK enc k w blk off m dk os).heap[j]?=if blk=j then(w.heap[j]?).map (Go.Sort.onCells (Go.Sort.putCells id off (Go.Sort.flatK enc k dk)))else w.heap[j]?:=by
 unfold sortWorldK Go.Sort.grow Go.Sort.putRowK Go.Sort.putRow Go.Sort.mapBlock Go.Sort.ahead;dsimp only;rw[Array.getElem?_append_left (by simpa using a),Array.getElem?_modify]
def zwX:w.heap.size<=(sortWorldK enc k w blk off m dk os).heap.size:=by
 unfold sortWorldK Go.Sort.grow Go.Sort.putRowK Go.Sort.putRow Go.Sort.mapBlock Go.Sort.ahead;simp
def zm9{B:Nat}(h:Below B w0 w)(b:B<=blk)(a:B<=w.heap.size):Below B w0 (sortWorldK enc k w blk off m dk os):=by
 refine h.trans ⟨rfl,rfl,rfl,zwX,fun j c=>?_⟩;rw[zhK j (by omega),Aa (by omega)]
end
/-- The comparison that is handed to the sort. -/
def zuL(j:Nat)(s A C:Value)(cs:List ColB)(a b:List CellB)(x y:Int)(W:World)(t:RdC W s cs)(l:RdE W A a)(r:RdE W C b)(N:CS cs)(L:CES a)(M:CES b)(O:Tabs W)(z:W.cell? ⟨j,0,none⟩=some s) :Calls prog 75 #[.agg #[A,.int .i64 x],.agg #[C,.int .i64 y],.pointer (some ⟨j,0,none⟩)] W fun e w'=>e=.returned (.int .i64 (cmpR cs a b))/\Lz W w':=by
 obtain⟨J,n,cap,rfl⟩:=l.lit;obtain⟨i,Q,f,rfl⟩:=r.lit;obtain⟨E,G,H,d⟩:=new2 W (.cells #[.slice J n cap,.int .i64 x] 69) (.cells #[.slice i Q f,.int .i64 y] 69);have h:=h_ (zg2 s _ _ cs a b _ (t.later d l_) (l.later d l_) (r.later d l_) N L M (O.later d));have I:=h_ d;obtain⟨c,g⟩:=nm_ (cmpR cs a b);rw[<-g]at h ⊢;have v:=(d.cell (p:=⟨j,0,none⟩) (AI W _ z)).trans z;clear E G H d t l r g;go_enter func75,ntmps75;go_wp2_with fail;refine h.mono ?_;rintro e S⟨rfl,u⟩;have D:=bT I u;clear u h;go_wp2;go_ret;exact⟨rfl,D.o⟩
abbrev InL(us:List TriB):={ t:TriB // t∈us}
def encI{us:List TriB}(x:InL us):List Value:=triV x.1
def cfI(cs:List ColB){us:List TriB}(x y:InL us):Int:=cmpR cs x.1.2.1 y.1.2.1
def swoI(a:∀t∈us,Vr cs t.2.1):Go.Sort.SWO (ltOf (cfI cs (us:=us))) where
 irrefl x:=by
  have:=(zbS cs).irr (a x.1 x.2);unfold ltOf cfI;simp[this]
 trans x y z h1 h2:=by
  unfold ltOf cfI at *;simp only[decide_eq_true_eq]at *;exact(zbS cs).trans (a x.1 x.2) (a y.1 y.2) (a z.1 z.2) h1 h2
 ntrans x y z h1 h2:=by
  unfold ltOf cfI at *;simp only[decide_eq_false_iff_not]at *;have c:=a x.1 x.2;have b:=a y.1 y.2;have d:=a z.1 z.2;have h:=(zbS cs).flip c b;have i:=(zbS cs).flip b d;have j:=(zbS cs).flip c d;intro e;by_cases f:cmpR cs y.1.2.1 x.1.2.1=0
  .have:=((zbS cs).zero b c).1 f
   rw[this]at h2;exact h2 e
  .by_cases g:cmpR cs z.1.2.1 y.1.2.1=0
   .have:=((zbS cs).zero d b).1 g
    rw[this]at e;exact h1 e
   .have:=(zbS cs).trans d b c (by omega) (by omega)
    omega
def zrO[Inhabited (InL us)](d:Array (InL us))(t:Nat)(h:t<d.size*2):((d.toList.map (fun x=>triV x.1)).flatten)[t]?=some ((Go.Sort.flatK encI 2 d)[t]!):=by
 rw[Go.Sort.get_flatK _ _ _ t h];have a:t/2<d.size:=by omega
 have e:(d.toList.map (fun x=>triV x.1)).flatten[t/2*2+t%2]?=some ((encI d[t/2]!)[t%2]!):=by
  refine zhV (n:=2) _ (fun x g=>by obtain⟨y,_,rfl⟩:=Au.1 g;rfl) (t/2) (t%2) _ (by simpa using a) ?_;have c:(d.toList.map (fun x=>triV x.1)).getD (t/2) []=encI d[t/2]!:=by
   rw[getElem!_pos d (t/2) a];simp[List.getD,a,encI]
  rw[c];have f:(encI d[t/2]!).length=2:=rfl;rw[getElem!_pos (encI d[t/2]!) (t%2) (by rw[f];omega)];exact AJ _
 have b:t/2*2+t%2=t:=by omega
 rwa[b]at e
def ztZ[Inhabited (InL us)] {cap m:Nat}{os:Array Obj}{d:Array (InL us)}{vs:List (List Value)}(h:OwnG pairE w base (.slice (some ⟨g,0,none⟩) n cap) vs)(Q:vs.length=n)(L:d.size=n)(I:∀t∈us,t.1.oneCell'=true):OwnG pairE (sortWorldK encI 2 w g 0 m d os) base (.slice (some ⟨g,0,none⟩) n cap) ((d.toList.map (·.1)).map triV):=by
 obtain⟨⟨O,J⟩,H,D⟩:=h;rcases J with⟨j,_⟩|⟨N,A,b,j,l,C,M,hm,c,E⟩
 .simp at j
 simp only[Value.slice.injEq,Option.some.injEq,Addr.mk.injEq]at j;obtain⟨⟨rfl,_⟩,_,rfl⟩:=j;have r:g<w.heap.size:=(Aj.1 C).1;have a:((d.toList.map (·.1)).map triV).length=n:=by simpa using L
 have i:∀x∈(d.toList.map (·.1)).map triV,x.length=pairE.n:=fun x z=>by
  obtain⟨t,_,rfl⟩:=Au.1 z;rfl
 have p:((d.toList.map (·.1)).map triV).flatten.length=n*2:=by
  have:=zbN _ i;rw[a]at this;exact this
 refine⟨⟨?_,.inr ⟨g,cap,Go.Sort.putCells id 0 (Go.Sort.flatK encI 2 d) b,by rw[a],l,?_,by omega,hm,?_,?_⟩⟩,i,?_⟩
 .rw[a];exact p
 .rw[zhK g r,Ab rfl,C];rfl
 .unfold Go.Sort.putCells;simpa using c
 .rw[a];show(Go.Sort.putCells id 0 (Go.Sort.flatK encI 2 d) b).toList.take (n*2)=_;have f:b.size=cap*2:=c;apply List.ext_getElem?;intro t;by_cases v:t<n*2
  .have e:=zrO d t (by omega);rw[show d.toList.map (fun x=>triV x.1)=(d.toList.map (·.1)).map triV from by rw[A6];rfl]at e;rw[Cv v,e,Array.getElem?_toList];have s:t<b.size:=(by rw[f];omega);unfold Go.Sort.putCells;rw[Array.getElem?_mapIdx,Array.getElem?_eq_getElem s,Option.map_some,Ab ⟨by omega,by rw[Go.Sort.size_flatK];omega⟩];rfl
  rw[List.getElem?_eq_none (by rw[Aq];omega),List.getElem?_eq_none (by omega)]
 intro x z u G;obtain⟨t,E,rfl⟩:=Au.1 z;obtain⟨y,_,rfl⟩:=Au.1 E;simp[triV]at G;rcases G with rfl|rfl
 .exact I _ y.2
 rfl
def zwW(b:Nat)(U v:Value)(us:List TriB)(cs:List ColB)(w0 w:World)(base:Nat)(T0:TypeId)(fr:Nat×Nat)(A:OwnG pairE w base v (us.map triV))(hB:w0.heap.size<=base)(hb:Lz w0 w)(T:∀t∈us,RdE w0 t.1 t.2.1)(N:∀t∈us,Vr cs t.2.1)(h1:RdC w0 U cs)(hC:CS cs)(hT:Tabs w0)(hn:us.length<=140737488351232)(l:w.heap[b]?=some (.cells #[U] T0 fr))(aF:b<base) :Calls prog 74 #[v,.func (.func 75) #[] #[.pointer (some ⟨b,0,none⟩)]] w fun e w'=>e=.returned (.tuple #[])/\∃C:List TriB,C.Perm us/\Z.wsrt (cmpR cs) (C.map (·.2))/\OwnG pairE w' base v (C.map triV)/\Below base w w':=by
 by_cases Q:us=[]
 .subst Q;obtain⟨ao,cap,e,_⟩:=RdG.shape (A.rd (by simp));subst e;exact(AnyF.slices_SortFunc_none Tryz.sortP ao cap _ w).mono fun e w'⟨he,hw⟩=>⟨he,[],List.Perm.refl _,by simp[Z.wsrt],by subst hw;exact A,by subst hw;exact Ac _ _⟩
 haveI:Inhabited (InL us):=⟨⟨us.head Q,List.head_mem Q⟩⟩;have L:0<us.length:=List.length_pos_iff.2 Q;obtain⟨g,cap,O,X,_⟩:=OwnG.spot zaX A (by simpa using L) (by simpa using hn);rw[Ad]at O;subst O;have ai:=(A.lt (k:=g) rfl).2;have M:=A.rd (by simpa using hn);have aj:w0.heap.size<=w.heap.size:=hb.size;obtain⟨d,hd⟩:=nm_ (us.attach.toArray:Array (InL us));have s:d.size=us.length:=by rw[hd];simp
 have E:d.toList.map (·.1)=us:=by rw[hd];exact List.attach_map_subtype_val us
 have z:∀i,w.frozen? ⟨g,i,none⟩=false:=by
  rcases A.1.2 with⟨f,_⟩|⟨g',al,av,f,_,hg,_⟩
  .simp at f
  simp only[Value.slice.injEq,Option.some.injEq,Addr.mk.injEq]at f;obtain⟨⟨rfl,_⟩,_⟩:=f;intro i;exact At _ _ _ _ _ hg
 have hH:Go.Sort.HoldsK encI 2 w g 0 d:=by
  intro j S;rw[Go.Sort.size_flatK]at S;refine⟨?_,z _⟩;have e:=zrO d j S;rw[show d.toList.map (fun x=>triV x.1)=us.map triV from by
   have:=congrArg (List.map triV) E;rw[A6]at this;exact this]at e
  obtain⟨hi,ah⟩:=zh2 (n:=2) (by decide) (us.map triV) M.wid j _ e;have:=M.cells (j/2) hi (j%2) _ ah;rw[zaF]at this;have e2:0+(j/2*2+j%2)=0+j:=by omega
  rw[show pairE.n=2 from rfl,e2]at this;exact this
 have eg:∀args w,(callFunc 75 args).run prog w=.ok (.enter 75 args) w:=enters_of func75 (by kernel_rfl) rfl;have D:CmpLays prog 75 #[.pointer (some ⟨b,0,none⟩)] encI 2 (cfI cs (us:=us)) g 0 d.size w:=by
  intro m os dk aD x y;obtain⟨W,V⟩:=nm_ (sortWorldK encI 2 w g 0 m dk os);rw[<-V];have c:Lz w0 W:=by rw[V];exact zm9 hb (by omega) aj
  have H:b<w.heap.size:=(Aj.1 l).1;have aa:W.heap[b]?=some (.cells #[U] T0 fr):=by rw[V,zhK b H,Aa (by omega)];exact l
  have hc:=Ag _ _ 0 _ _ _ aa;have hk:=zuL b U x.1.1 y.1.1 cs x.1.2.1 y.1.2.1 x.1.2.2 y.1.2.2 W (h1.later c l_) ((T x.1 x.2).later c l_) ((T y.1 y.2).later c l_) hC (N x.1 x.2).2 (N y.1 y.2).2 (hT.later c) (by simpa using hc);refine(Calls.drawn hk).mono ?_;rintro e w'⟨⟨rfl,Y⟩,ab⟩;exact⟨rfl,zp2 Y (ab (by intro h;cases h))⟩
 have p:=AnyQ.slices_SortFunc Tryz.sortP 2 Tryz.isAgg69 Tryz.sizeOf69 encI (fun _=>rfl) (fun x u hu=>zcP (T x.1 x.2) u hu) (cfI cs (us:=us)) (swoI N) 75 #[.pointer (some ⟨b,0,none⟩)] g 0 cap d w eg D hH ai (by omega);rw[s]at p;refine p.mono ?_;rintro e w'⟨he,a,n,os,hp,hs,rfl⟩;obtain⟨I,_,J⟩:=hp;rw[s]at I;have r:a.size=us.length:=by rw[I]
 have G:∀x:Array (InL us),x.size=us.length->x.extract 0 us.length=x:=fun x hx=>by rw[<-hx];simp
 rw[G a r,G d s]at J;refine⟨he,a.toList.map (·.1),by have:=J.map (·.1);rw[E]at this;exact this,?_,?_,?_⟩
 .unfold Z.wsrt;rw[List.pairwise_map,List.pairwise_map,List.pairwise_iff_getElem];intro i j hi S af;have ae:i<a.size:=by simpa using hi
  have ag:j<a.size:=by simpa using S
  have:=hs i j (Bg _) af (by omega);rw[getElem!_pos a i ae,getElem!_pos a j ag]at this;unfold ltOf cfI at this;simp only[decide_eq_false_iff_not]at this;have hf:=(zbS cs).flip (N a[i].1 a[i].2) (N a[j].1 a[j].2);simp only[Array.getElem_toList];omega
 .have:=ztZ (m:=n) (os:=os) (d:=a) A (by simp) r (fun t ht=>zjB (T t ht));exact this
 exact zm9 (Ac _ _) X (by omega)
/- -/
def zh7(h:k<ps.length):ps.drop k=ps.getD k default::ps.drop (k+1):=by
 rw[Bf h];simp[List.getD,h]
def zH6(h:k+1<ps.length)(e:(ps.getD k default).1=(ps.getD (k+1) default).1) :Z.mg x (ps.drop k)=Z.mg (x+(ps.getD k default).2) (ps.drop (k+1)):=by
 rw[zh7 (show k<ps.length by omega),zh7 h]
 conv=>lhs;rw[Z.mg]
 rw[Ab e]
def zH7(h:k<ps.length)(e:k+1<ps.length->(ps.getD k default).1≠(ps.getD (k+1) default).1) :Z.mg x (ps.drop k)=((ps.getD k default).1,x+(ps.getD k default).2)::Z.mg 0 (ps.drop (k+1)):=by
 rw[zh7 h];by_cases a:k+1<ps.length
 .rw[zh7 a]
  conv=>lhs;rw[Z.mg]
  rw[Aa (e a)]
 rw[Bj (by omega)];rfl
def zkT(a:List PairB)(r:List CellB)(y:Int)(h:overB a=false):overB (a++[(r,y)])=(wE y !=0):=by
 unfold overB at *;rw[List.any_append,h];simp
def zB9(a b:List PairB)(h:overB a=true):overB (a++b)=true:=by
 unfold overB at *;rw[List.any_append,h];rfl
def zG3(a:List PairB)(r:List CellB)(y:Int):Z.nz (a++[(r,y)])=Z.nz a++(if y=0 then[]else[(r,y)]):=by
 unfold Z.nz;rw[List.filter_append];congr 1;by_cases b:y=0
 .rw[Ab b,List.filter_cons_of_neg (by simp[b])];rfl
 rw[Aa b,List.filter_cons_of_pos (by rw[Ao];exact b)];rfl
def zG4(l:List PairB):(Z.nz l).length<=l.length:=Ca _ _
def zBN:∀(l:List PairB)(x:Int),(Z.mg x l).length<=l.length
 | [],_=>by simp[Z.mg]
 | [_],_=>by simp[Z.mg]
 | p::q::t,x=>by
  simp only[Z.mg];split
  ·have:=zBN (q::t) (x+p.2);simp at this ⊢;omega
  .have:=zBN (q::t) 0;simp at this ⊢;omega
def mgE(ps:List PairB):Nat:=if overB (Z.mg 0 ps)=true then 12 else 0
def mgO(ps:List PairB):List PairB:=if overB (Z.mg 0 ps)=true then[]else Z.nz (Z.mg 0 ps)
def TotR.later(h:TotR w g x n)(a:Lz w w'):TotR w' g x n:=(a.block g (Aj.1 h).1).trans h
def xB(x:Int)(k:Nat):Prop:=-(9223372036854775808*(k:Int))<=x/\x<=9223372036854775808*(k:Int)
def znC(h:Only (fun j=>j=g) w w'):w.grownBy w' (some g):=⟨h.os,h.tape,h.output,h.size,fun k b a=>h.block k b (fun e=>a (by rw[e]))⟩
def zwI(v:Value)(ps:List PairB)(w:World)(h:RdP w v ps)(hP:PSO ps)(hn:ps.length*32<=140737488351360) :Calls prog 77 #[v] w fun e w'=>∃v',e=.returned (.tuple #[v',.int .i64 (mgE ps:Nat)])/\OwnP w' w.heap.size v' (mgO ps)/\Lz w w':=by
 have hl:=h.len;have H:=h_ h;obtain⟨n,aD⟩:=nm_ ps.length;rw[<-aD]at hl hn;have HN:=h_ aD;have bS:n<=140737488351232:=by omega
 have NW:=h_ (new1 w (.cells #[.int .u64 0,.int .u64 0,.int .i64 0] 192));have bA:w.heap.size<=(w.alloc (.cells #[.int .u64 0,.int .u64 0,.int .i64 0] 192)).heap.size:=NW.2.2.size;clear h aD;go_enter func77,ntmps77;iterate 2 (go_wp2;go_step3)
 go_wp2;go_loopw [4,5,13] (fun tv gv i wr=>∃(k gt c:Nat)(tx:Value)(x:Int),tx=tv/\gv=.pointer (some ⟨gt,0,none⟩)/\k<=n/\i=.int .i64 k /\
   Hid (∃(d:List PairB)(ts:List TriB),overB d=false/\d++Z.mg x (ps.drop k)=Z.mg 0 ps/\Z.nz d=ts.map (·.2)/\OwnG pairE wr w.heap.size tx (ts.map triV)/\(∀t∈ts,RdE w t.1 t.2.1)/\d.length<=k)/\Hid (TotR wr gt x c/\c<=k/\xB x k)/\Hid (w.heap.size<=gt/\tx.ownBlock≠some gt)/\Hid (Lz w wr)) (fun _ _ i _=>n-(intOf i).toNat)
 case atStart=>exact⟨0,_,0,_,0,rfl,rfl,by omega,rfl,h_ ⟨[],[],rfl,rfl,rfl,OwnG.nil _ _ _,by simp,by simp⟩,h_ ⟨NW.2.1,by omega,by simp[xB]⟩,h_ ⟨by omega,by simp[Value.ownBlock]⟩,h_ NW.2.2⟩
 obtain⟨k,gt,c,tx,x,rfl,rfl,hk,rfl,HD,O,HG,HB⟩:=hrel;by_cases a0:k<n
 .have k2:k<ps.length:=by rw[<-HN.o];exact a0
  obtain⟨b,o,rv,hi,c0,c1,aa,aW⟩:=H.get k2;obtain⟨aB,ac⟩:=hP.get k2;obtain⟨ao,nn,cap,rfl⟩:=aa.lit;have N:=h_ (fun h e=>zH6 (ps:=ps) (k:=k) (x:=x) h e);have A:=h_ (fun e=>zH7 (ps:=ps) (k:=k) (x:=x) k2 e);obtain⟨p,hp⟩:=nm_ (ps.getD k default);rw[<-hp]at c1 aa aB ac N A;rcases p with⟨r,a⟩;dsimp only at c1 aa aB ac N A;have bi:=(HB.cell (p:=⟨b,o,none⟩) aW).trans c0;have bj:=(HB.cell (p:=⟨b,o+1,none⟩) aW).trans c1;have NN:=h_ (new1 wr (.cells #[.slice ao nn cap,.int .i64 a] 69));have aI:=bT HB NN.2.2;have bN:=O.2.1;have bP:gt<wr.heap.size:=(Aj.1 O.1).1;have TA:=h_ (zzL gt x a c ac (by omega) _ (O.1.later NN.2.2));have aL:=h_ aa;have HW:=h_ ac;clear hp aa c0 c1 aB ac;go_wp2_with fail;refine TA.mono ?_;rintro e w2⟨rfl,Q,ho⟩;have am:=ho.keep (j:=wr.heap.size) NN.2.1 (by show ¬wr.heap.size=gt;omega);have d0:=Ag _ _ 0 _ _ _ am;have d1:=Ag _ _ 1 _ _ _ am;simp at d0 d1;have M:=h_ am;have bR:=ho.size;have bU:=NN.1;have bV:=HB.size;have s:=h_ (aI.trans (ho.toBelow (B:=w.heap.size) (fun j hj=>by rw[hj];exact HG.1) (by omega)));obtain⟨d,ts,C,D,I,q4,J,q6⟩:=HD.o;have aR:=h_ (OwnG.grown (OwnG.later q4 NN.2.2 l_) (znC ho) (fun k hk e=>HG.2 (by rw[hk,e])));have QD:=h_ (show overB d=false/\d++Z.mg x (ps.drop k)=Z.mg 0 ps/\Z.nz d=ts.map (·.2)/\(∀t∈ts,RdE w t.1 t.2.1)/\d.length<=k from⟨C,D,I,J,q6⟩);obtain⟨y,S⟩:=nm_ (x+a);rw[<-S]at Q N A;have aM:=h_ Q;have YX:=h_ (show xB y (k+1)from by
   have h1:=O.2.2;have h2:=HW.o;unfold xB inW at *
   push_cast
   omega)
  have YB:=h_ (show -170141183460469231731687303715884105728<=y/\y<170141183460469231731687303715884105728 from by
   have h1:=YX.o;unfold xB at h1
   push_cast at h1
   omega)
  clear S Q ho am C D I q4 J q6 HD TA aI HB bi bj HW O;by_cases Y:k+1<n
  focus
   have k3:k+1<ps.length:=(by rw[<-HN.o];exact Y);obtain⟨b',o',bs,aZ,aT,bf,ar,aX⟩:=H.get k3;have aY:=(s.cell (p:=⟨b',o',none⟩) aX).trans aT;have CC:=h_ (fun wz(hz:Lz w2 wz)=>zvN _ bs r (ps.getD (k+1) default).1 wz (aL.later (s.trans (hz.mono s.size)) l_) (ar.later (s.trans (hz.mono s.size)) l_));have G:=h_ (N.o k3);have E:=h_ (fun e:r≠(ps.getD (k+1) default).1=>A.o (fun _=>e));obtain⟨r2,a4⟩:=nm_ ((ps.getD (k+1) default).1);rw[<-a4]at CC G E;have bn:((k+1:Nat):Int)=(k:Int)+1:=(by omega);rw[bn]at aZ;have bo:IntKind.i64.wrap ((k:Int)+1)=(k:Int)+1:=IntWalk.i64_in _ (by omega);have a3:decide ((k:Int)+1<(n:Int))=true:=Ah (by omega);clear a4 aT bf ar k2 k3 N A;go_wp2;go_still_tail 14,(by kernel_rfl);change wpList _ _ _ _ _ w2.drew;have aj:=h_ ((Ac w2.heap.size w2).drew);clear d0 d1 aY aZ;go_wp2_with fail;refine(CC.o _ aj.o).mono ?_;rintro e w3⟨rfl,hb⟩;have l:=aj.trans (hb.mono aj.size);have ai:=bT s l;have Q4:=h_ (OwnG.later aR.o l l_);have V:=h_ (aM.later l);have aC:wr.heap.size<w2.heap.size:=(Aj.1 M.o).1;have ah:=h_ (show w3.heap[wr.heap.size]?=some (.cells #[.slice ao nn cap,.int .i64 a] 69 (0,0))/\wr.heap.size<w3.heap.size from⟨(l.block _ aC).trans M.o,by have:=l.size;omega⟩);clear hb l CC aj M;by_cases ab:r=r2
   .have bk:decide (r=r2)=true:=Ah ab
    have T:=h_ (show ∃(d:List PairB)(ts:List TriB),overB d=false/\d++Z.mg y (ps.drop (k+1))=Z.mg 0 ps/\Z.nz d=ts.map (·.2)/\OwnG pairE w3 w.heap.size tx (ts.map triV)/\(∀t∈ts,RdE w t.1 t.2.1)/\d.length<=k+1 from by
     obtain⟨C,D,I,J,q6⟩:=QD.o;exact⟨d,ts,C,by rw[<-G.o ab];exact D,I,Q4.o,J,by omega⟩)
    have U:=h_ (show TotR w3 gt y (c+1)/\c+1<=k+1/\xB y (k+1)from⟨V.o,by omega,YX.o⟩);clear G E QD Q4 V YB YX;go_wp2;go_roundw
    case rel=>exact⟨k+1,_,c+1,_,y,rfl,rfl,by omega,by go_num,T,U,HG,ai⟩
    simp[intOf];omega
   have bk:decide (r=r2)=false:=Af ab;have f:=h_ (E.o ab);clear G E ab
  rotate_left
  focus
   have f:=h_ (A.o (fun h9=>absurd h9 (by rw[<-HN.o];exact Y)));have a3:decide ((k:Int)+1<(n:Int))=false:=Af (by omega);have bo:IntKind.i64.wrap ((k:Int)+1)=(k:Int)+1:=IntWalk.i64_in _ (by omega);clear N A k2;go_wp2;go_quiet (fail);have l:=_root_.Go.below_drewN (Ac w2.heap.size w2) nq;generalize w2.drewN nq=wX at l ⊢;have ai:=bT s l;have Q4:=h_ (OwnG.later aR.o l l_);have V:=h_ (aM.later l);have aC:wr.heap.size<w2.heap.size:=(Aj.1 M.o).1;have ah:=h_ (show wX.heap[wr.heap.size]?=some (.cells #[.slice ao nn cap,.int .i64 a] 69 (0,0))/\wr.heap.size<wX.heap.size from⟨(l.block _ aC).trans M.o,by have:=l.size;omega⟩);clear l M;clear d0 d1
  all_goals
   have TS:=h_ (zzK gt y (c+1) YB.o _ V.o);go_wp2_with fail;refine TS.mono ?_;rintro e w4⟨rfl,hb⟩;have L:=bT ai hb;have X:=h_ (OwnG.later Q4.o hb l_);have aE:=(hb.block _ ah.2).trans ah.1;have f0:=Ag _ _ 0 _ _ _ aE;have f1:=Ag _ _ 1 _ _ _ aE;simp at f0 f1;have aF:=L.size;clear hb TS V ai Q4 ah aE;by_cases S:i64 y
   .rw[show wE y=0 from Ab S,show wV y=y from Ab S];have aN:=h_ (show wE y=0 from Ab S);by_cases an:y=0
    .have NT:=h_ (new1 w4 (.cells #[.int .u64 0,.int .u64 0,.int .i64 0] 192))
     have T:=h_ (show ∃(d:List PairB)(ts:List TriB),overB d=false/\d++Z.mg 0 (ps.drop (k+1))=Z.mg 0 ps/\Z.nz d=ts.map (·.2)/\OwnG pairE (w4.alloc (.cells #[.int .u64 0,.int .u64 0,.int .i64 0] 192)) w.heap.size tx (ts.map triV)/\(∀t∈ts,RdE w t.1 t.2.1)/\d.length<=k+1 from by
      obtain⟨C,D,I,J,q6⟩:=QD.o;exact⟨d++[(r,y)],ts,by rw[zkT _ _ _ C,aN.o];rfl,by rw[An,List.singleton_append,<-f.o];exact D,by rw[zG3,Ab an,AV];exact I,OwnG.later X.o NT.2.2 l_,J,by simp;omega⟩)
     have ax:=h_ (show w.heap.size<=w4.heap.size/\tx.ownBlock≠some w4.heap.size from⟨aF,fun h9=>by have:=(OwnG.lt X.o h9).2;omega⟩);have aw:=h_ (L.trans (NT.2.2.mono aF));have U:=h_ (show TotR (w4.alloc (.cells #[.int .u64 0,.int .u64 0,.int .i64 0] 192)) w4.heap.size 0 0/\0<=k+1/\xB 0 (k+1)from⟨NT.2.1,by omega,by unfold xB;omega⟩);subst an;clear L X NT S f QD YB;go_wp2;go_roundw
     case rel=>exact⟨k+1,_,0,_,0,rfl,rfl,by omega,by go_num,T,U,ax,aw⟩
     simp[intOf];omega
    have q:(y !=0)=true:=(by rw[Ao];exact an);have aQ:=h_ (OwnG.alloc X.o (.cells #[.slice ao nn cap,.int .i64 y] 69));have aK:=h_ (show RdG pairE (w4.alloc (.cells #[.slice ao nn cap,.int .i64 y] 69)) (.slice (some ⟨w4.heap.size,0,none⟩) 1 1) [triV (.slice ao nn cap,(r,y))]from
     zg5 zaX (triV (.slice ao nn cap,(r,y))) rfl ⟨w4.heap.size,0,none⟩ ⟨_,_,rfl⟩ fun j z hj=>by
      have e:Addr.add ⟨w4.heap.size,0,none⟩ j=⟨w4.heap.size,j,none⟩:=by simp only[Addr.add];split<;>simp_all
      rw[e,Ag _ _ _ _ _ _ (AB _ _)];simpa[triV]using hj)
    have H1:=h_ (show ∀x∈[triV (.slice ao nn cap,(r,y))],∀u∈x,u.oneCell'=true from by simp[triV,Value.oneCell']);have aq:=h_ (L.alloc aF (.cells #[.slice ao nn cap,.int .i64 y] 69));have Y:(ts.map triV).length<=k:=by
     obtain⟨C,D,I,J,q6⟩:=QD.o;have h1:=congrArg List.length I;have h2:=zG4 d;rw[Ad]at h1 ⊢;omega
    clear X L;go_wp2_with (with_reducible refine zbZ w.heap.size _ ?hs aQ.o _ ?hx aK.o H1.o ?hn ?hbase w.heap.size w aq.o l_ ?_)
    case hs=>rfl
    case hx=>rfl
    case hn=>simp;simp at Y;omega
    case hbase=>simp;omega
    intro v5 w5 a2 aA bl;have a5:=aA.size;have NT:=h_ (new1 w5 (.cells #[.int .u64 0,.int .u64 0,.int .i64 0] 192));have ay:=h_ a2;have T:=h_ (show ∃(d:List PairB)(ts:List TriB),overB d=false/\d++Z.mg 0 (ps.drop (k+1))=Z.mg 0 ps/\Z.nz d=ts.map (·.2)/\OwnG pairE (w5.alloc (.cells #[.int .u64 0,.int .u64 0,.int .i64 0] 192)) w.heap.size v5 (ts.map triV)/\(∀t∈ts,RdE w t.1 t.2.1)/\d.length<=k+1 from by
     obtain⟨C,D,I,J,q6⟩:=QD.o;refine⟨d++[(r,y)],ts++[(.slice ao nn cap,(r,y))],by rw[zkT _ _ _ C,aN.o];rfl,by rw[An,List.singleton_append,<-f.o];exact D,by rw[zG3,Aa an,I,AC];rfl,OwnG.later (by rw[AC];exact ay.o) NT.2.2 l_,?_,by simp;omega⟩;intro t Q;rcases AD.1 Q with Q|Q
     .exact J t Q
     .rw[AH.1 Q];exact aL.o)
    have ax:=h_ (show w.heap.size<=w5.heap.size/\v5.ownBlock≠some w5.heap.size from⟨a5,fun h9=>by have:=(OwnG.lt ay.o h9).2;omega⟩);have aw:=h_ (aA.trans (NT.2.2.mono a5));have U:=h_ (show TotR (w5.alloc (.cells #[.int .u64 0,.int .u64 0,.int .i64 0] 192)) w5.heap.size 0 0/\0<=k+1/\xB 0 (k+1)from⟨NT.2.1,by omega,by unfold xB;omega⟩);clear a2 aA bl ay NT S f QD YB aQ aK H1 aq Y;go_wp2;go_roundw
    case rel=>exact⟨k+1,_,0,_,0,rfl,rfl,by omega,by go_num,T,U,ax,aw⟩
    simp[intOf];omega
   rw[show wE y=12 from Aa S,show wV y=0 from Aa S];have aJ:=h_ (show overB (Z.mg 0 ps)=true from by
    obtain⟨C,D,I,J,q6⟩:=QD.o;rw[<-D,f.o,<-List.singleton_append,<-An];exact zB9 _ _ (by rw[zkT _ _ _ C,show wE y=12 from Aa S];rfl))
   clear S f QD YB;go_wp2;rw[Exit.noGoto_ret];go_ret2;exact⟨_,by unfold mgE;rw[Ab aJ.o];rfl,by unfold mgO;rw[Ab aJ.o];exact OwnP.nil _ _,L.o⟩
 obtain rfl:k=n:=by omega
 obtain⟨d,ts,C,D,I,q4,J,q6⟩:=HD.o;rw[HN.o,List.drop_length]at D;have bq:d=Z.mg 0 ps:=by simpa[Z.mg]using D
 subst bq;have HE:=h_ (show mgE ps=0 from by unfold mgE;rw[Aa (by rw[C];simp)]);have HO:=h_ (show mgO ps=Z.nz (Z.mg 0 ps)from by unfold mgO;rw[Aa (by rw[C];simp)]);have HP:=h_ (show OwnP wr w.heap.size tx (Z.nz (Z.mg 0 ps))from by
  refine⟨ts,I,q4,fun t Q=>⟨(J t Q).later HB.o l_,fun g hg=>(J t Q).offNew ?_⟩⟩;exact(OwnG.lt q4 hg).1)
 clear a0 C D I q4 J q6 HD O HG;go_wp2;rw[Exit.noGoto_ret];go_ret2;exact⟨_,by rw[HE.o];rfl,by rw[HO.o];exact HP.o,HB.o⟩
/- -/
def OwnP.row{v:Value}(h:OwnP w base v ps)(hp:0<ps.length)(T:ps.length<=140737488351232):∃g cap,v=.slice (some ⟨g,0,none⟩) ps.length cap/\base<=g/\g<w.heap.size /\∀k,k<ps.length->(∀u,(Instr.indexAt 33 v (.int .i64 (k:Int))).run prog u=.ok (.pointer (some ⟨g,k*2,none⟩)) u) /\∀w',OwnP w' base v ps->(∃x,w'.cell? ⟨g,k*2,none⟩=some x)/\w'.frozen? ⟨g,k*2,none⟩=false /\∀rv,RdE w' rv (ps.getD k default).1->offB rv (ps.getD k default).1.length g->OwnP (w'.setCell ⟨g,k*2,none⟩ rv) base v ps:=by
 obtain⟨ts,rfl,Q,hr⟩:=h;rw[Ad]at hp T;obtain⟨g,cap,r,z,D,L⟩:=OwnG.spot zaX Q (by simpa using hp) (by simpa using T);have C:g<w.heap.size:=(Q.lt (k:=g) (by rw[r];rfl)).2;refine⟨g,cap,by rw[r];simp,z,C,fun k E=>?_⟩;rw[Ad]at E;refine⟨fun u=>D k (by simpa using E) u,fun w' H=>?_⟩;obtain⟨a,y,A,J⟩:=H;have G:a.length=ts.length:=by have:=congrArg List.length y;simpa using this.symm
 have d:k<a.length:=by omega
 obtain⟨O,Z⟩:=L w' (a.map triV) (by simpa using G) A k (by simpa using E);have s:=Z 0 (by decide);have U:(a.map triV).getD k []=triV a[k]:=by simp[List.getD,d]
 have X:(ts.map (·.2)).getD k default=a[k].2:=by rw[y];simp[List.getD,d]
 rw[U,show pairE.n=2 from rfl,CJ]at s;rw[X];refine⟨⟨a[k].1,by rw[s.1];rfl⟩,s.2.1,fun rv l f=>?_⟩;have c:=s.2.2 rv (zjB l);have V:(a.map triV).set k ((triV a[k]).set 0 rv)=(a.set k (rv,a[k].2)).map triV:=by rw[List.map_set];rfl
 rw[V]at c;have I:=Only.setCell (S:=fun j=>j=g) (Only.refl (fun j=>j=g) w') (p:=⟨g,k*2,none⟩) rfl rv;have e:=znC I;refine⟨a.set k (rv,a[k].2),?_,c,fun t M=>?_⟩
 .rw[List.map_set,y];show _=(a.map (·.2)).set k a[k].2;apply List.ext_getElem?;intro i;rw[CH];split
  ·rename_i hi;subst hi;simp[d]
  rfl
 rcases Bu M with M|rfl
 .obtain⟨Y,N⟩:=J t M;exact⟨Y.aside e (fun j b=>by injection b with b;rw[<-b];exact N g (by rw[r];rfl)),N⟩
 refine⟨l.aside e (fun j b=>by injection b with b;rw[<-b];exact f),fun j b=>?_⟩;rw[r]at b;injection b with b
 rw[<-b];exact f
end
section
/- -/
def zb4(t:TriB):List Value:=[t.1,.int .i64 (paH t.2.2),.int .i64 (paL t.2.2)]
def zcG:Elt:=⟨150,155,3,40,.agg #[.slice none 0 0,.int .i64 0,.int .i64 0]⟩
def zeK:zcG.Ok:=⟨underlying150,by kernel_rfl,by kernel_rfl,rfl,by decide⟩
section
variable{w w':World}{base:Nat}
def zkP(ts:List TriB)(h:∀t∈ts,t.1.oneCell'=true):∀x∈ts.map zb4,∀u∈x,u.oneCell'=true:=by
 intro x d u a;obtain⟨t,c,rfl⟩:=Au.1 d;simp[zb4]at a;rcases a with rfl|rfl|rfl
 .exact h t c
 .rfl
 rfl
def ze3{ts us:List TriB}{e:Array Oper}{Q:Exit->Act->World->Prop}{rest:List Oper}{a:Act}{d:Option Tmp}{C:TypeId}{pos:String}{i:Array Edge}{s x:Operand}(base:Nat)(f:Value)(z:a.eval s=f)(u:OwnG zcG w base f (ts.map zb4))(m:Value)(A:a.eval x=m)(y:RdG zcG w m (us.map zb4))(j:∀t∈us,t.1.oneCell'=true)(D:ts.length+us.length<=100000)(c:base<=w.heap.size)(B:Nat)(l:World)(r:Below B l w)(k:B<=base)(h:∀g w',OwnG zcG w' base g ((ts++us).map zb4)->Below B l w'->w.grownBy w' f.ownBlock->wpList prog e Q rest (a.put d g) w') :wpList prog e Q (⟨d,.call ⟨.builtin .append,#[s,x],#[150,150]⟩,C,pos,i,none⟩::rest) a w :=
 zcD (E:=zcG) zeK base f z u m A y (zkP us j) (by rw[Ad,Ad];simp[zcG];omega) (by rw[Ad,Ad];omega) c B l r k
  (fun g w' j n p=>h g w' (by rw[AC];exact j) n p)
def znA(w:World)(base:Nat)(a:base<=w.heap.size):OwnG zcG (w.alloc (.cells #[] 155)) base (.slice (some ⟨w.heap.size,0,none⟩) 0 0) (([]:List TriB).map zb4):=zdR zcG w base a
def zJ8(w:World)(t:TriB):RdG zcG (w.alloc (.cells #[t.1,.int .i64 (paH t.2.2),.int .i64 (paL t.2.2)] 155)) (.slice (some ⟨w.heap.size,0,none⟩) 1 1) ([t].map zb4):=by
 refine zg5 zeK (zb4 t) rfl ⟨w.heap.size,0,none⟩ ⟨_,_,rfl⟩ fun j z a=>?_;have e:Addr.add ⟨w.heap.size,0,none⟩ j=⟨w.heap.size,j,none⟩:=by simp only[Addr.add];split<;>simp_all
 rw[e,Ag _ _ _ _ _ _ (AB _ _)];simpa[zb4]using a
def zB0{ts:List TriB}{k:Nat}(a:k<ts.length):(ts.map zb4).getD k []=zb4 (ts.getD k default):=by
 simp[List.getD,a]
def partAt{v:Value}{ts:List TriB}(h:OwnG zcG w base v (ts.map zb4))(D:ts.length<=100000){k:Nat}(l:k<ts.length):∃g o,base<=g/\(∀u,(Instr.indexAt 150 v (.int .i64 (k:Int))).run prog u=.ok (.pointer (some ⟨g,o,none⟩)) u) /\∀(w':World)(us:List TriB),us.length=ts.length->OwnG zcG w' base v (us.map zb4) ->w'.cell? ⟨g,o,none⟩=some (us.getD k default).1/\w'.cell? ⟨g,o+1,none⟩=some (.int .i64 (paH (us.getD k default).2.2))/\w'.cell? ⟨g,o+2,none⟩=some (.int .i64 (paL (us.getD k default).2.2)) /\w'.frozen? ⟨g,o+1,none⟩=false/\w'.frozen? ⟨g,o+2,none⟩=false /\∀X:Int,(w'.setCell ⟨g,o+1,none⟩ (.int .i64 (paH X))).cell? ⟨g,o+2,none⟩=some (.int .i64 (paL (us.getD k default).2.2))/\(w'.setCell ⟨g,o+1,none⟩ (.int .i64 (paH X))).frozen? ⟨g,o+2,none⟩=false /\OwnG zcG ((w'.setCell ⟨g,o+1,none⟩ (.int .i64 (paH X))).setCell ⟨g,o+2,none⟩ (.int .i64 (paL X))) base v ((us.set k ((us.getD k default).1,((us.getD k default).2.1,X))).map zb4):=by
 obtain⟨g,cap,E,j,c,a⟩:=OwnG.spot zeK h (by rw[Ad];omega) (by rw[Ad];omega);rw[Ad]at c a;refine⟨g,k*3,j,fun u=>c k l u,fun w' us r A=>?_⟩;obtain⟨_,f⟩:=a w' (us.map zb4) (by rw[Ad];exact r) A k l;rw[zB0 (by omega)]at f;have p:=f 0 (by decide);have d:=f 1 (by decide);have i:=f 2 (by decide);have s:zcG.n=3:=rfl;rw[s]at p d i;refine⟨by simpa[zb4]using p.1,by simpa[zb4]using d.1,by simpa[zb4]using i.1,d.2.1,i.2.1,fun X=>?_⟩;have C:=d.2.2 (.int .i64 (paH X)) rfl;obtain⟨_,z⟩:=a _ _ (by rw[Be,Ad];exact r) C k l;have e:=z 2 (by decide);have x:(((us.map zb4).set k ((zb4 (us.getD k default)).set 1 (.int .i64 (paH X)))).getD k [])=[(us.getD k default).1,.int .i64 (paH X),.int .i64 (paL (us.getD k default).2.2)]:=by
  have m:k<us.length:=by omega
  simp[List.getD,zb4,m]
 rw[x,s]at e;refine⟨by simpa using e.1,e.2.1,?_⟩;have t:=e.2.2 (.int .i64 (paL X)) rfl;have y:((us.map zb4).set k ((zb4 (us.getD k default)).set 1 (.int .i64 (paH X)))).set k ([(us.getD k default).1,.int .i64 (paH X),.int .i64 (paL (us.getD k default).2.2)].set 2 (.int .i64 (paL X)))=(us.set k ((us.getD k default).1,((us.getD k default).2.1,X))).map zb4:=by
  rw[List.set_set,List.map_set];rfl
 rw[y]at t;exact t
end
def zr1(w:World)(t:TriB):∀j z,(zb4 t)[j]?=some z->(w.alloc (.cells #[t.1,.int .i64 (paH t.2.2),.int .i64 (paL t.2.2)] 155)).cell? (Addr.add ⟨w.heap.size,0,none⟩ j)=some z:=by
 intro j z a;have e:Addr.add ⟨w.heap.size,0,none⟩ j=⟨w.heap.size,j,none⟩:=by simp only[Addr.add];split<;>simp_all
 rw[e,Ag _ _ _ _ _ _ (AB _ _)];simpa[zb4]using a
variable {x:Int} {r:List CellB} {cs:List ColB} {ps:List PairB} {ts:List TriB} {j k:Nat}
def zC8:∀{k:Nat},k<ps.length->(∀p∈ps.take k,errRow cs p.1=0)->errRow cs (ps.getD k default).1≠0->firstE cs ps=errRow cs (ps.getD k default).1:=by
 induction ps with
 | nil=>intro k h;simp at h
 | cons p t ih=>
  intro k h c a;cases k with
  | zero=>
   simp at a;unfold firstE;rw[Ab a];simp
  | succ k=>
   have hp:errRow cs p.1=0:=c p (by simp);unfold firstE;rw[Aa (fun d=>d hp)];have:=ih (k:=k) (by simpa using h) (fun q e=>c q (by simp[e])) (by simpa using a);simpa using this
def zfC(ps:List PairB)(k:Nat)(h:k<ps.length):ps.take (k+1)=ps.take k++[ps.getD k default]:=by
 rw[BL];simp[List.getD,h]
def zA3(h:k<ps.length)(a:∀p∈ps.take k,errRow cs p.1=0)(c:errRow cs (ps.getD k default).1=0):∀p∈ps.take (k+1),errRow cs p.1=0:=by
 rw[zfC ps k h];intro p hp;rcases AD.1 hp with hp|hp
 .exact a p hp
 rw[AH.1 hp];exact c
def zwU(a:PSO ps)(r:List CellB):-(9223372036854775808*(ps.length:Int))<=Z.sumW ps r/\Z.sumW ps r<=9223372036854775808*(ps.length:Int):=by
 induction ps with
 | nil=>simp[Z.sumW]
 | cons p t ih=>
  have ih:=ih (a.sub (fun x c=>by simp[c]));have hp:=(a p (by simp)).2;unfold inW at hp;simp only[Z.sumW,Ap];push_cast;split<;>omega
def zxJ(a:PSO ps)(c:∀p∈ps,errRow cs p.1=0)(d:ps.length<=4000):∀p∈zdB cs ps,paOk p.2 :=
 (Z.parts_all (zbS cs) (zuW a c) (I:=paOk) ⟨by omega,by omega⟩).2 fun r=>by
  have:=zwU a r;unfold paOk;omega
def zr7{cs:List ColB}:∀(ps a:List PairB),(Z.partsFrom (cmpR cs) a ps).length<=a.length+ps.length
 | [],a=>by simp[Z.partsFrom]
 | p::t,a=>by
  have d:=zr7 (cs:=cs) t (Z.ins (cmpR cs) p.1 p.2 a);have c:∀l:List PairB,(Z.ins (cmpR cs) p.1 p.2 l).length<=l.length+1:=fun l=>by
   induction l with
   | nil=>simp[Z.ins]
   | cons q r ih=>
    simp only[Z.ins];split
    ·simp;omega
    .split<;>simp
  have:=c a;show(Z.partsFrom (cmpR cs) (Z.ins (cmpR cs) p.1 p.2 a) t).length<=_;simp;omega
def zw0{rv:Value}(f:j<=ts.length)(e:∀i,i<j->cmpR cs (ts.getD i default).2.1 r<0)(h:j<ts.length->0<=cmpR cs (ts.getD j default).2.1 r/\(ts.getD j default).2.1≠r):(ts.take j++(rv,(r,x))::ts.drop j).map (·.2)=Z.ins (cmpR cs) r x (ts.map (·.2)):=by
 have g:∀i(a:i<ts.length),(ts.map (·.2))[i]'(by simpa using a)=(ts.getD i default).2:=fun i a=>by simp[List.getD,a]
 rw[Z.ins_new (j:=j) (by simpa using f) (fun i a d=>by rw[g i (by simpa using a)];exact e i d) (fun c=>by rw[g j (by simpa using c)];have:=h (by simpa using c);exact⟨by omega,this.2⟩)];simp[Dg,List.map_drop]
def zEN(c:j<ts.length)(e:∀i,i<j->cmpR cs (ts.getD i default).2.1 r<0)(h:0<=cmpR cs (ts.getD j default).2.1 r)(f:(ts.getD j default).2.1=r):(ts.set j ((ts.getD j default).1,((ts.getD j default).2.1,(ts.getD j default).2.2+x))).map (·.2)=Z.ins (cmpR cs) r x (ts.map (·.2)):=by
 have g:∀i(a:i<ts.length),(ts.map (·.2))[i]'(by simpa using a)=(ts.getD i default).2:=fun i a=>by simp[List.getD,a]
 rw[Z.ins_add (j:=j) (by simpa using c) (fun i a d=>by rw[g i (by simpa using a)];exact e i d) (by rw[g j c];omega) (by rw[g j c];exact f),g j c,List.map_set]
def zxS(ps:List PairB)(k:Nat)(h:k<ps.length)(a:overB (ps.take k)=false):overB (ps.take (k+1))=(wE (ps.getD k default).2 !=0):=by
 unfold overB at a ⊢;rw[zfC ps k h,List.any_append,a];simp
def zxR(h:overB (ps.take k)=true):overB ps=true:=by
 unfold overB at h ⊢;obtain⟨p,hp,h⟩:=List.any_eq_true.1 h;exact List.any_eq_true.2 ⟨p,A9 hp,h⟩
def zH5(ps:List PairB)(k:Nat)(h:k<ps.length):Z.nz (ps.take (k+1))=Z.nz (ps.take k)++(if(ps.getD k default).2=0 then[]else[ps.getD k default]):=by
 unfold Z.nz;rw[zfC ps k h,List.filter_append];congr 1;by_cases a:(ps.getD k default).2=0
 .rw[Ab a,List.filter_cons_of_neg (by simp only[a];decide)];rfl
 rw[Aa a,List.filter_cons_of_pos (by rw[Ao];exact a)];rfl
def zI8(h:i64 x):wE x=0:=Ab h
def zGI(h:¬i64 x):wE x=12:=Aa h
def zI7(h:i64 x):wV x=x:=Ab h
def zGH(h:¬i64 x):wV x=0:=Aa h
/- -/
/- -/
def rowFrom(b:Nat)(rv:Value)(r:List CellB):Prop:=∀i,i<r.length->b<=(adr rv (i*2)).block
def OwnPN(w:World)(base b:Nat)(v:Value)(ps:List PairB):Prop:=∃ts:List TriB,ps=ts.map (·.2)/\OwnG pairE w base v (ts.map triV)/\(∀t∈ts,RdE w t.1 t.2.1/\∀g,v.ownBlock=some g->offB t.1 t.2.1.length g)/\∀t∈ts,rowFrom b t.1 t.2.1
section
variable{w w':World}{v:Value}{ps:List PairB}{base b:Nat}
def OwnPN.own(h:OwnPN w base b v ps):OwnP w base v ps:=by
 obtain⟨ts,e,a,c,_⟩:=h;exact⟨ts,e,a,c⟩
def OwnPN.nil(w:World)(base b:Nat):OwnPN w base b (.slice none 0 0) []:=⟨[],rfl,OwnG.nil pairE w base,by simp,by simp⟩
def OwnPN.rd(h:OwnPN w base b v ps)(a:ps.length<=140737488351232):RdP w v ps:=h.own.rd a
def OwnPN.lt(h:OwnPN w base b v ps){k:Nat}(a:v.ownBlock=some k):base<=k/\k<w.heap.size:=h.own.lt a
def OwnPN.later{B:Nat}(h:OwnPN w base b v ps)(c:Below B w w')(a:w.heap.size<=B):OwnPN w' base b v ps:=by
 obtain⟨ts,e,h,d,g⟩:=h;exact⟨ts,e,h.later c a,fun t f=>⟨(d t f).1.later c a,(d t f).2⟩,g⟩
def OwnPN.alloc(h:OwnPN w base b v ps)(o:Obj):OwnPN (w.alloc o) base b v ps:=h.later ((Ac w.heap.size w).alloc l_ o) l_
def OwnPN.new(h:OwnPN w base b v ps)(d:ps.length<=140737488351232)(p:b<=base):NewP w b v ps:=by
 obtain⟨ts,rfl,c,m,l⟩:=h;rw[Ad]at d;refine⟨ts,rfl,c.rd (by simpa using d),fun i r=>?_,fun t e=>⟨(m t e).1,l t e⟩⟩;obtain⟨⟨_,j⟩,_⟩:=c;rcases j with⟨_,a⟩|⟨g,cap,f,n,k,_⟩
 .rw[Ad]at a;omega
 rw[n,zaF];show b<=g;omega
def zB8{cs:List CellB}(h:OwnE w base v cs)(f:b<=base):rowFrom b v cs:=fun i g=>by
 obtain⟨⟨_,c⟩,_⟩:=h;rw[Ad]at c;rcases c with⟨rfl,j⟩|⟨a,cap,d,rfl,e,_⟩
 .omega
 .have:(adr (.slice (some ⟨a,0,none⟩) cs.length cap) (i*2)).block=a:=by rw[zaF]
  omega
def zpX{n:Array Oper}{Q:Exit->Act->World->Prop}{rest:List Oper}{a:Act}{k:Option Tmp}{ty:TypeId}{pos:String}{u:Array Edge}{s x:Operand}(base:Nat)(i:Value)(X:a.eval s=i)(U:OwnPN w base b i ps)(g:Nat)(rv:Value)(p:PairB)(Y:a.eval x=.slice (some ⟨g,0,none⟩) 1 1)(S:w.heap[g]?=some (.cells #[rv,.int .i64 p.2] 69 (0,0)))(J:RdE w rv p.1)(m:∀g,i.ownBlock=some g->offB rv p.1.length g)(C:rowFrom b rv p.1)(I:(ps.length+1)*32<=140737488355328)(f:base<=w.heap.size)(B:Nat)(E:World)(O:Below B E w)(A:B<=base)(h:∀r w',OwnPN w' base b r (ps++[p])->Below B E w'->w.grownBy w' i.ownBlock->Place w i r->wpList prog n Q rest (a.put k r) w') :wpList prog n Q (⟨k,.call ⟨.builtin .append,#[s,x],#[33,33]⟩,ty,pos,u,none⟩::rest) a w:=by
 obtain⟨ts,rfl,N,D,V⟩:=U;rw[Ad]at I;have l:∀t∈ts++[(rv,p)],RdE w t.1 t.2.1/\∀g,i.ownBlock=some g->offB t.1 t.2.1.length g:=fun t c=>by
  rcases AD.1 c with c|c
  .exact D t c
  rw[AH.1 c];exact⟨J,m⟩
 have d:∀t∈ts++[(rv,p)],rowFrom b t.1 t.2.1:=fun t c=>by
  rcases AD.1 c with c|c
  .exact V t c
  rw[AH.1 c];exact C
 refine zbH zaX base i X N _ Y (zg5 zaX (triV (rv,p)) rfl ⟨g,0,none⟩ ⟨g,0,rfl⟩ fun j z T=>?_) ?_ (by simp;exact I) (by simp;omega) f B E O A (fun r w' L M G H=>h r w' ⟨ts++[(rv,p)],by rw[AC];rfl,by rw[AC];exact L,fun t c=>zhL l G H t c,d⟩ M G H)
 .have e:Addr.add ⟨g,0,none⟩ j=⟨g,j,none⟩:=by simp only[Addr.add];split<;>simp_all
  rw[e,Ag _ _ _ _ _ _ S];simpa[triV]using T
 intro y Z;rw[AH.1 Z];exact zcP J
end
/- -/
def zfS(v1 v2:Value)(cs:List ColB)(ps:List PairB)(w:World)(h1:RdC w v1 cs)(h2:RdP w v2 ps)(hC:CS cs)(hP:PSO ps)(hl:ps.length<=4000) :Calls prog 60 #[v1,v2] w fun e w'=>∃v,e=.returned (.tuple #[v,.int .i64 (clcE cs ps:Nat)])/\NewP w' w.heap.size v (clcO cs ps)/\Lz w w':=by
 have CK:=h_ (zbE v1 cs w h1 hC);have c2:=h2.len;have H1:=h_ h1;have H2:=h_ h2;clear h1 h2;obtain⟨c,hc⟩:=nm_ (errS (colsL cs));rw[<-hc]at CK;by_cases cj:c=0
 .subst cj;have HE:=h_ (show clcE cs ps=if firstE cs ps≠0 then firstE cs ps else if overB (zdB cs ps)=true then 12 else if 1024<(canonC cs ps).length then 13 else 0 from by unfold clcE;rw[Aa (by omega)]);obtain⟨n,hn⟩:=nm_ ps.length;rw[<-hn]at c2 hl;have HN:=h_ hn;have dk:cs.length<=8:=by
   have:=((zlB (colsL cs)).1 hc.symm).1.2;unfold colsL at this;rwa[Ad]at this
  clear hc hn;go_enter func60,ntmps60;go_wp2_with fail;refine CK.mono ?_;rintro e w1⟨rfl,N⟩;have af:=h_ N;have aa:=N.size;clear N CK;go_wp2;go_loopw [7,8] (fun tv i wr=>∃(k:Nat)(ts:List TriB)(v:Value),v=tv/\k<=n/\i=.int .i64 k/\Hid (∀p∈ps.take k,errRow cs p.1=0)/\Hid (ts.map (·.2)=zdB cs (ps.take k))/\Hid (∀t∈ts,RdE w t.1 t.2.1)/\Hid (OwnG zcG wr w1.heap.size v (ts.map zb4))/\Hid (Lz w1 wr)) (fun _ i _=>n-(intOf i).toNat)
  case atStart=>exact⟨0,[],_,rfl,by omega,rfl,h_ (by simp),h_ rfl,h_ (by simp),h_ (OwnG.nil _ _ _),h_ (Ac _ _)⟩
  obtain⟨k,ts,v,rfl,hk,rfl,HV,HM,HT,HO,HB⟩:=hrel;have cb:=h_ (hP.sub (qs:=ps.take k) (fun p hp=>A9 hp));have c6:ts.length<=k:=by
   have e:=congrArg List.length HM.o;rw[Ad]at e;have:=zr7 (cs:=cs) (ps.take k) [];have e2:(zdB cs (ps.take k)).length<=0+(ps.take k).length:=this;rw[Aq]at e2;omega
  have C:=HO.rd (by rw[Ad];omega);have bO:∀u,(Builtin.len_ #[150] 3 #[v]).run prog u=.ok (.int .i64 (ts.length:Int)) u:=by
   have:=RdG.len C zeK;rw[Ad]at this;exact this
  by_cases cq:k<n
  .have k2:k<ps.length:=(by rw[<-HN.o];exact cq);obtain⟨b,o,rv,hi,l,s,c5,dj⟩:=(H2.later af.o l_).later HB.o l_ |>.get k2;obtain⟨b0,o0,c7,cp,ck,c0,bB,cg⟩:=H2.get k2;obtain⟨bu,bf⟩:=hP.get k2;have bt:b=b0/\o=o0:=by
    have e:=(hi w).symm.trans (cp w);simp only[Result.ok.injEq,Value.pointer.injEq,Option.some.injEq,Addr.mk.injEq]at e;exact⟨e.1.1,e.1.2.1⟩
   have ah:rv=c7:=by
    have e:=za6 (af.trans (HB.mono aa)) ck;rw[<-bt.1,<-bt.2,l]at e;injection e
   have U:=h_ (show RdE w rv (ps.getD k default).1 from by rw[ah];exact bB);have aN:=h_ (fun G(hz:Lz w G)=>zeA v1 rv cs (ps.getD k default).1 G (H1.later hz l_) (U.later hz l_) hC bu);have bo:=h_ (zfC ps k k2);have aP:=h_ (fun h=>zC8 (cs:=cs) k2 HV.o h);have aS:=h_ (fun h=>zA3 (cs:=cs) k2 HV.o h);have ct:ps.getD k default∈ps:=(by simp[List.getD,k2]);have ch:b<w1.heap.size:=(by have:=bt.1;omega);clear cp ck c0 bB cg bt ah k2 c5;obtain⟨p,hp⟩:=nm_ (ps.getD k default);rw[<-hp]at s bu bf U aN bo aP aS ct;clear hp;rcases p with⟨r,x⟩
   dsimp only at s bu bf U aN aP aS;obtain⟨H,no,I,rfl⟩:=U.lit;obtain⟨d,hd⟩:=nm_ (errRow cs r);rw[<-hd]at aN aP aS;have HD:=h_ hd;clear hd;by_cases a:d=0
   .subst a;have bK:=h_ (aS.o rfl);have bE:w1.heap.size<=wr.heap.size:=HB.size;have dr:w.heap.size<=wr.heap.size:=(by omega);clear aP aS;go_wp2_with fail;refine(aN.o _ (af.trans (HB.mono aa))).mono ?_;rintro e w3⟨rfl,ag⟩;replace l:=za6 ag l;replace s:=za6 ag s;have bI:=h_ (HO.later ag l_);have aX:=h_ (HB.trans (ag.mono bE));have df:wr.heap.size<=w3.heap.size:=ag.size;clear ag HO HB aN C;go_wp2;go_loopw [9] (fun i wq=>∃j:Nat,j<=ts.length/\i=.int .i64 j/\Hid (∀i,i<j->cmpR cs (ts.getD i default).2.1 r<0)/\Hid (Lz w3 wq)) (fun i _=>ts.length-(intOf i).toNat)
    case atStart=>exact⟨0,by omega,rfl,h_ (fun i hi=>absurd hi (by omega)),h_ (Ac _ _)⟩
    obtain⟨j,bv,rfl,HL,al⟩:=hrel;have bc:w3.heap.size<=wr.heap.size:=al.size;replace l:=za6 al.o l;replace s:=za6 al.o s;have HQ:=h_ (bI.later al.o l_);have y:=h_ (aX.trans (al.mono (by omega)));have f:w1.heap.size<=wr.heap.size:=(by omega);have A:=h_ (af.trans (y.mono aa));have bn:=h_ (show ∀t∈ts,t.1.oneCell'=true from fun t E=>zjB (HT.o t E));by_cases ax:j<ts.length
    .clear bI aX;obtain⟨gp,op,a8,c1,a6⟩:=partAt HQ.o (by omega) ax;have bm:=h_ a6;clear a6;have M:ts.getD j default∈ts:=(by simp[List.getD,ax]);have bQ:paOk (ts.getD j default).2.2:=zxJ cb.o HV.o (by rw[Aq];omega) _ (by rw[<-HM.o];exact C5 M);have ac:=HT.o _ M;have aF:CES (ts.getD j default).2.1:=by
      obtain⟨q,hq,e⟩:=(Z.parts_has (cmp:=cmpR cs) (ps.take k) (ts.getD j default).2.1).1 ⟨(ts.getD j default).2,by rw[show Z.parts (cmpR cs) (ps.take k)=_ from HM.symm];exact C5 M,rfl⟩;rw[<-e];exact(cb.o q hq).1
     have O:=h_ (fun h1 h2=>zEN (cs:=cs) (r:=r) (x:=x) ax HL.o h1 h2);have aD:=h_ (show cmpR cs (ts.getD j default).2.1 r<0->∀i,i<j+1->cmpR cs (ts.getD i default).2.1 r<0 from fun h i hi=>by
      rcases Cu i j with h9|h9
      .exact HL.o i h9
      .have:i=j:=by omega
       rw[this];exact h)
     have ad:=h_ (show ∀u:TriB,u.1=(ts.getD j default).1->u.2.1=(ts.getD j default).2.1->∀t∈ts.set j u,RdE w t.1 t.2.1 from fun u h1 h2 t E=>by
      rcases Bu E with E|rfl
      .exact HT.o t E
      .rw[h1,h2];exact HT.o _ M)
     have hc:=bm.o wr ts rfl HQ.o;have p0:=hc.1;obtain⟨tp,aU⟩:=nm_ (ts.getD j default);rw[<-aU]at p0 bQ ac aF O aD ad;have bq:=h_ aU;clear hc aU M;rcases tp with⟨tv,tr,tx⟩
     dsimp only at p0 bQ ac aF O aD ad;have CC:=h_ (fun G(hz:Lz w G)=>ze9 v1 tv (.slice H no I) cs tr r G (H1.later hz l_) (ac.later hz l_) (U.later hz l_) hC aF bu);have SS:=h_ (fun G(hz:Lz w G)=>zn3 tv (.slice H no I) tr r G (ac.later hz l_) (U.later hz l_));obtain⟨m,hm⟩:=nm_ (cmpR cs tr r);rw[<-hm]at CC aD O;have aR:=h_ hm;have dm:decide (j<ts.length)=true:=Ah ax;clear hm ac aF;go_wp2;go_still_tail 16,(by kernel_rfl);change wpList _ _ _ _ _ wr.drew;clear p0;go_wp2_with fail;refine(CC.o _ A.drew).mono ?_;rintro e w5⟨rfl,N⟩;have a:Lz wr w5:=(Ac wr.heap.size wr).drew.trans N;clear N;replace HQ:=h_ (HQ.later a l_);replace y:=h_ (y.trans (a.mono f));replace A:=bT A a;replace l:=za6 a l;replace s:=za6 a s;replace f:w1.heap.size<=w5.heap.size:=y.size;have cM:=h_ (al.trans (a.mono bc));clear a al bc;clear CC;by_cases bP:m<0
     .have c4:decide (m<0)=true:=Ah bP;have cN:=h_ (aD.o bP);clear O aD ad SS;go_wp2;go_roundw
      case rel=>exact⟨j+1,by omega,by go_num,cN,h_ cM.o⟩
      simp[intOf];omega
     have c4:decide (m<0)=false:=Af bP;have cr:0<=m:=(by omega);have hc:=bm.o w5 ts rfl HQ.o;rw[<-bq.o]at hc;have p0:=hc.1;clear hc;go_wp2;go_still_tail 15,(by kernel_rfl);change wpList _ _ _ _ _ w5.drew;clear p0;go_wp2_with fail;refine(SS.o _ A.drew).mono ?_;rintro e D⟨rfl,N⟩;have a:Lz w5 D:=(Ac w5.heap.size w5).drew.trans N;clear N;replace HQ:=h_ (HQ.later a l_);replace y:=h_ (y.trans (a.mono f));replace A:=bT A a;replace l:=za6 a l;replace s:=za6 a s;replace f:w1.heap.size<=D.heap.size:=y.size;clear a;clear SS;by_cases ah:tr=r
     .have a7:decide (tr=r)=true:=Ah ah;rw[a7]
      have am:=h_ (show(ts.set j (tv,(tr,tx+x))).map (·.2)=zdB cs (ps.take (k+1))from by
       rw[bo.o];unfold zdB;rw[Z.parts_snoc];rw[show Z.parts (cmpR cs) (ps.take k)=_ from HM.symm];exact O.o cr ah)
      have aq:=h_ (ad.o (tv,(tr,tx+x)) rfl rfl);have hc:=bm.o D ts rfl HQ.o;rw[<-bq.o]at hc;obtain⟨_,p1,p2,_⟩:=hc;clear a7 ah O aD ad;go_wp2;have bb:=fun z:OrdR.GW (Below w1.heap.size) D.drew=>(z.grew.cell (p:=⟨b,o+1,none⟩) ch).trans s;have PL:=h_ (zoQ tx x bQ bf D.drew);unfold paV at PL;refine AY (R:=Below w1.heap.size) zm8 [(0,false),(1,false),(2,false),(3,false),(4,false),(5,false),(7,false),(8,false),(9,false),(10,false),(11,false),(6,true),(12,true),(13,false),(14,false),(15,true)] (by kernel_rfl) rfl (by kernel_rfl) (by kernel_rfl) (fun _ _ _ d _ h=>by cases d<;>exact h) ?_;iterate 11 (refine Ak rfl rfl (by kernel_rfl) (fun K hK=>?_);go_big_quiet_op;refine hK _ ?_;clear hK K)
      refine Ax rfl (by kernel_rfl) (fun K hK=>?_);go_big_op;refine hK _ _ (Ac _ _) ?_;clear hK K;refine Ax rfl (by kernel_rfl) (fun K hK=>?_);go_big_op;refine PL.mono ?_;rintro e w7⟨rfl,N⟩;have cf:=N.mono (show w1.heap.size<=D.drew.heap.size from f);have a:Lz D w7:=(Ac D.heap.size D).drew.trans N;clear N;replace HQ:=h_ (HQ.later a l_);replace y:=h_ (y.trans (a.mono f));replace A:=bT A a;replace l:=za6 a l;replace s:=za6 a s;replace f:w1.heap.size<=w7.heap.size:=y.size;clear a;have hc:=bm.o w7 ts rfl HQ.o;rw[<-bq.o]at hc;obtain⟨_,p1,p2,f1,f2,cw⟩:=hc;obtain⟨q2,g2,T⟩:=cw (tx+x);have T:=h_ T;have ak:=h_ ((y.setCell (p:=⟨gp,op+1,none⟩) (by exact a8) (.int .i64 (paH (tx+x)))).setCell (p:=⟨gp,op+2,none⟩) (by exact a8) (.int .i64 (paL (tx+x))));clear cw HQ y PL;refine hK _ _ cf ?_;clear cf bb;clear hK K;iterate 2 (refine Ak rfl rfl (by kernel_rfl) (fun K hK=>?_);go_big_quiet_op;refine hK _ ?_;clear hK K)
      refine Ax rfl (by kernel_rfl) (fun K hK=>?_);go_big_op;refine hK _ _ (((Ac _ _).setCell (p:=⟨gp,op+1,none⟩) (by exact a8) _).setCell (p:=⟨gp,op+2,none⟩) (by exact a8) _) ?_;clear hK K;refine Bk ?_;go_wp2;go_roundw
      case rel=>exact⟨k+1,_,_,rfl,by omega,by go_num,bK,am,aq,T,ak⟩
      simp[intOf];omega
     have a7:decide (tr=r)=false:=Af ah;rw[a7];have aZ:=h_ (show j<ts.length->0<=cmpR cs (ts.getD j default).2.1 r/\(ts.getD j default).2.1≠r from fun _=>by
      rw[<-bq.o];exact⟨by show 0<=cmpR cs tr r;rw[<-aR.o];omega,ah⟩)
     clear a7 ah O aD ad;have C:=HQ.rd (by rw[Ad];omega);obtain⟨vt,be,aB⟩:=RdG.upto zeK C j (by rw[Ad];omega);obtain⟨vd,bd,aA⟩:=RdG.from zeK C j (by rw[Ad];omega);have RT:=h_ (show RdG zcG (D.alloc (.cells #[] 155)) vt ((ts.take j).map zb4)from by
      rw[Dg];exact aB _ (C.later zeK ((Ac _ _).alloc l_ _) l_))
     have RD:=h_ (show ∀wy,OwnG zcG wy w1.heap.size v (ts.map zb4)->RdG zcG wy vd ((ts.drop j).map zb4)from fun wy hz=>by
      rw[List.map_drop];exact aA _ (hz.rd (by rw[Ad];omega)))
     have cA:∀u,(Instr.slice 150 v none (some (.int .i64 (j:Int))) none).run prog u=.ok vt u:=be;have cz:∀u,(Instr.slice 150 v (some (.int .i64 (j:Int))) none none).run prog u=.ok vd u:=bd;clear be bd aB aA C;go_wp2_with (with_reducible refine ze3 (ts:=[]) (us:=ts.take j) D.heap.size _ ?hs (znA D D.heap.size l_) vt ?hx RT.o ?h1 ?hn ?hbase D.heap.size D ((Ac _ _).alloc l_ _) l_ ?_)
     case hs=>rfl
     case hx=>rfl
     case h1=>exact fun t E=>bn.o t (A9 E)
     case hn=>simp;omega
     case hbase=>simp
     intro v8 w8 aG V _;rw[AA]at aG;have ar:b<D.heap.size:=AI D _ l;have a0:=h_ aG;have aY:=h_ V;have az:D.heap.size<=w8.heap.size:=V.size;have au:=za6 (V.mono l_) l;have av:=za6 (V.mono l_) s;clear aG V l s;go_wp2;have bR:=fun z:OrdR.GW (Below D.heap.size) w8.drew=>(z.grew.cell (p:=⟨b,o,none⟩) ar).trans au;have bb:=fun z:OrdR.GW (Below D.heap.size) w8.drew=>(z.grew.cell (p:=⟨b,o+1,none⟩) ar).trans av;clear au av;refine AY (R:=Below D.heap.size) zm8 [(0,false),(1,false),(2,false),(3,false),(4,false),(5,false),(7,false),(8,false),(9,false),(10,false),(11,false),(6,true),(12,true),(13,true),(14,true),(15,true),(16,false)] (by kernel_rfl) rfl (by kernel_rfl) (by kernel_rfl) (fun _ _ _ d _ h=>by cases d<;>exact h) ?_;iterate 11 (refine Ak rfl rfl (by kernel_rfl) (fun K hK=>?_);go_big_quiet_op;refine hK _ ?_;clear hK K)
     refine Ax rfl (by kernel_rfl) (fun K hK=>?_);go_big_op;refine hK _ _ (Ac _ _) ?_;clear hK K;refine Ax rfl (by kernel_rfl) (fun K hK=>?_);go_big_op;have PL:=zoQ 0 x ⟨by omega,by omega⟩ bf w8.drew;rw[show paV 0=.agg #[.int .i64 0,.int .i64 0]from rfl,Int.zero_add]at PL;refine PL.mono ?_;rintro e aI⟨rfl,J⟩;have S:=h_ ((a0.drew.later J l_).alloc (.cells #[.slice H no I,.int .i64 (paH x),.int .i64 (paL x)] 155));have aC:=h_ (aY.drew.trans (J.mono (by exact az)));have bS:D.heap.size<=aI.heap.size:=aC.size;refine hK _ _ (J.mono (by exact az)) ?_;unfold paV;clear PL J a0 aY bR bb;clear hK K;refine Ax rfl (by kernel_rfl) (fun K hK=>?_);go_big_op;refine hK _ _ (Ac _ _) ?_;clear hK K;refine Ax rfl (by kernel_rfl) (fun K hK=>?_);go_big_op;refine hK _ _ ((Ac _ _).alloc (by omega) _) ?_;clear hK K;refine Ax rfl (by kernel_rfl) (fun K hK=>?_);refine zt6 zeK D.heap.size v8 (zb4 ((.slice H no I:Value),(r,x))) ⟨aI.heap.size,0,none⟩ rfl S.o rfl rfl (zkP [((.slice H no I:Value),(r,x))] (by simp[Value.oneCell']) _ (by simp)) (zr1 aI ((.slice H no I:Value),(r,x))) (by rw[Ad];simp[zcG];omega) (by rw[Ad];simp;omega) (by simp;omega) D.heap.size D (aC.alloc (by omega) _) l_ ?_;intro bU aJ ay L aw _;refine hK _ _ ((Ac D.heap.size _).grown aw (by simp;omega) (fun g hg=>(S.lt hg).1)) ?_;have an:=h_ (show OwnG zcG aJ D.heap.size bU ((ts.take j++[((.slice H no I:Value),(r,x))]).map zb4)from by rw[AC];exact ay);have aj:=h_ L;have aH:D.heap.size<=aJ.heap.size:=L.size;have a2:=h_ (RD.o aJ (HQ.later L l_));clear ay L S aC aw;go_simp;clear hK K;refine Ak rfl rfl (by kernel_rfl) (fun K hK=>?_);go_big_quiet_op;refine hK _ ?_;clear hK K;refine Bk ?_;go_wp2_with (with_reducible refine ze3 (ts:=ts.take j++[((.slice H no I:Value),(r,x))]) (us:=ts.drop j) D.heap.size _ ?hs an.o vd ?hx a2.o ?h1 ?hn ?hbase D.heap.size D aj.o l_ ?_)
     case hs=>rfl
     case hx=>rfl
     case h1=>exact fun t E=>bn.o t (BZ E)
     case hn=>simp;omega
     case hbase=>exact aH
     intro bV bY Y a5 _;have T:=h_ (show OwnG zcG bY w1.heap.size bV ((ts.take j++((.slice H no I:Value),(r,x))::ts.drop j).map zb4)from by
      have e:ts.take j++[((.slice H no I:Value),(r,x))]++ts.drop j=ts.take j++((.slice H no I:Value),(r,x))::ts.drop j:=by simp
      rw[e]at Y;exact Y.base f)
     have ak:=h_ (y.trans (a5.mono f));have am:=h_ (show(ts.take j++((.slice H no I:Value),(r,x))::ts.drop j).map (·.2)=zdB cs (ps.take (k+1))from by
      rw[bo.o];unfold zdB;rw[Z.parts_snoc];rw[show Z.parts (cmpR cs) (ps.take k)=_ from HM.symm];exact zw0 bv HL.o aZ.o)
     have aq:=h_ (show ∀t∈ts.take j++((.slice H no I:Value),(r,x))::ts.drop j,RdE w t.1 t.2.1 from by
      intro t E;rcases AD.1 E with E|E
      .exact HT.o t (A9 E)
      .rcases Ba.1 E with rfl|E
       .exact U.o
       .exact HT.o t (BZ E))
     clear Y an aj a2 HQ;go_wp2;go_roundw
     case rel=>exact⟨k+1,_,_,rfl,by omega,by go_num,bK,am,aq,T,ak⟩
     simp[intOf];omega
    have aZ:=h_ (show j<ts.length->0<=cmpR cs (ts.getD j default).2.1 r/\(ts.getD j default).2.1≠r from fun h=>absurd h ax);clear bc al bI aX;go_wp2;go_quiet (fail);have a:Lz wr (wr.drewN nq):=_root_.Go.below_drewN (Ac wr.heap.size wr) nq;replace HQ:=h_ (HQ.later a l_);replace y:=h_ (y.trans (a.mono f));replace A:=bT A a;replace l:=za6 a l;replace s:=za6 a s;replace f:w1.heap.size<=(wr.drewN nq).heap.size:=y.size;clear a;generalize wr.drewN nq=wy at *;go_wp2;go_quiet (fail);have a:Lz wy (wy.drewN nq):=_root_.Go.below_drewN (Ac wy.heap.size wy) nq;replace HQ:=h_ (HQ.later a l_);replace y:=h_ (y.trans (a.mono f));replace A:=bT A a;replace l:=za6 a l;replace s:=za6 a s;replace f:w1.heap.size<=(wy.drewN nq).heap.size:=y.size;clear a;generalize wy.drewN nq=G at *;have C:=HQ.rd (by rw[Ad];omega);obtain⟨vt,be,aB⟩:=RdG.upto zeK C j (by rw[Ad];omega);obtain⟨vd,bd,aA⟩:=RdG.from zeK C j (by rw[Ad];omega);have RT:=h_ (show RdG zcG (G.alloc (.cells #[] 155)) vt ((ts.take j).map zb4)from by
     rw[Dg];exact aB _ (C.later zeK ((Ac _ _).alloc l_ _) l_))
    have RD:=h_ (show ∀wy,OwnG zcG wy w1.heap.size v (ts.map zb4)->RdG zcG wy vd ((ts.drop j).map zb4)from fun wy hz=>by
     rw[List.map_drop];exact aA _ (hz.rd (by rw[Ad];omega)))
    have cA:∀u,(Instr.slice 150 v none (some (.int .i64 (j:Int))) none).run prog u=.ok vt u:=be;have cz:∀u,(Instr.slice 150 v (some (.int .i64 (j:Int))) none none).run prog u=.ok vd u:=bd;clear be bd aB aA C;go_wp2_with (with_reducible refine ze3 (ts:=[]) (us:=ts.take j) G.heap.size _ ?hs (znA G G.heap.size l_) vt ?hx RT.o ?h1 ?hn ?hbase G.heap.size G ((Ac _ _).alloc l_ _) l_ ?_)
    case hs=>rfl
    case hx=>rfl
    case h1=>exact fun t E=>bn.o t (A9 E)
    case hn=>simp;omega
    case hbase=>simp
    intro v8 w8 aG V _;rw[AA]at aG;have ar:b<G.heap.size:=AI G _ l;have a0:=h_ aG;have aY:=h_ V;have az:G.heap.size<=w8.heap.size:=V.size;have au:=za6 (V.mono l_) l;have av:=za6 (V.mono l_) s;clear aG V l s;go_wp2;have bR:=fun z:OrdR.GW (Below G.heap.size) w8.drew=>(z.grew.cell (p:=⟨b,o,none⟩) ar).trans au;have bb:=fun z:OrdR.GW (Below G.heap.size) w8.drew=>(z.grew.cell (p:=⟨b,o+1,none⟩) ar).trans av;clear au av;refine AY (R:=Below G.heap.size) zm8 [(0,false),(1,false),(2,false),(3,false),(4,false),(5,false),(7,false),(8,false),(9,false),(10,false),(11,false),(6,true),(12,true),(13,true),(14,true),(15,true),(16,false)] (by kernel_rfl) rfl (by kernel_rfl) (by kernel_rfl) (fun _ _ _ d _ h=>by cases d<;>exact h) ?_;iterate 11 (refine Ak rfl rfl (by kernel_rfl) (fun K hK=>?_);go_big_quiet_op;refine hK _ ?_;clear hK K)
    refine Ax rfl (by kernel_rfl) (fun K hK=>?_);go_big_op;refine hK _ _ (Ac _ _) ?_;clear hK K;refine Ax rfl (by kernel_rfl) (fun K hK=>?_);go_big_op;have PL:=zoQ 0 x ⟨by omega,by omega⟩ bf w8.drew;rw[show paV 0=.agg #[.int .i64 0,.int .i64 0]from rfl,Int.zero_add]at PL;refine PL.mono ?_;rintro e aI⟨rfl,J⟩;have S:=h_ ((a0.drew.later J l_).alloc (.cells #[.slice H no I,.int .i64 (paH x),.int .i64 (paL x)] 155));have aC:=h_ (aY.drew.trans (J.mono (by exact az)));have bS:G.heap.size<=aI.heap.size:=aC.size;refine hK _ _ (J.mono (by exact az)) ?_;unfold paV;clear PL J a0 aY bR bb;clear hK K;refine Ax rfl (by kernel_rfl) (fun K hK=>?_);go_big_op;refine hK _ _ (Ac _ _) ?_;clear hK K;refine Ax rfl (by kernel_rfl) (fun K hK=>?_);go_big_op;refine hK _ _ ((Ac _ _).alloc (by omega) _) ?_;clear hK K;refine Ax rfl (by kernel_rfl) (fun K hK=>?_);refine zt6 zeK G.heap.size v8 (zb4 ((.slice H no I:Value),(r,x))) ⟨aI.heap.size,0,none⟩ rfl S.o rfl rfl (zkP [((.slice H no I:Value),(r,x))] (by simp[Value.oneCell']) _ (by simp)) (zr1 aI ((.slice H no I:Value),(r,x))) (by rw[Ad];simp[zcG];omega) (by rw[Ad];simp;omega) (by simp;omega) G.heap.size G (aC.alloc (by omega) _) l_ ?_;intro bU aJ ay L aw _;refine hK _ _ ((Ac G.heap.size _).grown aw (by simp;omega) (fun g hg=>(S.lt hg).1)) ?_;have an:=h_ (show OwnG zcG aJ G.heap.size bU ((ts.take j++[((.slice H no I:Value),(r,x))]).map zb4)from by rw[AC];exact ay);have aj:=h_ L;have aH:G.heap.size<=aJ.heap.size:=L.size;have a2:=h_ (RD.o aJ (HQ.later L l_));clear ay L S aC aw;go_simp;clear hK K;refine Ak rfl rfl (by kernel_rfl) (fun K hK=>?_);go_big_quiet_op;refine hK _ ?_;clear hK K;refine Bk ?_;go_wp2_with (with_reducible refine ze3 (ts:=ts.take j++[((.slice H no I:Value),(r,x))]) (us:=ts.drop j) G.heap.size _ ?hs an.o vd ?hx a2.o ?h1 ?hn ?hbase G.heap.size G aj.o l_ ?_)
    case hs=>rfl
    case hx=>rfl
    case h1=>exact fun t E=>bn.o t (BZ E)
    case hn=>simp;omega
    case hbase=>exact aH
    intro bV bY Y a5 _;have T:=h_ (show OwnG zcG bY w1.heap.size bV ((ts.take j++((.slice H no I:Value),(r,x))::ts.drop j).map zb4)from by
     have e:ts.take j++[((.slice H no I:Value),(r,x))]++ts.drop j=ts.take j++((.slice H no I:Value),(r,x))::ts.drop j:=by simp
     rw[e]at Y;exact Y.base f)
    have ak:=h_ (y.trans (a5.mono f));have am:=h_ (show(ts.take j++((.slice H no I:Value),(r,x))::ts.drop j).map (·.2)=zdB cs (ps.take (k+1))from by
     rw[bo.o];unfold zdB;rw[Z.parts_snoc];rw[show Z.parts (cmpR cs) (ps.take k)=_ from HM.symm];exact zw0 bv HL.o aZ.o)
    have aq:=h_ (show ∀t∈ts.take j++((.slice H no I:Value),(r,x))::ts.drop j,RdE w t.1 t.2.1 from by
     intro t E;rcases AD.1 E with E|E
     .exact HT.o t (A9 E)
     .rcases Ba.1 E with rfl|E
      .exact U.o
      .exact HT.o t (BZ E))
    clear Y an aj a2 HQ;go_wp2;go_roundw
    case rel=>exact⟨k+1,_,_,rfl,by omega,by go_num,bK,am,aq,T,ak⟩
    simp[intOf];omega
   have HF:=h_ (aP.o a);have Q:=h_ (show clcE cs ps=d from by rw[HE.o,Ab (by rw[HF.o];exact a),HF.o]);have HX:=h_ (show clcO cs ps=[]from by unfold clcO;rw[Aa (by rw[Q.o];exact a)]);have q:((d:Int)!=0)=true:=(by rw[Ao];omega);clear aP aS HE;go_wp2_with fail;refine(aN.o _ (af.trans (HB.mono aa))).mono ?_;rintro e w3⟨rfl,ag⟩;have aX:=h_ ((af.trans (HB.mono aa)).trans (ag.mono (Ar aa HB.size)));clear ag;go_wp2;go_ret2;exact⟨_,by rw[Q.o];rfl,by rw[HX.o];exact NewP.nil _ _,aX.o⟩
  obtain rfl:k=n:=by omega
  obtain⟨wa,rfl⟩:=nm_ wr;have cy:ps.take k=ps:=Am (by rw[<-HN.o];exact l_);rw[cy]at HV HM;have cl:firstE cs ps=0:=firstE_zero.2 HV.o;have b5:=h_ (show clcE cs ps=if overB (ts.map (·.2))=true then 12 else if 1024<(Z.nz (ts.map (·.2))).length then 13 else 0 from by
   rw[HE.o,Aa (fun h9=>h9 cl),HM.o];rfl)
  have cT:=h_ (show clcE cs ps=0->clcO cs ps=Z.nz (ts.map (·.2))from fun h=>by
   unfold clcO;rw[Ab h,HM.o];rfl)
  have cR:=h_ (show ∀t∈ts,CES t.2.1/\t.2.1.length<=8 from fun t E=>by
   obtain⟨q,hq,e⟩:=(Z.parts_has (cmp:=cmpR cs) ps t.2.1).1 ⟨t.2,by rw[show Z.parts (cmpR cs) ps=_ from HM.symm];exact C5 E,rfl⟩;rw[<-e];have:=HV.o q hq;obtain⟨_,h2,_⟩:=zaQ this;exact⟨(hP q hq).1,by omega⟩)
  have bE:w1.heap.size<=wa.heap.size:=HB.size;have A:=h_ (af.trans (HB.mono aa));obtain⟨m,hm⟩:=nm_ ts.length;rw[<-hm]at bO c6;have aR:=h_ hm;clear cy cl HE C hm cq;go_wp2;go_loopw [11,12] (fun tv i wq=>∃(j:Nat)(tx:Value),tx=tv/\j<=m/\i=.int .i64 j/\Hid (overB ((ts.map (·.2)).take j)=false)/\Hid (OwnPN wq wa.heap.size w.heap.size tx (Z.nz ((ts.map (·.2)).take j)))/\Hid (Lz wa wq)) (fun _ i _=>m-(intOf i).toNat)
  case atStart=>exact⟨0,_,rfl,by omega,rfl,h_ rfl,h_ (OwnPN.nil _ _ _),h_ (Ac _ _)⟩
  obtain⟨j,tx,rfl,hj,rfl,bJ,a1,HC⟩:=hrel;by_cases bv:j<m
  .have a9:j<ts.length:=(by rw[<-aR.o];exact bv);obtain⟨gp,op,a8,c1,a6⟩:=partAt HO.o (by have:=aR.o;omega) a9;obtain⟨e0,e1,e2,_⟩:=a6 _ ts rfl HO.o;replace e0:=za6 HC.o e0;replace e1:=za6 HC.o e1;replace e2:=za6 HC.o e2;have M:ts.getD j default∈ts:=(by simp[List.getD,a9]);have ac:=HT.o _ M;obtain⟨aF,ci⟩:=cR.o _ M;have ba:j<(ts.map (·.2)).length:=(by simpa using a9);have cn:(ts.map (·.2)).getD j default=(ts.getD j default).2:=(by simp[List.getD,a9]);have ap:=h_ (zxS _ j ba bJ.o);have aE:=h_ (zH5 _ j ba);rw[cn]at ap aE;obtain⟨tp,aU⟩:=nm_ (ts.getD j default);rw[<-aU]at e0 e1 e2 ac aF ci ap aE;clear aU M a6 a9 ba cn;rcases tp with⟨tv,tr,X⟩
   dsimp only at e0 e1 e2 ac aF ci ap aE;have WH:=h_ (zA9 X);unfold paV at WH;by_cases hX:i64 X
   .rw[zI8 hX]at ap WH;rw[zI7 hX]at WH;have bx:=h_ (show overB ((ts.map (·.2)).take (j+1))=false from by rw[ap.o];rfl);have f:wa.heap.size<=wr.heap.size:=HC.size;clear ap;go_wp2_with fail;refine(WH.o _).mono ?_;rintro e w4⟨rfl,N⟩;replace e0:=za6 N e0;have aL:=h_ (a1.later N l_);have aO:=h_ (HC.trans (N.mono f));have bD:wa.heap.size<=w4.heap.size:=aO.size;clear N a1 HC e1 e2 WH;by_cases a4:X=0
    .rw[Ab a4,AV]at aE;subst a4;go_wp2;go_roundw
     case rel=>exact⟨j+1,_,rfl,by omega,by go_num,bx,by rw[aE.o];exact aL,aO⟩
     simp[intOf];omega
    rw[Aa a4]at aE;have dq:(X !=0)=true:=(by rw[Ao];exact a4);have bC:=(ac.later (A.trans (aO.mono A.size)) l_).later ((Ac w4.heap.size w4).alloc l_ (.cells #[] 65)) l_;have U:=h_ bC;have ca:=h_ (znB w4 w4.heap.size l_);have dn:gp<w4.heap.size:=AI w4 _ e0;clear bC a4 ac;go_wp2_with (with_reducible refine zfP w4.heap.size _ ?hs ca.o tv ?hx U.o ?hn ?hbase w4.heap.size w4 ((Ac _ _).alloc l_ _) l_ ?_)
    case hs=>rfl
    case hx=>rfl
    case hn=>simp;omega
    case hbase=>simp
    intro v5 w5 aT bs _;rw[AA]at aT;obtain⟨H,no,I,rfl⟩:=(aT.rd (by omega)).lit;have dg:w4.heap.size<=w5.heap.size:=bs.size;have b9:=h_ ((aL.later bs l_).alloc (.cells #[.slice H no I,.int .i64 X] 69));have cc:=h_ ((aT.rd (by omega)).later ((Ac w5.heap.size w5).alloc l_ (.cells #[.slice H no I,.int .i64 X] 69)) l_);have b6:=h_ (fun g(hg:tx.ownBlock=some g)=>aT.offB (aL.lt hg).2);have cO:=h_ (zB8 (b:=w.heap.size) aT (Ar A.size bD));have b3:=h_ ((aO.trans (bs.mono bD)).alloc (by omega) (.cells #[.slice H no I,.int .i64 X] 69));have b7:=h_ (AB w5 (.cells #[.slice H no I,.int .i64 X] 69));have aQ:=h_ (show(Z.nz ((ts.map (·.2)).take j)).length<=4000 from by
     have h2:((ts.map (·.2)).take j).length<=j:=by rw[Aq];omega
     exact Ar (Ca _ _) (by omega))
    clear aT bs U ca aL;go_wp2_with (with_reducible refine zpX wa.heap.size _ ?hs b9.o w5.heap.size (.slice H no I) (tr,X) ?hx b7.o cc.o b6.o cO.o ?hn ?hbase wa.heap.size wa b3.o l_ ?_)
    case hs=>rfl
    case hx=>rfl
    case hn=>have:=aQ.o;omega
    case hbase=>simp;omega
    intro v6 D cu ce _ _;have cP:=h_ (show OwnPN D wa.heap.size w.heap.size v6 (Z.nz ((ts.map (·.2)).take (j+1)))from by rw[aE.o];exact cu);have cL:=h_ ce;clear cu ce b9 cc b6 b3 b7 aQ;go_wp2;go_roundw
    case rel=>exact⟨j+1,_,rfl,by omega,by go_num,bx,cP,cL⟩
    simp[intOf];omega
   rw[zGI hX]at ap WH;rw[zGH hX]at WH;have cQ:=h_ (show overB (ts.map (·.2))=true from zxR (k:=j+1) (by rw[ap.o];rfl));have Q:=h_ (show clcE cs ps=12 from by rw[b5.o,Ab cQ.o]);have HX:=h_ (show clcO cs ps=[]from by unfold clcO;rw[Aa (by rw[Q.o];decide)]);have f:wa.heap.size<=wr.heap.size:=HC.size;go_wp2_with fail;refine(WH.o _).mono ?_;rintro e w4⟨rfl,N⟩;have aO:=h_ (A.trans ((HC.trans (N.mono f)).mono A.size));clear N;go_wp2;go_ret2;exact⟨_,by rw[Q.o];rfl,by rw[HX.o];exact NewP.nil _ _,aO.o⟩
  obtain rfl:j=m:=by omega
  have cx:(ts.map (·.2)).take j=ts.map (·.2):=Am (by rw[Ad,<-aR.o];exact l_);rw[cx]at bJ a1;have aQ:=h_ (show(Z.nz (ts.map (·.2))).length<=4000 from by
   exact Ar (Ca _ _) (by rw[Ad,<-aR.o];omega))
  have c3:=(a1.rd (by have:=aQ.o;omega)).len;have bH:=h_ (show clcE cs ps=if 1024<(Z.nz (ts.map (·.2))).length then 13 else 0 from by rw[b5.o,bJ.o];rfl);obtain⟨q,hq⟩:=nm_ ((Z.nz (ts.map (·.2))).length);rw[<-hq]at c3 bH aQ;have cS:=h_ hq;clear cx hq;have b4:=bT A HC.o;by_cases cv:1024<q
  .have Q:=h_ (show clcE cs ps=13 from by rw[bH.o,Ab cv]);have HX:=h_ (show clcO cs ps=[]from by unfold clcO;rw[Aa (by rw[Q.o];decide)]);go_wp2;go_ret2;exact⟨_,by rw[Q.o];rfl,by rw[HX.o];exact NewP.nil _ _,b4.o⟩
  have Q:=h_ (show clcE cs ps=0 from by rw[bH.o,Aa cv]);go_wp2;go_ret2;exact⟨_,by rw[Q.o];rfl,by rw[cT.o Q.o];exact a1.new (by rw[<-cS.o];have:=aQ.o;omega) A.size,b4.o⟩
 have HE:=h_ (show clcE cs ps=c from by unfold clcE;rw[Ab (by omega),hc]);have HX:=h_ (show clcO cs ps=[]from by unfold clcO;rw[Aa (by rw[HE.o];exact cj)]);have q:((c:Int)!=0)=true:=by rw[Ao];omega
 clear hc;go_enter func60,ntmps60;go_wp2_with fail;refine CK.mono ?_;rintro e w1⟨rfl,N⟩;have af:=h_ N;clear N CK;go_wp2;go_ret2;exact⟨_,by rw[HE.o];rfl,by rw[HX.o];exact NewP.nil _ _,af.o⟩
/- -/
def zx8(V v2 v3:Value)(cs:List ColB)(a b:List PairB)(w:World)(Y:RdC w V cs)(h2:RdP w v2 a)(h3:RdP w v3 b)(hC:CS cs)(hA:PSO a)(hB:PSO b) :Calls prog 119 #[V,v2,v3] w fun e w'=>∃v,e=.returned (.tuple #[v,.int .i64 (sumE cs a b:Nat)])/\NewP w' w.heap.size v (sumO cs a b)/\Lz w w':=by
 have l:=h_ (zcZ V v2 cs a w Y h2 hC hA);have s:=h_ (fun u(Z:Lz w u)=>zcZ V v3 cs b u (Y.later Z l_) (h3.later Z l_) hC hB);have X:=h_ (fun u v ps(Z:Lz w u)(hp:RdP u v ps)(hP:PSO ps)(hl:ps.length<=4000)=>zfS V v cs ps u (Y.later Z l_) hp hC hP hl);have H2:=h_ h2;have H3:=h_ h3;clear Y h2 h3;obtain⟨x,hx⟩:=nm_ (chkZ cs a);obtain⟨y,t⟩:=nm_ (chkZ cs b);rw[<-hx]at l;rw[<-t]at s;by_cases T:x=0
 .subst T;have az:a.length<=1024:=((zb9 hA).1 hx.symm).2.1;by_cases U:y=0
  .subst U;have aA:b.length<=1024:=((zb9 hB).1 t.symm).2.1;have k:=h_ (show sumE cs a b=clcE cs (a++b)from by unfold sumE;rw[Aa (by omega),Aa (by omega)]);have H:=h_ (show sumO cs a b=clcO cs (a++b)from by unfold sumO clcO;rw[k.o]);clear hx t;go_enter func119,ntmps119;go_wp2_with fail;refine l.mono ?_;rintro e w1⟨rfl,d⟩;have c:=h_ d;clear d l;go_wp2_with fail;refine(s.o _ c.o).mono ?_;rintro e f⟨rfl,d⟩;have h:=bT c d;have N:w.heap.size<=f.heap.size:=h.size;clear d s c;obtain⟨us,r,ap,aq,S⟩:=(H2.later h.o l_).parts;obtain⟨ts,p,an,ao,Q⟩:=(H3.later h.o l_).parts;obtain⟨I,J⟩:=S _ 0 ((Ac f.heap.size f).alloc l_ (.cells #[] 69)) (.slice (some ⟨f.heap.size,0,none⟩) 0 0) (fun g M=>by injection M with M;exact CM M);have A:=h_ I;have C:=h_ J;have HO:=h_ (zxQ f f.heap.size l_);have aC:us.length<=1024:=(by have:=congrArg List.length r;rw[Ad]at this;omega);have aB:ts.length<=1024:=(by have:=congrArg List.length p;rw[Ad]at this;omega);have af:=h_ Q;have ah:=h_ r;have ag:=h_ p;clear ap aq S I J an ao Q r p;go_wp2_with (with_reducible refine zdH f.heap.size _ ?hs HO.o v2 ?hx us A.o C.o ?hn ?hbase f.heap.size f ((Ac _ _).alloc l_ _) l_ ?_)
   case hs=>rfl
   case hx=>rfl
   case hn=>simp;omega
   case hbase=>simp
   intro v4 w4 j i _ _;rw[AA]at j;obtain⟨I,J⟩:=af.o w4 0 i v4 (fun g M=>(j.lt M).1);have G:=h_ j;have z:=h_ i;have D:=h_ I;have E:=h_ J;have O:f.heap.size<=w4.heap.size:=i.size;clear A C HO I J j i;go_wp2_with (with_reducible refine zdH f.heap.size _ ?hs G.o v3 ?hx ts D.o E.o ?hn ?hbase f.heap.size f z.o l_ ?_)
   case hs=>rfl
   case hx=>rfl
   case hn=>rw[Ad];omega
   case hbase=>exact O
   intro v5 w5 n L _ _;rw[<-ah.o,<-ag.o]at n;have ae:=h_ (n.rd (by rw[Ae];omega));have m:=h_ (h.trans (L.mono N));clear n L G z D E;go_wp2_with fail;refine(X.o _ v5 (a++b) m.o ae.o (hA.append hB) (by rw[Ae];omega)).mono ?_;rintro e w6⟨v6,rfl,hp,d⟩;have ac:=bT m d;have ad:=h_ hp;clear hp d X;go_wp2;go_ret2;exact⟨_,by rw[k.o];rfl,by rw[H.o];exact ad.lower m.size,ac.o⟩
  have k:=h_ (show sumE cs a b=y from by unfold sumE;rw[Aa (by omega),Ab (by omega),t]);have H:=h_ (show sumO cs a b=[]from by unfold sumO;rw[Aa (by rw[k.o];exact U)]);have q:((y:Int)!=0)=true:=by rw[Ao];omega
  clear hx t X;go_enter func119,ntmps119;go_wp2_with fail;refine l.mono ?_;rintro e w1⟨rfl,d⟩;have c:=h_ d;clear d l;go_wp2_with fail;refine(s.o _ c.o).mono ?_;rintro e f⟨rfl,d⟩;have h:=bT c d;clear d s c;go_wp2;go_ret2;exact⟨_,by rw[k.o];rfl,by rw[H.o];exact NewP.nil _ _,h.o⟩
 have k:=h_ (show sumE cs a b=x from by unfold sumE;rw[Ab (by omega),hx]);have H:=h_ (show sumO cs a b=[]from by unfold sumO;rw[Aa (by rw[k.o];exact T)]);have q:((x:Int)!=0)=true:=by rw[Ao];omega
 have q2:((x:Int)==0)=false:=by rw[As];omega
 clear hx t X s;go_enter func119,ntmps119;go_wp2_with fail;refine l.mono ?_;rintro e w1⟨rfl,d⟩;have c:=h_ d;clear d l;go_wp2;go_ret2;exact⟨_,by rw[k.o];rfl,by rw[H.o];exact NewP.nil _ _,c.o⟩
end
