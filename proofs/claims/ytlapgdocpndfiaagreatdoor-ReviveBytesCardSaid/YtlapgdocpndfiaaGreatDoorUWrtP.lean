/- -/
import Derived.Test.YtlapgdocpndfiaaGreatDoorUWrtM
import Derived.Test.YtlapgdocpndfiaaGreatDoorUTrcR
set_option maxHeartbeats 16000000
set_option linter.unusedVariables false
set_option linter.unusedSimpArgs false
set_option maxRecDepth 1000000
namespace Go.Proofs.YtlapgdocpndfiaaGreatDoor
open _root_.Go.Proofs.Tryz
open Go.RowKit Go.Shelf
theorem zqM {w w4 w5 w8:World} {N g:Nat} {bv bn sv vv vn xv:Value} {cs:List ColB} {es es':List EntB} {Q:Nat->Prop} {L B:Bs} {V:List PairB} {n s S:Int}
  (hW:Wr w N g bv cs es Q) (hQ:∀ j,Q j->j < w.heap.size) (hbox:Wbox w5 g sv bv n s vv) (hS:OffG colE w sv (cs.map colV) (Ban Q g bv))
  (hb4:Below w.heap.size w w4) (hb5:Below w4.heap.size w4 w5) (hx:Own w5 w4.heap.size xv B) (hv:NewP w4 w.heap.size vn V)
  (ho8:Own w8 N bn (L ++ B)) (hg8:w5.grownBy w8 bv.ownBlock) (hp8:Place w5 bv bn) (ht:TrS cs es') (hT:trE cs es'=(L ++ B,S,V,es.length + 1,0)) (hl:es'.length=es.length + 1) :
  StO w N g bv cs Q 0 B es' (.returned (.tuple #[xv,.int .i64 0])) ((((w8.setCell ⟨g,1,none⟩ bn).setCell ⟨g,2,none⟩ (.int .i64 ((es.length:Int) + 1))).setCell ⟨g,3,none⟩ (.int .i64 S)).setCell ⟨g,4,none⟩ vn):=by
 have hgw:=hW.lt;have hbw:∀ k,bv.ownBlock=some k->k < w.heap.size:=fun k hk=>(hW.own.lt14 hk).2;have h45:=hb5.size;have hw4:=hb4.size;have hxw:∀ k,xv.ownBlock=some k->w4.heap.size<=k/\k < w5.heap.size:=fun k hk=>hx.lt14 hk;have hbn:∀ k,bn.ownBlock=some k->bv.ownBlock=some k∨w5.heap.size<=k:=fun k hk=>by
  rcases hp8 with e | hp
  ·exact .inl (by rw [<- e];exact hk)
  exact .inr (hp k hk)
 have hbng:bn.ownBlock≠some g:=fun e=>by
  rcases hbn g e with h | h
  ·exact hW.apart h
  omega
 have h8:Wbox w8 g sv bv n s vv:=(hg8.block g (by omega) fun e=>hW.apart e.symm).trans hbox;have O5:Only (fun j=>j=g∨bv.ownBlock=some j) w w5:=ze3 (hb4.trans (hb5.mono hw4)) l_;have O8:Only (fun j=>j=g∨bv.ownBlock=some j) w5 w8:=(Only.by14 hg8).mono fun j hj=>.inr hj;have Og:Only (fun j=>j=g) w8 ((((w8.setCell ⟨g,1,none⟩ bn).setCell ⟨g,2,none⟩ (.int .i64 ((es.length:Int) + 1))).setCell ⟨g,3,none⟩ (.int .i64 S)).setCell ⟨g,4,none⟩ vn) :=
  ((((Only.refl (fun j=>j=g) w8).setCell (p:=⟨g,1,none⟩) rfl _).setCell (p:=⟨g,2,none⟩) rfl _).setCell (p:=⟨g,3,none⟩) rfl _).setCell (p:=⟨g,4,none⟩) rfl _
 have hbx:=h8.set bn ((es.length:Int) + 1) S vn;obtain ⟨w9,hw9⟩:=nm_ ((((w8.setCell ⟨g,1,none⟩ bn).setCell ⟨g,2,none⟩ (.int .i64 ((es.length:Int) + 1))).setCell ⟨g,3,none⟩ (.int .i64 S)).setCell ⟨g,4,none⟩ vn);rw [<- hw9] at Og hbx ⊢;have O9:Only (fun j=>j=g∨bv.ownBlock=some j) w5 w9:=O8.trans (Og.mono fun j hj=>.inl hj);have O09:Only (fun j=>j=g∨bv.ownBlock=some j) w w9:=O5.trans O9;have O49:Only (fun j=>j=g∨bv.ownBlock=some j) w4 w9:=(ze3 hb5 l_).trans O9;have hban:∀ j,j < w.heap.size->¬ Ban Q g bv j->¬ (Ban Q g bv j∨Ban (fun j=>Q j∨xv.ownBlock=some j) g bn j):=fun j hj hn hq=>by
  rcases hq with hq | (hq | hq) | hq | hq
  ·exact hn hq
  ·exact hn (.inl hq)
  ·have:=(hxw j hq).1;omega
  ·exact hn (.inr (.inl hq))
  rcases hbn j hq with h | h
  ·exact hn (.inr (.inr h))
  omega
 have hnew:∀ j,j < w4.heap.size->¬ (j < w.heap.size)->¬ (j < w.heap.size∨Ban (fun j=>Q j∨xv.ownBlock=some j) g bn j):=fun j hj hn hq=>by
  rcases hq with hq | (hq | hq) | hq | hq
  ·exact hn hq
  ·have:=hQ j hq;omega
  ·have:=(hxw j hq).1;omega
  ·omega
  rcases hbn j hq with h | h
  ·have:=hbw j h;omega
  omega
 refine ⟨xv,bn,rfl,(hx.base hw4).stay O9 fun q hq hs=>?_,⟨ht,hW.from_,?_,hbng,fun j hj=>?_,sv,vn,?_,?_,?_⟩,O09,?_⟩
 ·have:=(hxw q hq).1;rcases hs with hs | hs
  ·omega
  have:=hbw q hs;omega
 ·rw [hT];exact ho8.stay Og fun q hq hs=>by subst hs;exact hbng hq
 ·rcases hj with hj | hj
  ·refine ⟨(hW.free j hj).1,fun e=>?_⟩;rcases hbn j e with h | h
   ·exact (hW.free j hj).2 h
   have:=hQ j hj;omega
  have:=hxw j hj;refine ⟨by omega,fun e=>?_⟩;rcases hbn j e with h | h
  ·have:=hbw j h;omega
  omega
 ·rw [hT,hl];push_cast;exact hbx
 ·refine OffG.more (Q:=fun j=>Ban Q g bv j∨Ban (fun j=>Q j∨xv.ownBlock=some j) g bn j) ((hS.more zcS hban).keep zcS fun j hj hn=>O09.block j hj fun hs=>hn (.inl (.inr hs))) zcS fun j _ hn hq=>hn (.inr hq)
 ·rw [hT];refine OffS.more (Q:=fun j=>j < w.heap.size∨Ban (fun j=>Q j∨xv.ownBlock=some j) g bn j) (((hv.offS (Q:=fun j=>j < w.heap.size) fun j hj hn=>by omega).more hnew).keep fun j hj hn=>O49.block j hj fun hs=>?_) fun j _ hn hq=>hn (.inr hq);rcases hs with hs | hs
  ·exact hn (.inl (by omega))
  exact hn (.inl (hbw j hs))
 rcases hp8 with e | hp
 ·exact .inl e
 exact .inr fun k hk=>by have:=hp k hk;omega
theorem zDY {cs:List ColB} {es:List EntB} {x:EntB} {E:Nat} (hE:E=apE cs (trE cs es).2.1 (trE cs es).2.2.1 x) (h:E≠0):layE cs es x=E/\layB cs es x=[]/\layS cs es x=es:=by
 have h1:layE cs es x=E:=by unfold layE;rw [<- hE,if_pos h]
 unfold layB layS;rw [h1,if_neg h,if_neg h];exact ⟨rfl,rfl,rfl⟩
theorem zDX {cs:List ColB} {es:List EntB} {x:EntB} {R:Bs × Nat} (hE:apE cs (trE cs es).2.1 (trE cs es).2.2.1 x=0) (hR:R=entW cs x) (h:R.2≠0):layE cs es x=R.2/\layB cs es x=[]/\layS cs es x=es:=by
 have h1:layE cs es x=R.2:=by unfold layE;rw [hE,if_neg (fun h=>h rfl),hR]
 unfold layB layS;rw [h1,if_neg h,if_neg h];exact ⟨rfl,rfl,rfl⟩
theorem zyN {cs:List ColB} {es:List EntB} {x:EntB} {R:Bs × Nat} (hE:apE cs (trE cs es).2.1 (trE cs es).2.2.1 x=0) (hR:R=entW cs x) (h:R.2=0):layE cs es x=0/\layB cs es x=R.1/\layS cs es x=es ++ [x]:=by
 have h1:layE cs es x=0:=by unfold layE;rw [hE,if_neg (fun h=>h rfl),<- hR,h]
 unfold layB layS;rw [h1,if_pos rfl,if_pos rfl,<- hR];exact ⟨rfl,rfl,rfl⟩
theorem ztW (N g:Nat) (bv ev:Value) (cs:List ColB) (es:List EntB) (x:EntB) (Q:Nat->Prop) (w:World) (hW:Wr w N g bv cs es Q) (hQ:∀ j,Q j->j < w.heap.size) (hl:es.length < 4096) (hE:RdN w ev x) (hX:EnO x) (hT:Tabs w) (hF:Frs w) :
  Calls prog 79 #[.pointer (some ⟨g,0,none⟩),ev] w (StO w N g bv cs Q (layE cs es x) (layB cs es x) (layS cs es x)):=by
 obtain ⟨kd,s2,ps⟩:=x;obtain ⟨pv,rfl,hP⟩:=hE;dsimp only at hP;obtain ⟨ap,np,cp,rfl⟩:=hP.lit12;obtain ⟨sv,vv,hB,hS,hV⟩:=hW.box;have hR:RdC w sv cs:=hS.1;obtain ⟨av,nv,cv,rfl⟩:=hV.rd.lit12;obtain ⟨ac,nc,cc,rfl⟩:=hR.lit12;obtain ⟨ab,nb,cb,rfl⟩:=hW.own.lit13;obtain ⟨N1,N2⟩:=za7 w (.cells #[.int .i64 kd,.int .i64 s2,.slice ap np cp] 92);obtain ⟨w0,hw0⟩:=nm_ (w.alloc (.cells #[.int .i64 kd,.int .i64 s2,.slice ap np cp] 92));rw [<- hw0] at N1 N2;obtain ⟨eb,hg⟩:=nm_ w.heap.size;rw [<- hg] at N1;have HE0:=h_ (show Ebox w0 eb kd s2 (.slice ap np cp) from N1);have HX0:=h_ (hB.later N2);have HB0:=h_ N2;have HW0:=h_ hw0;have HG:=h_ hg;have HWR:=h_ hW;have HQ:=h_ hQ;have HS:=h_ hS;have ht:=hW.trs;have hlen:es.length + 1<=4096:=by omega
 have hsm:=ht.small
 have AP:=h_ (fun wz (hz:Below w0.heap.size w0 wz)=>by
  have hz':Below w.heap.size w wz:=N2.trans (hz.mono N2.size)
  exact (zhP (.slice ac nc cc) (.slice av nv cv) (.agg #[.int .i64 kd,.int .i64 s2,.slice ap np cp]) cs (trE cs es).2.1 (trE cs es).2.2.1 (kd,s2,ps) wz (hR.later hz' l_) (hV.rd.later hz' l_) ⟨_,rfl,hP.later hz' l_⟩ ht.sch ht.pso hX ht.inw (hT.later hz')).mono
   (fun e w' h=>show (∃ rv,e=.returned (.tuple #[.int .i64 (apN cs (trE cs es).2.1 (trE cs es).2.2.1 (kd,s2,ps)),rv,.int .i64 (apE cs (trE cs es).2.1 (trE cs es).2.2.1 (kd,s2,ps):Nat)])/\NewP w' w.heap.size rv (apV cs (trE cs es).2.1 (trE cs es).2.2.1 (kd,s2,ps)))/\Below w0.heap.size w0 w' from by
    obtain ⟨rv,he,hn,hb⟩:=h
    exact ⟨⟨rv,he,hn.lower hz'.size⟩,hz.trans (hb.mono hz.size)⟩))
 have WRT:=h_ (fun w6 (h6:Below w0.heap.size w0 w6) wz (hz:Below w6.heap.size w6 wz)=>by
  have h6':Below w.heap.size w w6:=N2.trans (h6.mono N2.size)
  have hz':Below w.heap.size w wz:=h6'.trans (hz.mono h6'.size)
  exact (zk1 (.slice ac nc cc) (.agg #[.int .i64 kd,.int .i64 s2,.slice ap np cp]) cs (kd,s2,ps) wz (hR.later hz' l_) ⟨_,rfl,hP.later hz' l_⟩ ht.sch hX (hT.later hz') (hF.later hz')).mono
   (fun e w' h=>show (∃ rv,e=.returned (.tuple #[rv,.int .i64 ((entW cs (kd,s2,ps)).2:Nat)])/\Own w' w6.heap.size rv (entW cs (kd,s2,ps)).1)/\Below w6.heap.size w6 w' from by
    obtain ⟨rv,he,hn,hb⟩:=h
    exact ⟨⟨rv,he,hn.base hz.size⟩,hz.trans (hb.mono hz.size)⟩))
 have L1:=fun E h k=>zDY (cs:=cs) (es:=es) (x:=(kd,s2,ps)) (E:=E) h k;have L2:=fun R h k l=>zDX (cs:=cs) (es:=es) (x:=(kd,s2,ps)) (R:=R) h k l;have L3:=fun R h k l=>zyN (cs:=cs) (es:=es) (x:=(kd,s2,ps)) (R:=R) h k l;have NX:=fun h=>ztG (cs:=cs) (es:=es) (x:=(kd,s2,ps)) ht hl hX h;have hwl:=entW_small cs (kd,s2,ps);obtain ⟨E,hEd⟩:=nm_ (apE cs (trE cs es).2.1 (trE cs es).2.2.1 (kd,s2,ps));obtain ⟨V,hVd⟩:=nm_ (apV cs (trE cs es).2.1 (trE cs es).2.2.1 (kd,s2,ps));obtain ⟨S,hSd⟩:=nm_ (apN cs (trE cs es).2.1 (trE cs es).2.2.1 (kd,s2,ps));obtain ⟨R,hWd⟩:=nm_ (entW cs (kd,s2,ps));have HL1:=h_ (L1 E hEd);rw [<- hEd,<- hVd,<- hSd] at AP;rw [<- hEd] at L2 L3;have HL2:=h_ (fun h=>L2 R h hWd);have HL3:=h_ (fun h=>L3 R h hWd);rw [<- hWd] at WRT hwl NX;rw [<- hVd,<- hSd] at NX;have HNX:=h_ NX;have HWL:=h_ hwl;have HSM:=h_ hsm;have HOW:=h_ hW.own;have hNg:=hW.from_;have hgl:=hB.lt;obtain ⟨LE,hLE⟩:=nm_ (layE cs es (kd,s2,ps));obtain ⟨LB,hLB⟩:=nm_ (layB cs es (kd,s2,ps));obtain ⟨LS,hLS⟩:=nm_ (layS cs es (kd,s2,ps));rw [<- hLE,<- hLB,<- hLS] at HL1 HL2 HL3 ⊢;rw [<- hLE] at HNX;have q0:=HX0.cells;obtain ⟨L,hLd⟩:=nm_ ((trE cs es).1);obtain ⟨sq,hsq⟩:=nm_ ((trE cs es).2.1);rw [<- hLd] at HOW HNX HSM;rw [<- hsq] at HX0 AP;obtain ⟨m,hm⟩:=nm_ es.length;have HM:=h_ hm;rw [<- hm] at HX0 HNX hlen;have Q1:=h_ (fun wz (hz:Below w0.heap.size w0 wz)=>And.intro hz (And.intro (HX0.later hz).cells.1 (And.intro (HX0.later hz).cells.2.2.2.1 (And.intro (HX0.later hz).cells.2.2.2.2 (And.intro (HE0.later hz).cells.1 (And.intro (HE0.later hz).cells.2.1 (HE0.later hz).cells.2.2))))));have Q4:=h_ (fun w6 (h6:Below w0.heap.size w0 w6) wz (hz:Below w6.heap.size w6 wz)=>And.intro hz (And.intro ((HX0.later h6).later hz).cells.1 (And.intro ((HE0.later h6).later hz).cells.1 (And.intro ((HE0.later h6).later hz).cells.2.1 ((HE0.later h6).later hz).cells.2.2))));clear N1 N2 hw0 hg hW hQ hS hB hV hR hP hX hT hF ht hsm hl L1 L2 L3 NX hwl hEd hVd hSd hWd hLE hLB hLS q0 hLd hsq hm;have m0:Below w0.heap.size w0 w0.drew:=(Below.refl _ _).drew;go_enter func79,ntmps79;go_wp2_with fail;rw [<- HW0.o,<- HG.o];by_cases hE0:E=0
 ·subst hE0;go_region_held3 (fun z=>Below w0.heap.size w0 z/\z.cell? ⟨g,0,none⟩=some (.slice ac nc cc)/\z.cell? ⟨g,3,none⟩=some (.int .i64 sq)/\z.cell? ⟨g,4,none⟩=some (.slice av nv cv)/\z.cell? ⟨eb,0,none⟩=some (.int .i64 kd)/\z.cell? ⟨eb,1,none⟩=some (.int .i64 s2)/\z.cell? ⟨eb,2,none⟩=some (.slice ap np cp)) (first | (exact Q1.o _ m0) | go_keep)
   ((first
    | (go_at_call 100;refine (AP.o _ (by assumption)).mono ?_;rintro e w6 ⟨⟨rv,rfl,hrv⟩,m3⟩;clear m0;have m0:=m3;clear m3)))
  obtain ⟨ar,nr,cr,rfl⟩:=hrv.rd.lit12;have HV6:=h_ hrv;have HB6:=h_ m0;clear hrv AP Q1 m0;go_wp2_with fail;have m4:Below w6.heap.size w6 w6.drew:=(Below.refl _ _).drew;have Q5:=h_ (Q4.o w6 HB6.o);have WR5:=h_ (WRT.o w6 HB6.o);clear Q4 WRT;by_cases hR0:R.2=0
  ·obtain ⟨B,y⟩:=R;dsimp only at hR0;subst hR0;go_region_held3 (fun z=>Below w6.heap.size w6 z/\z.cell? ⟨g,0,none⟩=some (.slice ac nc cc)/\z.cell? ⟨eb,0,none⟩=some (.int .i64 kd)/\z.cell? ⟨eb,1,none⟩=some (.int .i64 s2)/\z.cell? ⟨eb,2,none⟩=some (.slice ap np cp)) (first | (exact Q5.o _ m4) | go_keep)
    ((first
     | (go_at_call 101;refine (WR5.o _ (by assumption)).mono ?_;rintro e w7 ⟨⟨xv,rfl,hxo⟩,m3⟩;clear m4;have m4:=m3;clear m3)))
   obtain ⟨ax,nx,cx,rfl⟩:=hxo.lit13;have hb7:Below w0.heap.size w0 w7:=HB6.trans (m4.mono HB6.size);have hx7:=HX0.later hb7;obtain ⟨c0,c1,c2,c3,c4⟩:=hx7.cells;have hbw7:=HB0.trans (hb7.mono HB0.size);have hown:=HOW.later hbw7 l_;have hxr:Rd w7 (.slice ax nx cx) B:=hxo.rd (by have:B.length<=1048591:=HWL.o;omega);have HX7:=h_ hx7;have HXO:=h_ hxo;have HB7:=h_ m4;have HS7:=h_ hbw7.size;clear hb7 hx7 hbw7 hxo m4 WR5 Q5;go_wp2_with (with_reducible refine zhA N (.slice ab nb cb) L ?hs hown _ B ?hx hxr ?hn ?hbase N w7 (Below.refl _ _) l_ ?_)
   case hs=>rfl
   case hx=>rfl
   case hn=>have h1:B.length<=1048591:=HWL.o;have h2:=HSM.o;omega
   case hbase=>have:=HS7.o;omega
   intro v8 w8 ho8 hb8 hg8 hp8;obtain ⟨a8,n8,k8,rfl⟩:=ho8.lit13;have hx8:Wbox w8 g (.slice ac nc cc) (.slice ab nb cb) (m:Int) sq (.slice av nv cv):=(hg8.block g (by have:=HS7.o;omega) fun e=>HWR.apart e.symm).trans HX7.o;obtain ⟨d0,d1,d2,d3,d4⟩:=hx8.cells;have f1:=hx8.free 1;have f2:=hx8.free 2;have f3:=hx8.free 3;have f4:=hx8.free 4;have H8:=h_ (And.intro ho8 (And.intro hg8 hp8));clear hown hxr ho8 hb8 hg8 hp8 c0 c1 c2 c3 c4 hx8;go_wp2;go_ret2;obtain ⟨z1,z2,z3⟩:=HL3.o (by simp) (by simp);obtain ⟨t1,t2⟩:=HNX.o z1;rw [z1,z2,z3];have hfin:=zqM (w4:=w6) HWR.o HQ.o HX7.o HS.o (HB0.trans (HB6.mono HB0.size)) HB7.o HXO.o HV6.o H8.1 H8.2.1 H8.2.2 t1 (by rw [HM.o] at t2;exact t2) (by simp);rw [<- HM.o] at hfin;exact hfin
  have q:((R.2:Int) != 0)=true:=by rw [bne_iff_ne];omega
  have HR0:=h_ hR0;clear hR0;go_region_held3 (fun z=>Below w6.heap.size w6 z/\z.cell? ⟨g,0,none⟩=some (.slice ac nc cc)/\z.cell? ⟨eb,0,none⟩=some (.int .i64 kd)/\z.cell? ⟨eb,1,none⟩=some (.int .i64 s2)/\z.cell? ⟨eb,2,none⟩=some (.slice ap np cp)) (first | (exact Q5.o _ m4) | go_keep)
   ((first
    | (go_at_call 101;refine (WR5.o _ (by assumption)).mono ?_;rintro e w7 ⟨⟨xv,rfl,hxo⟩,m3⟩;clear m4;have m4:=m3;clear m3)))
  obtain ⟨ax,nx,cx,rfl⟩:=hxo.lit13;have HB7:=bT HB6 m4;clear hxo m4 WR5 Q5;go_wp2;go_ret2;obtain ⟨z1,z2,z3⟩:=HL2.o (by simp) HR0.o;exact StO.no HWR.o (HB0.trans (HB7.mono HB0.size)) z1 z2 z3 rfl
 have q:((E:Int) != 0)=true:=by rw [bne_iff_ne];omega
 have HN:=h_ hE0;clear hE0;go_region_held3 (fun z=>Below w0.heap.size w0 z/\z.cell? ⟨g,0,none⟩=some (.slice ac nc cc)/\z.cell? ⟨g,3,none⟩=some (.int .i64 sq)/\z.cell? ⟨g,4,none⟩=some (.slice av nv cv)/\z.cell? ⟨eb,0,none⟩=some (.int .i64 kd)/\z.cell? ⟨eb,1,none⟩=some (.int .i64 s2)/\z.cell? ⟨eb,2,none⟩=some (.slice ap np cp)) (first | (exact Q1.o _ m0) | go_keep)
  ((first
   | (go_at_call 100;refine (AP.o _ (by assumption)).mono ?_;rintro e w6 ⟨⟨rv,rfl,hrv⟩,m3⟩;clear m0;have m0:=m3;clear m3)))
 obtain ⟨ar,nr,cr,rfl⟩:=hrv.rd.lit12;have HB6:=h_ m0;clear hrv AP Q1 m0 Q4 WRT;go_wp2;go_ret2;obtain ⟨z1,z2,z3⟩:=HL1.o HN.o;exact StO.no HWR.o (HB0.trans (HB6.mono HB0.size)) z1 z2 z3 rfl
theorem znY (N g:Nat) (bv:Value) (cs:List ColB) (es:List EntB) (Q:Nat->Prop) (w:World) (hW:Wr w N g bv cs es Q) :
  Calls prog 77 #[.pointer (some ⟨g,0,none⟩)] w fun e w'=>e=.returned (.int .i64 (if 4096<=es.length then 13 else 0))/\w=w':=by
 obtain ⟨sv,vv,hB,hS,hV⟩:=hW.box;obtain ⟨c0,c1,c2,c3,c4⟩:=hB.cells;obtain ⟨m,hm⟩:=nm_ es.length;rw [<- hm] at c2 ⊢;clear hW hB hS hV hm;by_cases h:4096<=m
 ·rw [if_pos h];have d:decide ((m:Int) ≥ 4096)=true:=decide_eq_true (by omega);clear h;go_enter func77,ntmps77;go_wp2;go_ret;exact ⟨rfl,rfl⟩
 rw [if_neg h];have d:decide ((m:Int) ≥ 4096)=false:=decide_eq_false (by omega);clear h;go_enter func77,ntmps77;go_wp2;go_ret;exact ⟨rfl,rfl⟩
/- -/
theorem zvL (c:ColB):∀ u ∈ colV c,u.oneCell'=true:=by
 intro u hu;simp [colV] at hu;rcases hu with rfl | rfl <;> rfl
theorem zi1 {w:World} {cs ds:List (List Value)} {ops:Array Oper} {Q:Exit->Act->World->Prop} {rest:List Oper} {a:Act} {dst:Option Tmp} {ty:TypeId} {pos:String} {aft:Array Edge} {s x:Operand}
  (base:Nat) (sv:Value) (hs:a.eval s=sv) (ho:OwnG colE w base sv cs) (xv:Value) (hx:a.eval x=xv) (hr:RdG colE w xv ds) (hone:∀ x ∈ ds,∀ u ∈ x,u.oneCell'=true)
  (hn:(cs.length + ds.length) * 24<=140737488355328) (hbase:base<=w.heap.size)
  (B:Nat) (w0:World) (hb:Below B w0 w) (hBb:B<=base)
  (h:∀ v' w',OwnG colE w' base v' (cs ++ ds)->Below B w0 w'->w.grownBy w' sv.ownBlock->wpList prog ops Q rest (a.put dst v') w') :
  wpList prog ops Q (⟨dst,.call ⟨.builtin .append,#[s,x],#[24,24]⟩,ty,pos,aft,none⟩ :: rest) a w :=
 zc2 (E:=colE) zcS base sv hs ho xv hx hr hone hn (by omega) hbase B w0 hb hBb h
theorem zvK (v:Value) (cs:List ColB) (w:World) (h:RdC w v cs) (hn:cs.length * 24<=140737488351360) :
  Calls prog 82 #[v] w fun e w'=>∃ v',e=.returned v'/\OwnC w' w.heap.size v' cs/\Below w.heap.size w w':=by
 obtain ⟨ao,cap,hv,hcap,hnil,_⟩:=RdG.shape h;generalize hgl:(cs.map colV).length=n9 at hv hcap;rw [List.length_map] at hgl;cases ao with
 | none =>
  obtain rfl:cap=0:=hnil rfl;obtain rfl:n9=0:=by omega
  obtain rfl:cs=[]:=List.eq_nil_of_length_eq_zero hgl;clear h hnil hcap hgl;subst hv;have hq:=fun u:World=>Lib.run_eql_slice_nil (P:=prog) u 24 79 none 0 0 0 0 underlying24;go_enter func82,ntmps82;go_wp2;go_ret;exact ⟨_,rfl,OwnC.nil _ _,Below.refl _ _⟩
 | some ad =>
  subst hv;have HR:=h_ (RdG.later h zcS ((Below.refl w.heap.size w).alloc l_ (.cells #[] 79)) l_)
  have H1:=h_ (show ∀ x ∈ cs.map colV,∀ u ∈ x,u.oneCell'=true from fun x hx u hu=>by
   obtain ⟨t,ht,rfl⟩:=List.mem_map.1 hx
   exact zvL t u hu)
  have HO:=h_ (show OwnG colE (w.alloc (.cells #[] 79)) w.heap.size (.slice (some ⟨w.heap.size,0,none⟩) 0 0) [] from zd6 colE w w.heap.size l_);have HB:=h_ ((Below.refl w.heap.size w).alloc l_ (.cells #[] 79));clear h hnil hcap hgl;have hq:=fun u:World=>Lib.run_eql_slice_nil (P:=prog) u 24 79 (some ad) n9 cap 0 0 underlying24;go_enter func82,ntmps82;go_wp2_with (with_reducible refine zi1 w.heap.size _ ?hs HO.o _ ?hx HR.o H1.o ?hn ?hbase w.heap.size w HB.o l_ ?_)
  case hs=>rfl
  case hx=>rfl
  case hn=>simp;omega
  case hbase=>simp
  intro v4 w4 ho4 hb4 _;rw [List.nil_append] at ho4;have HO4:=h_ ho4;have HB4:=h_ hb4;clear ho4 hb4;go_wp2;go_ret;exact ⟨_,rfl,HO4.o,HB4.o⟩
theorem zkL (v:Value) (l:Bs) (w:World) (h:Rd w v l) (hn:l.length<=70368744177664) :
  Calls prog 71 #[v] w (RetB w l):=by
 obtain ⟨ao,cap,hv,hcap,hnil,_⟩:=RdG.shape h.toG;have hgl:(oneB l).length=l.length:=by simp [oneB]
 rw [hgl] at hv hcap;obtain ⟨n9,hn9⟩:=nm_ l.length;rw [<- hn9] at hv hcap;cases ao with
 | none =>
  obtain rfl:cap=0:=hnil rfl;obtain rfl:n9=0:=by omega
  obtain rfl:l=[]:=List.eq_nil_of_length_eq_zero hn9.symm;clear h hnil hcap hgl hn9;subst hv;have hq:=fun u:World=>Lib.run_eql_slice_nil (P:=prog) u 22 5 none 0 0 0 0 underlying22;go_enter func71,ntmps71;go_wp2;go_ret;exact ⟨_,rfl,zaT _ _,Below.refl _ _⟩
 | some ad =>
  subst hv;have hr:=h.later ((Below.refl w.heap.size w).alloc l_ (.cells #[] 5)) l_;have ho:=own_empty w w.heap.size l_;have hb:=(Below.refl w.heap.size w).alloc l_ (.cells #[] 5);clear h hnil hcap hgl hn9;have hq:=fun u:World=>Lib.run_eql_slice_nil (P:=prog) u 22 5 (some ad) n9 cap 0 0 underlying22;go_enter func71,ntmps71;go_wp2_with (with_reducible refine zhA w.heap.size _ [] ?hs ho _ l ?hx hr ?hn ?hbase w.heap.size w hb l_ ?_)
  case hs=>rfl
  case hx=>rfl
  case hn=>simp;omega
  case hbase=>simp
  intro v4 w4 ho4 hb4 _ _;rw [List.nil_append] at ho4;have HO4:=h_ ho4;have HB4:=h_ hb4;clear ho4 hb4 ho hb hr;go_wp2;go_ret;exact ⟨_,rfl,HO4.o,HB4.o⟩
def OwnAt (w:World) (base:Nat) (v:Value) (qs:List PairB) (j:Nat):Prop:=∃ rv,w.cell? (adr v (j * 2))=some rv/\OwnE w base rv (qs.getD j default).1
theorem OwnAt.later {w w':World} {base j:Nat} {v:Value} {qs:List PairB} (h:OwnAt w base v qs j) (hb:Below w.heap.size w w'):OwnAt w' base v qs j:=by
 obtain ⟨rv,h1,h2⟩:=h;exact ⟨rv,(hb.cell (p:=adr v (j * 2)) (World.block_lt_of_cell? w _ h1)).trans h1,h2.later hb l_⟩
theorem OwnAt.set {w:World} {base j g k:Nat} {v:Value} {qs:List PairB} {c:Array Value} (h:OwnAt w base v qs j) (ha:adr v (j * 2)=⟨g,j * 2,none⟩) (hk:j≠k) (hg:w.heap[g]?=some (.cells c 86 (0,0))) (u:Value):OwnAt (w.setCell ⟨g,k * 2,none⟩ u) base v qs j:=by
 obtain ⟨rv,h1,h2⟩:=h;rw [ha] at h1;refine ⟨rv,by rw [ha];exact zf1 h1 (by omega),?_⟩;exact OwnG.stay h2 (S:=fun q=>q=g) ((Only.refl (fun q=>q=g) w).setCell (p:=⟨g,k * 2,none⟩) rfl _) fun q hq e=>by
  subst e;exact OwnG.notOf h2 hg (by decide) hq
theorem OwnAt.new {w:World} {base j:Nat} {v:Value} {qs:List PairB} (h:OwnAt w base v qs j):zl8 w base v qs j:=by
 obtain ⟨rv,h1,h2⟩:=h;exact ⟨rv,h1,h2.from12⟩
def zER (w:World) (base:Nat) (v:Value) (qs:List PairB):Prop:=OwnP w base v qs/\∀ j,j < qs.length->OwnAt w base v qs j
theorem zER.new {w:World} {base:Nat} {v:Value} {qs:List PairB} (h:zER w base v qs) (hs:qs.length<=140737488351232):NewP w base v qs :=
 NewP.of12 h.1 hs (fun j hj=>(h.2 j hj).new) l_
/- -/
def NwO (w:World) (cs:List ColB) (e:Ending) (w':World):Prop :=
 ∃ v,e=.returned (.tuple #[v,.int .i64 (errS (colsL cs):Nat)])/\Below w.heap.size w w' /\
  ((errS (colsL cs)≠0/\v=.pointer none)∨(errS (colsL cs)=0/\∃ g bv,v=.pointer (some ⟨g,0,none⟩)/\∀ Q:Nat->Prop,(∀ j,Q j->j < w.heap.size)->Wr w' w.heap.size g bv cs [] Q))
theorem zqO {w w1 w2:World} {cs:List ColB} {cv hv:Value} (hC:CS cs) (h0:errS (colsL cs)=0) (hb1:Below w.heap.size w w1) (hb2:Below w1.heap.size w1 w2) (ho:Own w1 w.heap.size hv (hdB (colsL cs))) (hc:OwnC w2 w1.heap.size cv cs) (hl:cs.length<=8)
  {Q:Nat->Prop} (hQ:∀ j,Q j->j < w.heap.size) :
  Wr (w2.alloc (.cells #[cv,hv,.int .i64 0,.int .i64 0,.slice none 0 0] 130)) w.heap.size w2.heap.size hv cs [] Q:=by
 obtain ⟨t1,t2⟩:=TrS.nil hC h0;obtain ⟨N1,N2⟩:=za7 w2 (.cells #[cv,hv,.int .i64 0,.int .i64 0,.slice none 0 0] 130);have h12:=hb2.size;have h01:=hb1.size;have hhv:∀ k,hv.ownBlock=some k->k < w1.heap.size:=fun k hk=>(ho.lt14 hk).2;have hhb:∀ k,hv.ownBlock=some k->w.heap.size<=k:=fun k hk=>(ho.lt14 hk).1;refine ⟨t1,by omega,?_,fun e=>by have:=hhv _ e;omega,fun j hj=>?_,cv,.slice none 0 0,?_,?_,?_⟩
 ·rw [t2];exact (ho.later hb2 l_).later N2 l_
 ·have:=hQ j hj;exact ⟨by omega,fun e=>by have:=hhb j e;omega⟩
 ·rw [t2];exact N1
 ·have h:=(OwnG.off (Q:=fun j=>j < w1.heap.size) hc (by rw [List.length_map];omega) (fun j hj hn=>by omega)).more (Q':=fun j=>j < w1.heap.size∨Ban Q w2.heap.size hv j) zcS fun j hj hn hq=>by
   rcases hq with hq | hq | hq | hq
   ·exact hn hq
   ·have:=hQ j hq;omega
   ·omega
   have:=hhv j hq;omega
  exact (h.keep zcS fun j hj _=>N2.block j hj).more zcS fun j _ hn hq=>hn (.inr hq)
 rw [t2];exact OffS.nil _ _
theorem ztY (v:Value) (cs:List ColB) (w:World) (hR:RdC w v cs) (hC:CS cs) (hT:Tabs w) :
  Calls prog 48 #[v] w (NwO w cs):=by
 have HD:=h_ (zlC v cs w hR hC hT);obtain ⟨ac,nc,cc,rfl⟩:=hR.lit12;have HR:=h_ hR;have HC:=h_ hC;have HH:=h_ (show hdW (colsL cs)=if errS (colsL cs)≠0 then ([],errS (colsL cs)) else (hdB (colsL cs),0) from rfl);have HZ:=h_ (fun h:errS (colsL cs)=0=>show cs.length<=8 from by have:=(zaM h).2.1;rw [za4] at this;exact this);unfold NwO;obtain ⟨E,hE⟩:=nm_ (errS (colsL cs));have HEd:=h_ hE;rw [<- hE] at HH HZ ⊢;obtain ⟨HB,hHB⟩:=nm_ (hdB (colsL cs));have HHB:=h_ hHB;rw [<- hHB] at HH;rw [HH.o] at HD;clear hR hC hE hHB;by_cases h0:E=0
 ·subst h0;have hl:=HZ.o rfl;go_enter func48,ntmps48;go_wp2_with fail;refine HD.mono ?_;rintro e w1 ⟨hv,rfl,ho,hb⟩;replace ho:Own w1 w.heap.size hv HB:=ho;obtain ⟨ah,nh,ch,rfl⟩:=ho.lit13;have HO:=h_ ho;have HB1:=h_ hb;have CL:=h_ (zvK (.slice ac nc cc) cs w1 (HR.later hb l_) (by omega));clear ho hb HD;go_wp2_with fail;refine CL.mono ?_;rintro e w2 ⟨cv,rfl,hc,hb⟩;obtain ⟨a2,n2,c2,rfl⟩:=(hc.rd (by omega)).lit12;have HC2:=h_ hc;have HB2:=h_ hb;clear hc hb CL;go_wp2;go_ret2;refine ⟨_,rfl,(HB1.trans (HB2.mono HB1.size)).trans ((Below.refl _ _).alloc (by have:=HB1.size;have:=HB2.size;omega) _),?_⟩;refine .inr ⟨by first | trivial | rfl,w2.heap.size,.slice ah nh ch,rfl,fun Q hQ=>?_⟩;exact zqO HC.o HEd.symm HB1.o HB2.o (by rw [<- HHB.o];exact HO.o) HC2.o hl hQ
 have q:((E:Int) != 0)=true:=by rw [bne_iff_ne];omega
 have HN:=h_ h0;rw [if_pos h0] at HD;clear h0;go_enter func48,ntmps48;go_wp2_with fail;refine HD.mono ?_;rintro e w1 ⟨hv,rfl,ho,hb⟩;obtain ⟨ah,nh,ch,rfl⟩:=ho.lit13;have HB1:=h_ hb;clear ho hb HD;go_wp2;go_ret2;exact ⟨_,rfl,HB1.o,.inl ⟨HN.o,rfl⟩⟩
theorem StO.from {w w1 w':World} {N g:Nat} {bv:Value} {cs:List ColB} {Q:Nat->Prop} {E:Nat} {B:Bs} {es':List EntB} {e:Ending} (h:StO w1 N g bv cs Q E B es' e w') (hb:Below w.heap.size w w1):StO w N g bv cs Q E B es' e w':=by
 obtain ⟨x,bn,he,hx,hw,hO,hp⟩:=h;refine ⟨x,bn,he,hx.base hb.size,hw,(ze3 hb l_).trans hO,?_⟩;rcases hp with h | h
 ·exact .inl h
 exact .inr fun k hk=>Nat.le_trans hb.size (h k hk)
theorem StO.as {w w':World} {N g:Nat} {bv:Value} {cs:List ColB} {Q:Nat->Prop} {E E':Nat} {B B':Bs} {es es':List EntB} {e:Ending} (h:StO w N g bv cs Q E B es e w') (hE:E'=E) (hB:B'=B) (hes:es'=es):StO w N g bv cs Q E' B' es' e w':=by
 subst hE hB hes;exact h
theorem zCC {cs:List ColB} {es:List EntB} {a:ActB} (h:4096<=es.length):actE cs es a=13/\actB cs es a=[]/\actS cs es a=es:=by
 have h1:actE cs es a=13:=by unfold actE;rw [if_pos h]
 unfold actB actS;rw [h1];exact ⟨rfl,if_neg (by decide),if_neg (by decide)⟩
theorem zEQ {cs:List ColB} {es:List EntB} {a:ActB} (h:¬ 4096<=es.length) (h0:a.1=0) (h1:clcE cs a.2≠0):actE cs es a=clcE cs a.2/\actB cs es a=[]/\actS cs es a=es:=by
 have h2:actE cs es a=clcE cs a.2:=by unfold actE;rw [if_neg h,if_pos ⟨h0,h1⟩]
 unfold actB actS;rw [h2,if_neg h1,if_neg h1];exact ⟨rfl,rfl,rfl⟩
theorem zEP {cs:List ColB} {es:List EntB} {a:ActB} (h:¬ 4096<=es.length) (h0:a.1=0->clcE cs a.2=0):actE cs es a=layE cs es (actX cs es a)/\actB cs es a=layB cs es (actX cs es a)/\actS cs es a=layS cs es (actX cs es a):=by
 have h2:actE cs es a=layE cs es (actX cs es a):=by unfold actE;rw [if_neg h,if_neg fun hh=>hh.2 (h0 hh.1)]
 unfold actB actS layB layS;rw [h2];exact ⟨rfl,rfl,rfl⟩
theorem zmJ (N g:Nat) (bv lv:Value) (cs:List ColB) (es:List EntB) (ps:List PairB) (Q:Nat->Prop) (w:World) (hW:Wr w N g bv cs es Q) (hQ:∀ j,Q j->j < w.heap.size) (hL:RdP w lv ps) (hP:PSO ps) (hl:ps.length<=4000) (hT:Tabs w) (hF:Frs w) :
  Calls prog 42 #[.pointer (some ⟨g,0,none⟩),lv] w (StO w N g bv cs Q (actE cs es (0,ps)) (actB cs es (0,ps)) (actS cs es (0,ps))):=by
 have RY:=h_ (znY N g bv cs es Q w hW);have A1:=h_ (fun h=>zCC (cs:=cs) (es:=es) (a:=(0,ps)) h);have A2:=h_ (fun h k=>zEQ (cs:=cs) (es:=es) (a:=(0,ps)) h rfl k);have A3:=h_ (fun h k=>zEP (cs:=cs) (es:=es) (a:=(0,ps)) h fun _=>k);have AX:=h_ (show actX cs es (0,ps)=(0,(trE cs es).2.1 + 1,clcO cs ps) from if_pos rfl);have AO:=h_ (zzT (cs:=cs) (es:=es) (a:=(0,ps)) hW.trs hP);have HW:=h_ hW;have HQ:=h_ hQ;have HT:=h_ hT;have HF:=h_ hF;obtain ⟨sv,vv,hB,hS,hV⟩:=hW.box;obtain ⟨al,nl,cl,rfl⟩:=hL.lit12;have CL:=h_ (zfO sv (.slice al nl cl) cs ps w hS.1 hL hW.trs.sch hP hT (by omega));obtain ⟨ac,nc,cc,rfl⟩:=(show RdC w sv cs from hS.1).lit12;obtain ⟨c0,c1,c2,c3,c4⟩:=hB.cells;have hseq:=hW.trs.seq;have HBX:=h_ hB;obtain ⟨sq,hsq⟩:=nm_ ((trE cs es).2.1);rw [<- hsq] at AX hseq HBX c3;have q1:sq + 1<=9223372036854775807:=by omega
 have q2:-9223372036854775808<=sq + 1:=by omega
 clear hW hQ hT hF hB hS hV hL hP hsq;by_cases h1:4096<=es.length
 ·obtain ⟨z1,z2,z3⟩:=A1.o h1;rw [if_pos h1] at RY;have HZ:=h_ (And.intro z1 (And.intro z2 z3));clear z1 z2 z3 h1;go_enter func42,ntmps42;go_wp2_with fail;refine RY.mono ?_;rintro e w1 ⟨rfl,rfl⟩;go_wp2;go_ret2;exact StO.no HW.o (Below.refl _ _) HZ.1 HZ.2.1 HZ.2.2 rfl
 rw [if_neg h1] at RY;have HN1:=h_ h1;clear h1;go_enter func42,ntmps42;go_wp2_with fail;refine RY.mono ?_;rintro e w1 ⟨rfl,rfl⟩;go_wp2_with fail;refine CL.mono ?_;rintro e w2 ⟨xv,rfl,hx,hb⟩;obtain ⟨ax,nx,cx,rfl⟩:=hx.rd.lit12;have HB2:=h_ hb;have HX2:=h_ hx.rd;have hB2:=HBX.later hb;clear hx hb CL c0 c1 c2 c3 c4;obtain ⟨c0,c1,c2,c3,c4⟩:=hB2.cells;obtain ⟨E,hE⟩:=nm_ (clcE cs ps);rw [<- hE];have HE:=h_ hE;clear hE hB2;by_cases h0:E=0
 ·subst h0;obtain ⟨z1,z2,z3⟩:=A3.o HN1.o HE.symm;rw [AX.o] at z1 z2 z3;have AO2:=AO.o;rw [AX.o] at AO2;have hW2:=HW.later HB2.o;have PU:=h_ ((ztW N g bv (.agg #[.int .i64 0,.int .i64 (sq + 1),.slice ax nx cx]) cs es (0,sq + 1,clcO cs ps) Q w2 hW2 (fun j hj=>Nat.lt_of_lt_of_le (HQ.o j hj) HB2.size) (by have:=HN1.o;omega) ⟨_,rfl,HX2.o⟩ AO2 (HT.later HB2.o) (HF.later HB2.o)).mono fun e w' h=>(h.from HB2.o).as z1 z2 z3);clear z1 z2 z3 AO2 hW2 HX2;go_wp2_with fail;refine PU.mono ?_;rintro e w3 ⟨x,bn,rfl,hx,hw,hO,hp⟩;obtain ⟨ax,nx,cx,rfl⟩:=hx.lit13;have HH:=h_ (And.intro hx (And.intro hw (And.intro hO hp)));clear hx hw hO hp PU;go_wp2;go_ret2;exact ⟨_,_,rfl,HH.o⟩
 have q:((E:Int) != 0)=true:=by rw [bne_iff_ne];omega
 have HN:=h_ h0;clear h0;go_wp2;go_ret2;obtain ⟨z1,z2,z3⟩:=A2.o HN1.o (by rw [<- HE.o];exact HN.o);exact StO.no HW.o HB2.o (by rw [z1];exact HE.symm) z2 z3 rfl
section
variable {w:World} {N g:Nat} {bv:Value} {cs:List ColB} {es:List EntB} {Q:Nat->Prop}
theorem ztX (hW:Wr w N g bv cs es Q):Calls prog 39 #[.pointer (some ⟨g,0,none⟩)] w fun e w'=>e=.returned (.int .i64 (trE cs es).2.1)/\w=w':=by
 obtain ⟨sv,vv,hB,_⟩:=hW.box;obtain ⟨c0,c1,c2,c3,c4⟩:=hB.cells;obtain ⟨sq,hsq⟩:=nm_ ((trE cs es).2.1);rw [<- hsq] at c3 ⊢;clear hW hB hsq;go_enter func39,ntmps39;go_wp2;go_ret;exact ⟨rfl,rfl⟩
theorem zqQ (hW:Wr w N g bv cs es Q):Calls prog 63 #[.pointer (some ⟨g,0,none⟩)] w fun e w'=>e=.returned (.int .i64 (es.length:Int))/\w=w':=by
 obtain ⟨sv,vv,hB,_⟩:=hW.box;obtain ⟨c0,c1,c2,c3,c4⟩:=hB.cells;obtain ⟨m,hm⟩:=nm_ es.length;rw [<- hm] at c2 ⊢;clear hW hB hm;go_enter func63,ntmps63;go_wp2;go_ret;exact ⟨rfl,rfl⟩
theorem zo0 (hW:Wr w N g bv cs es Q):Calls prog 43 #[.pointer (some ⟨g,0,none⟩)] w (RetB w (trE cs es).1):=by
 obtain ⟨sv,vv,hB,_⟩:=hW.box;obtain ⟨c0,c1,c2,c3,c4⟩:=hB.cells;have CL:=h_ (zkL bv (trE cs es).1 w hW.rd (by have:=hW.trs.small;omega));obtain ⟨ab,nb,cb,rfl⟩:=hW.own.lit13;obtain ⟨L,hL⟩:=nm_ ((trE cs es).1);rw [<- hL] at CL ⊢;clear hW hB hL;go_enter func43,ntmps43;go_wp2_with fail;refine CL.mono ?_;rintro e w1 ⟨v,rfl,ho,hb⟩;obtain ⟨a1,n1,k1,rfl⟩:=ho.lit13;have HO:=h_ (And.intro ho hb);clear ho hb CL;go_wp2;go_ret;exact ⟨_,rfl,HO.o⟩
theorem zqP (hW:Wr w N g bv cs es Q):Calls prog 41 #[.pointer (some ⟨g,0,none⟩)] w fun e w'=>∃ v,e=.returned v/\zER w' w.heap.size v (trE cs es).2.2.1/\Below w.heap.size w w':=by
 obtain ⟨sv,vv,hB,hS,hV⟩:=hW.box;obtain ⟨c0,c1,c2,c3,c4⟩:=hB.cells;have hset:=hW.trs.set;have hfew:=hset.few;have hrow:∀ k,k < (trE cs es).2.2.1.length->((trE cs es).2.2.1.getD k default).1.length<=8:=fun k hk=>by
  have hm:(trE cs es).2.2.1.getD k default ∈ (trE cs es).2.2.1:=by simp [List.getD,hk]
  obtain ⟨g1,g2,_⟩:=zaO (hset.all _ hm).1;have:=((zjY (colsL cs)).1 g1).1.2;unfold colsL at this;rw [List.length_map] at this;omega
 have hrd:=hV.rd;obtain ⟨qs,hqs⟩:=nm_ ((trE cs es).2.2.1);rw [<- hqs] at hrow hrd hfew ⊢;have HR8:=h_ hrow;obtain ⟨us,hu1,hu2,hu3⟩:=id hrd;have hul:us.length=qs.length:=by rw [hu1,List.length_map]
 have CP:=h_ (zjI vv us w hu2 hu3 (by omega));have HU:=h_ (And.intro hu1 hu3);obtain ⟨av,nv,cv,rfl⟩:=hrd.lit12;clear hW hB hS hV hset hqs hrow hu1 hu2 hu3 hrd;go_enter func41,ntmps41;go_wp2_with fail;refine CP.mono ?_;rintro e w3 ⟨v4,rfl,ho,hb⟩;have HO5:=h_ (show OwnP w3 w.heap.size v4 qs from ⟨us,HU.1,ho,fun t ht=>⟨(HU.2 t ht).later hb l_,fun g hg=>(HU.2 t ht).offNew (ho.lt hg).1⟩⟩);have HB4:=h_ hb;obtain ⟨n,hn⟩:=nm_ qs.length;have hlen:=(HO5.rd (by omega)).len;rw [<- hn] at hlen hfew;have HNN:=h_ hn;obtain ⟨a4,n4,k4,rfl⟩:=(HO5.rd (by rw [<- hn];omega)).lit12;obtain ⟨v4,hv4⟩:=nm_ (.slice a4 n4 k4:Value);rw [<- hv4] at HO5 hlen ⊢;clear ho hb CP HU hul hn hv4 c0 c1 c2 c3 c4;go_wp2;go_loopw [16] (fun i wr=>∃ k:Nat,k<=n/\i=.int .i64 k/\Hid (OwnP wr w.heap.size v4 qs)/\Hid (Below w.heap.size w wr)/\Hid (∀ j,j < k->OwnAt wr w.heap.size v4 qs j)) (fun i _=>n - (intOf i).toNat)
 case atStart=>exact ⟨0,by omega,rfl,HO5,HB4,h_ (fun j hj=>absurd hj (by omega))⟩
 clear HO5;obtain ⟨k,hk,rfl,HO,HB,HNw⟩:=hrel;by_cases hlt:k < n
 ·have k1:k < qs.length:=by rw [<- HNN.o];exact hlt
  obtain ⟨b,o,rv,hi,c0,c1,re,hbl⟩:=(HO.rd (by rw [<- HNN.o];omega)).get k1;obtain ⟨g,cap,hv4,hbg,hgl,hrow⟩:=HO.row (by omega) (by rw [<- HNN.o];omega);have hadr:∀ q,adr v4 q=⟨g,q,none⟩:=fun q=>by rw [hv4,zaK,Nat.zero_add]
  have hog:v4.ownBlock=some g:=by rw [hv4];rfl
  obtain ⟨hix,hst⟩:=hrow k k1;have heq:=(hi wr).symm.trans (hix wr);simp only [Result.ok.injEq,Value.pointer.injEq,Option.some.injEq,Addr.mk.injEq,and_true] at heq;obtain ⟨rfl,rfl⟩:=heq;obtain ⟨ao,nn,cap',rfl⟩:=re.lit;have hr8:=HR8.o k k1;obtain ⟨p,hp⟩:=nm_ (qs.getD k default);rw [<- hp] at c1 re hst hr8;have HPk:=h_ hp;rcases p with ⟨r,x⟩
  dsimp only at c1 re hst hr8;have NN:=h_ (new1 wr (.cells #[.slice ao nn cap',.int .i64 x] 86));have HBN:=bT HB NN.2.2;have CC:=h_ (zkH _ r _ (re.later NN.2.2 l_) (by omega));have HOa:=h_ (HO.later NN.2.2 l_);have HST:=h_ hst;have HOG:=h_ hog;have hsa:=NN.1;have hsr:=HB.size;have hsn:=HBN.size;have HAd:=h_ hadr;clear hp k1 hi hrow re hst HO hv4 hadr hog;go_wp2_with fail;refine CC.mono ?_;rintro e w5 ⟨v5,rfl,ho5,hb5⟩;obtain ⟨ao5,n5,cap5,rfl⟩:=(ho5.rd (by omega)).lit;have HO5:=h_ (HOa.later hb5 l_);have HB5:=h_ (HBN.trans (hb5.mono (by omega)));obtain ⟨⟨x5,hc5⟩,hf5,hs5⟩:=HST.o w5 HO5.o;obtain ⟨ty,hty⟩:∃ c,w5.heap[b]?=some (.cells c 86 (0,0)):=by
   obtain ⟨ts,_,hG,_⟩:=HO5.o;exact hG.own_type HOG.o
  have HO6:=h_ (hs5 _ (ho5.rd (by omega)) (ho5.offB (by omega)));have HB6:=h_ (HB5.setCell (p:=⟨b,k * 2,none⟩) (by show w.heap.size<=b;omega) (.slice ao5 n5 cap5));have hon:OwnE (w5.setCell ⟨b,k * 2,none⟩ (.slice ao5 n5 cap5)) w.heap.size (.slice ao5 n5 cap5) r :=
   OwnG.stay (ho5.lower (by omega)) (S:=fun q=>q=b) ((Only.refl (fun q=>q=b) w5).setCell (p:=⟨b,k * 2,none⟩) rfl _) fun q hq e=>by
    subst e;exact OwnG.notOf ho5 hty (by decide) hq
  have HN6:=h_ (show ∀ j,j < k + 1->OwnAt (w5.setCell ⟨b,k * 2,none⟩ (.slice ao5 n5 cap5)) w.heap.size v4 qs j from fun j hj=>by
   by_cases e:j=k
   ·subst e
    exact ⟨.slice ao5 n5 cap5,by rw [HAd.o];exact zgH hc5,by rw [<- HPk.o];exact hon⟩
   ·have h9:=(((HNw.o j (by omega)).later NN.2.2).later hb5)
    exact h9.set (HAd.o _) (by omega) hty _)
  clear ho5 hb5 HST hs5 HOa CC HBN NN c0 c1 HO5 HB5 HAd HPk HNw hty hon HOG;go_wp2;go_roundw
  case rel=>exact ⟨k + 1,by omega,by go_num,HO6,HB6,HN6⟩
  simp [intOf];omega
 obtain rfl:k=n:=by omega
 go_wp2;go_ret;exact ⟨_,rfl,⟨HO.o,fun j hj=>HNw.o j (by rw [HNN.o];exact hj)⟩,HB.o⟩
end
section
variable (w:World)
end
/- -/
def OpN (w:World) (b:Bs) (e:Ending) (w':World):Prop :=
 ∃ v,e=.returned (.tuple #[v,.int .i64 ((trD b).2.2.2.1:Nat),.int .i64 ((trD b).2.2.2.2:Nat)])/\Below w.heap.size w w' /\
  (((trD b).2.2.2.2≠0/\v=.pointer none)∨((trD b).2.2.2.2=0/\∃ g bv,v=.pointer (some ⟨g,0,none⟩)/\Wr w' w.heap.size g bv (trD b).1 (trD b).2.1 fun j=>j < w.heap.size))
theorem zqN {w w4 w6:World} {cs:List ColB} {es:List EntB} {sv bv vv:Value} {b:Bs} (ht:TrS cs es) (hB:(trE cs es).1=b) (hb4:Below w.heap.size w w4) (hb6:Below w4.heap.size w4 w6)
  (hR:OffG colE w4 sv (cs.map colV) fun j=>j < w.heap.size) (hV:OffS w4 vv (trE cs es).2.2.1 fun j=>j < w.heap.size) (ho:Own w6 w4.heap.size bv b) :
  Wr (w6.alloc (.cells #[sv,bv,.int .i64 (es.length:Int),.int .i64 (trE cs es).2.1,vv] 130)) w.heap.size w6.heap.size bv cs es fun j=>j < w.heap.size:=by
 obtain ⟨N1,N2⟩:=za7 w6 (.cells #[sv,bv,.int .i64 (es.length:Int),.int .i64 (trE cs es).2.1,vv] 130);have h4:=hb4.size;have h6:=hb6.size;have hbv:∀ k,bv.ownBlock=some k->w4.heap.size<=k/\k < w6.heap.size:=fun k hk=>ho.lt14 hk;have hq:∀ j,j < w4.heap.size->¬ (j < w.heap.size)->¬ Ban (fun j=>j < w.heap.size) w6.heap.size bv j:=fun j hj hn hq=>by
  rcases hq with hq | hq | hq
  ·exact hn hq
  ·omega
  have:=(hbv j hq).1;omega
 have hk:=hb6.trans (N2.mono h6);refine ⟨ht,by omega,?_,fun e=>by have:=(hbv _ e).2;omega,fun j hj=>⟨by omega,fun e=>by have:=(hbv _ e).1;omega⟩,sv,vv,N1,?_,?_⟩
 ·rw [hB];exact (ho.base h4).later N2 l_
 ·exact (hR.more zcS hq).keep zcS fun j hj _=>hk.block j hj
 exact (hV.more hq).keep fun j hj _=>hk.block j hj
theorem znZ (v:Value) (l:Bs) (w:World) (h:Rd w v l) (hl:l.length<=70368744177664) (hT:Tabs w) (hF:Frs w) :
  Calls prog 38 #[v] w (OpN w l):=by
 obtain ⟨ao,cap,hv,_⟩:=id h.shape;subst hv;have DC:=h_ (zdH (.slice ao l.length cap) l w h hT hF);have CL:=h_ (fun wz (hz:Below w.heap.size w wz)=>zkL (.slice ao l.length cap) l wz (h.later hz l_) hl);have HEn:=h_ (zD7 (b:=l));have HT:=h_ hT;have HF:=h_ hF;unfold OpN;unfold znW at DC;obtain ⟨cs,hcs⟩:=nm_ ((trD l).1);obtain ⟨es,hes⟩:=nm_ ((trD l).2.1);obtain ⟨p,hp⟩:=nm_ ((trD l).2.2.2.1);obtain ⟨x,hx⟩:=nm_ ((trD l).2.2.2.2);rw [<- hcs,<- hes,<- hp,<- hx] at DC HEn;rw [<- hcs,<- hes,<- hp,<- hx];clear h hcs hes hp hx hT hF hl;go_enter func38,ntmps38;go_wp2_with fail;refine DC.mono ?_;rintro e w2 ⟨tv,rfl,hTr,hCS,hb⟩;obtain ⟨sv,ev,rfl,hR,hZ⟩:=hTr w2 (Only.refl _ _)
 have hRO:OffG colE w2 sv (cs.map colV) fun j=>j < w.heap.size:=zB6 zcS (by
  obtain ⟨s',e',he,hR',_⟩:=hTr _ (zmG w2 w.heap.size)
  cases he;exact hR')
 obtain ⟨ae,ne,ce,rfl⟩:=hZ.lit;obtain ⟨ac,nc,cc,rfl⟩:=hR.lit12;have hle:=hZ.len;have hls:=hZ.small;have N:=za7 w2 (.cells #[.slice ac nc cc,.slice ae ne ce] 27);obtain ⟨w3,hw3⟩:=nm_ (w2.alloc (.cells #[.slice ac nc cc,.slice ae ne ce] 27));obtain ⟨g,hg⟩:=nm_ w2.heap.size;rw [<- hw3,<- hg] at N;have HX3:=h_ (show Tbox w3 g (.slice ac nc cc) (.slice ae ne ce) from N.1);have HW3:=h_ hw3;have HG:=h_ hg;have N2:Below w2.heap.size w2 w3:=by rw [hg] at N;exact N.2
 have HB3:=h_ (hb.trans (N2.mono hb.size));have HR3:=h_ (hR.later N2 l_);have HZ3:=h_ (hZ.later N2 l_);have HRO:=h_ (hRO.keep zcS (w':=w3) fun j hj _=>N2.block j hj);have HCS:=h_ hCS;obtain ⟨c0,c1⟩:=HX3.cells;clear DC hb hR hRO hZ hCS N N2 hw3 hg;by_cases h0:x=0
 ·subst h0;obtain ⟨t1,t2,t3,t4,t5⟩:=HEn.o rfl;have ht:TrS cs es:=⟨HCS.o,t1,t4⟩;have VW:=h_ (zr0 (.agg #[.slice ac nc cc,.slice ae ne ce]) cs es w3 ⟨_,_,rfl,HR3.o,HZ3.o⟩ HCS.o t1 (HT.later HB3.o) (HF.later HB3.o));unfold zFP at VW;have hsq:=ht.seq;have HS:=h_ ht;have HL:=h_ t2;have HE0:=h_ t4;obtain ⟨sq,hsq'⟩:=nm_ ((trE cs es).2.1);obtain ⟨vw,hvw⟩:=nm_ ((trE cs es).2.2.1);rw [<- hsq',<- hvw,t4] at VW;have HSQ:=h_ (And.intro hsq' hvw);obtain ⟨m,hm⟩:=nm_ es.length;rw [<- hm] at hle hls;have HM:=h_ hm;clear t1 t2 t3 t4 t5 ht hsq hsq' hvw hm HEn;go_wp2_with fail;rw [<- HW3.o,<- HG.o];go_wp2_with fail;refine VW.mono ?_;rintro e w4 ⟨vv,rfl,hv,hb⟩;obtain ⟨av,nv,cv,rfl⟩:=hv.rd.lit12;have HB4:=bT HB3 hb;have HX4:=h_ (HX3.later hb);have HR4:=h_ (HRO.keep zcS (w':=w4) fun j hj _=>hb.block j hj);have HV4:=h_ (hv.more (Q':=fun j=>j < w.heap.size) fun j _ h k=>h (Nat.lt_of_lt_of_le k HB3.size))
  have CL4:=h_ (fun wz (hz:Below w4.heap.size w4 wz)=>(CL.o wz (HB4.trans (hz.mono HB4.size))).mono
   (fun e w' h=>show (∃ rv,e=.returned rv/\Own w' w4.heap.size rv l)/\Below w4.heap.size w4 w' from by
    obtain ⟨rv,he,hn,hb⟩:=h
    exact ⟨⟨rv,he,hn.base hz.size⟩,hz.trans (hb.mono hz.size)⟩))
  have Q1:=h_ (fun wz (hz:Below w4.heap.size w4 wz)=>And.intro hz (HX4.later hz).cells);clear hb hv VW CL c0 c1 HX3 HB3 HR3 HZ3 HRO;go_wp2_with fail;have m0:Below w4.heap.size w4 w4.drew:=(Below.refl _ _).drew;go_region_held3 (fun z=>Below w4.heap.size w4 z/\z.cell? ⟨g,0,none⟩=some (.slice ac nc cc)/\z.cell? ⟨g,1,none⟩=some (.slice ae ne ce)) (first | (exact Q1.o _ m0) | (exact Q1.o _ (m0.alloc m0.size _)) | go_keep)
   ((first
    | (go_at_call 71;refine (CL4.o _ (by assumption)).mono ?_;rintro e w6 ⟨⟨bv,rfl,hbo⟩,m3⟩;obtain ⟨a6,n6,c6,rfl⟩:=hbo.lit13;clear m0;have m0:=m3;clear m3)))
  have HO6:=h_ hbo;have HB6:=h_ m0;clear hbo m0;go_wp2;go_ret3;have hfin:=zqN HS.o HL.o HB4.o HB6.o HR4.o (by rw [<- HSQ.2];exact HV4.o) HO6.o;rw [<- HSQ.1,<- HM.o] at hfin;have hbb:Below w.heap.size w (w6.alloc (.cells #[.slice ac nc cc,.slice a6 n6 c6,.int .i64 (m:Int),.int .i64 sq,.slice av nv cv] 130)):=(HB4.trans (HB6.mono HB4.size)).trans ((Below.refl _ _).alloc (by have:=HB4.size;have:=HB6.size;omega) _);exact ⟨_,rfl,hbb,_,rfl,_,hfin⟩
 have q:((x:Int) != 0)=true:=by rw [bne_iff_ne];omega
 have HN:=h_ h0;clear h0;go_wp2;go_ret3;exact ⟨_,rfl,by rw [<- HW3.o];exact HB3.o,.inl ⟨HN.o,rfl⟩⟩
/- -/
section
variable {cs:List ColB} {es:List EntB} {a:ActB}
theorem zqJ (h:TrS cs es) (hP:PSO a.2):(trE cs (actS cs es a)).1=(trE cs es).1 ++ actB cs es a:=by
 unfold actS actB;by_cases hE:actE cs es a=0
 ·rw [if_pos hE,if_pos hE,(znV h hP hE).2]
 rw [if_neg hE,if_neg hE,List.append_nil]
theorem zkX (cs:List ColB) (es:List EntB) (a:ActB):(actB cs es a).length<=1048591:=by
 unfold actB;split
 ·exact entW_small _ _
 simp
theorem TrS.back (h:TrS cs es):(trD (trE cs es).1).1=cs/\(trD (trE cs es).1).2.1=es/\(trD (trE cs es).1).2.2.2.1=(trE cs es).1.length/\(trD (trE cs es).1).2.2.2.2=0:=(zAH h.en h.ok).2
end
