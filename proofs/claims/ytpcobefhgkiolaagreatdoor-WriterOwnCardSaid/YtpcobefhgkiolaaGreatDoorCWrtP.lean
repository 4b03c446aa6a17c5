/- -/
import Derived.Test.YtpcobefhgkiolaaGreatDoorCWrtM
import Derived.Test.YtpcobefhgkiolaaGreatDoorCTrcW
import Derived.Test.YtpcobefhgkiolaaGreatDoorCAppFull
import Derived.Test.YtpcobefhgkiolaaGreatDoorCBaseB
import Derived.Test.YtpcobefhgkiolaaGreatDoorCEntN
import Derived.Test.YtpcobefhgkiolaaGreatDoorCTrcL
import Derived.WalkSmall
import Derived.WalkSpells
import Derived.BigRegion
import Derived.Test.YtpcobefhgkiolaaGreatDoorCTrcR
import Derived.Deep.QuietTactic
import Derived.BigQuiet
import Derived.Test.YtpcobefhgkiolaaGreatDoorCColTk
set_option linter.unusedVariables false
set_option linter.unusedSimpArgs false
set_option maxRecDepth 1000000
namespace Go.Proofs.YtpcobefhgkiolaaGreatDoor
open Go.RowKit Go.Shelf
theorem writer_step {w w4 w5 w8:World} {N g:Nat} {bv bn sv vv vn xv:Value} {cs:List ColB} {es es':List EntB} {Q:Nat→Prop} {L B:List UInt8} {V:List PairB} {n s S:Int}
  (hW:Wr w N g bv cs es Q) (hQ:∀ j,Q j→j < w.heap.size) (hbox:Wbox w5 g sv bv n s vv) (hS:OffG colE w sv (cs.map colV) (Ban Q g bv))
  (hb4:Below w.heap.size w w4) (hb5:Below w4.heap.size w4 w5) (hx:Own w5 w4.heap.size xv B) (hv:NewP w4 w.heap.size vn V)
  (ho8:Own w8 N bn (L ++ B)) (hg8:w5.grownBy w8 bv.ownBlock) (hp8:Place w5 bv bn) (ht:TrS cs es') (hT:trE cs es'=(L ++ B,S,V,es.length + 1,0)) (hl:es'.length=es.length + 1) :
  StO w N g bv cs Q 0 B es' (.returned (.tuple #[xv,.int .i64 0])) ((((w8.setCell ⟨g,1,none⟩ bn).setCell ⟨g,2,none⟩ (.int .i64 ((es.length:Int) + 1))).setCell ⟨g,3,none⟩ (.int .i64 S)).setCell ⟨g,4,none⟩ vn):=by
 have hgw:=hW.lt
 have hbw:∀ k,bv.ownBlock=some k→k < w.heap.size:=fun k hk=>(hW.own.lt14 hk).2
 have h45:=hb5.size
 have hw4:=hb4.size
 have hxw:∀ k,xv.ownBlock=some k→w4.heap.size≤k∧k < w5.heap.size:=fun k hk=>hx.lt14 hk
 have hbn:∀ k,bn.ownBlock=some k→bv.ownBlock=some k∨w5.heap.size≤k:=fun k hk=>by
  rcases hp8 with e | hp
  ·exact .inl (by rw [← e];exact hk)
  ·exact .inr (hp k hk)
 have hbng:bn.ownBlock≠some g:=fun e=>by
  rcases hbn g e with h | h
  ·exact hW.apart h
  ·omega
 have h8:Wbox w8 g sv bv n s vv:=(hg8.block g (by omega) fun e=>hW.apart e.symm).trans hbox
 have O5:Only (fun j=>j=g∨bv.ownBlock=some j) w w5:=hidOnly (hb4.trans (hb5.mono hw4)) l_
 have O8:Only (fun j=>j=g∨bv.ownBlock=some j) w5 w8:=(Only.by14 hg8).mono fun j hj=>.inr hj
 have Og:Only (fun j=>j=g) w8 ((((w8.setCell ⟨g,1,none⟩ bn).setCell ⟨g,2,none⟩ (.int .i64 ((es.length:Int) + 1))).setCell ⟨g,3,none⟩ (.int .i64 S)).setCell ⟨g,4,none⟩ vn) :=
  ((((Only.refl (fun j=>j=g) w8).setCell (p:=⟨g,1,none⟩) rfl _).setCell (p:=⟨g,2,none⟩) rfl _).setCell (p:=⟨g,3,none⟩) rfl _).setCell (p:=⟨g,4,none⟩) rfl _
 have hbx:=h8.set bn ((es.length:Int) + 1) S vn
 obtain ⟨w9,hw9⟩:∃ w9,w9=(((w8.setCell ⟨g,1,none⟩ bn).setCell ⟨g,2,none⟩ (.int .i64 ((es.length:Int) + 1))).setCell ⟨g,3,none⟩ (.int .i64 S)).setCell ⟨g,4,none⟩ vn:=⟨_,rfl⟩
 rw [← hw9] at Og hbx ⊢
 have O9:Only (fun j=>j=g∨bv.ownBlock=some j) w5 w9:=O8.trans (Og.mono fun j hj=>.inl hj)
 have O09:Only (fun j=>j=g∨bv.ownBlock=some j) w w9:=O5.trans O9
 have O49:Only (fun j=>j=g∨bv.ownBlock=some j) w4 w9:=(hidOnly hb5 l_).trans O9
 have hban:∀ j,j < w.heap.size→¬ Ban Q g bv j→¬ (Ban Q g bv j∨Ban (fun j=>Q j∨xv.ownBlock=some j) g bn j):=fun j hj hn hq=>by
  rcases hq with hq | (hq | hq) | hq | hq
  ·exact hn hq
  ·exact hn (.inl hq)
  ·have:=(hxw j hq).1;omega
  ·exact hn (.inr (.inl hq))
  ·rcases hbn j hq with h | h
   ·exact hn (.inr (.inr h))
   ·omega
 have hnew:∀ j,j < w4.heap.size→¬ (j < w.heap.size)→¬ (j < w.heap.size∨Ban (fun j=>Q j∨xv.ownBlock=some j) g bn j):=fun j hj hn hq=>by
  rcases hq with hq | (hq | hq) | hq | hq
  ·exact hn hq
  ·have:=hQ j hq;omega
  ·have:=(hxw j hq).1;omega
  ·omega
  ·rcases hbn j hq with h | h
   ·have:=hbw j h;omega
   ·omega
 refine ⟨xv,bn,rfl,(hx.base hw4).stay O9 fun q hq hs=>?_,⟨ht,hW.from_,?_,hbng,fun j hj=>?_,sv,vn,?_,?_,?_⟩,O09,?_⟩
 ·have:=(hxw q hq).1
  rcases hs with hs | hs
  ·omega
  ·have:=hbw q hs;omega
 ·rw [hT];exact ho8.stay Og fun q hq hs=>by subst hs;exact hbng hq
 ·rcases hj with hj | hj
  ·refine ⟨(hW.free j hj).1,fun e=>?_⟩
   rcases hbn j e with h | h
   ·exact (hW.free j hj).2 h
   ·have:=hQ j hj;omega
  ·have:=hxw j hj
   refine ⟨by omega,fun e=>?_⟩
   rcases hbn j e with h | h
   ·have:=hbw j h;omega
   ·omega
 ·rw [hT,hl];push_cast;exact hbx
 ·refine OffG.more (Q:=fun j=>Ban Q g bv j∨Ban (fun j=>Q j∨xv.ownBlock=some j) g bn j) ((hS.more colOk hban).keep colOk fun j hj hn=>O09.block j hj fun hs=>hn (.inl (.inr hs))) colOk fun j _ hn hq=>hn (.inr hq)
 ·rw [hT]
  refine OffS.more (Q:=fun j=>j < w.heap.size∨Ban (fun j=>Q j∨xv.ownBlock=some j) g bn j) (((hv.offS (Q:=fun j=>j < w.heap.size) fun j hj hn=>by omega).more hnew).keep fun j hj hn=>O49.block j hj fun hs=>?_) fun j _ hn hq=>hn (.inr hq)
  rcases hs with hs | hs
  ·exact hn (.inl (by omega))
  ·exact hn (.inl (hbw j hs))
 ·rcases hp8 with e | hp
  ·exact .inl e
  ·exact .inr fun k hk=>by have:=hp k hk;omega
theorem lay_one {cs:List ColB} {es:List EntB} {x:EntB} {E:Nat} (hE:E=apE cs (trE cs es).2.1 (trE cs es).2.2.1 x) (h:E≠0):layE cs es x=E∧layB cs es x=[]∧layS cs es x=es:=by
 have h1:layE cs es x=E:=by unfold layE;rw [← hE,if_pos h]
 unfold layB layS
 rw [h1,if_neg h,if_neg h]
 exact ⟨rfl,rfl,rfl⟩
theorem lay_two {cs:List ColB} {es:List EntB} {x:EntB} {R:List UInt8 × Nat} (hE:apE cs (trE cs es).2.1 (trE cs es).2.2.1 x=0) (hR:R=entW cs x) (h:R.2≠0):layE cs es x=R.2∧layB cs es x=[]∧layS cs es x=es:=by
 have h1:layE cs es x=R.2:=by unfold layE;rw [hE,if_neg (fun h=>h rfl),hR]
 unfold layB layS
 rw [h1,if_neg h,if_neg h]
 exact ⟨rfl,rfl,rfl⟩
theorem lay_three {cs:List ColB} {es:List EntB} {x:EntB} {R:List UInt8 × Nat} (hE:apE cs (trE cs es).2.1 (trE cs es).2.2.1 x=0) (hR:R=entW cs x) (h:R.2=0):layE cs es x=0∧layB cs es x=R.1∧layS cs es x=es ++ [x]:=by
 have h1:layE cs es x=0:=by unfold layE;rw [hE,if_neg (fun h=>h rfl),← hR,h]
 unfold layB layS
 rw [h1,if_pos rfl,if_pos rfl,← hR]
 exact ⟨rfl,rfl,rfl⟩
set_option maxHeartbeats 16000000 in
theorem writer_put (N g:Nat) (bv ev:Value) (cs:List ColB) (es:List EntB) (x:EntB) (Q:Nat→Prop) (w:World) (hW:Wr w N g bv cs es Q) (hQ:∀ j,Q j→j < w.heap.size) (hl:es.length < 4096) (hE:RdN w ev x) (hX:EnO x) (hT:Tabs w) (hF:Frs w) :
  Calls Tryz.prog 41 #[.pointer (some ⟨g,0,none⟩),ev] w (StO w N g bv cs Q (layE cs es x) (layB cs es x) (layS cs es x)):=by
 obtain ⟨kd,s2,ps⟩:=x
 obtain ⟨pv,rfl,hP⟩:=hE
 dsimp only at hP
 obtain ⟨ap,np,cp,rfl⟩:=hP.lit12
 obtain ⟨sv,vv,hB,hS,hV⟩:=hW.box
 have hR:RdC w sv cs:=hS.1
 obtain ⟨av,nv,cv,rfl⟩:=hV.rd.lit12
 obtain ⟨ac,nc,cc,rfl⟩:=hR.lit12
 obtain ⟨ab,nb,cb,rfl⟩:=hW.own.lit13
 obtain ⟨N1,N2⟩:=new_one12 w (.cells #[.int .i64 kd,.int .i64 s2,.slice ap np cp] 70)
 obtain ⟨w0,hw0⟩:∃ w0,w0=w.alloc (.cells #[.int .i64 kd,.int .i64 s2,.slice ap np cp] 70):=⟨_,rfl⟩
 rw [← hw0] at N1 N2
 obtain ⟨eb,hg⟩:∃ eb,eb=w.heap.size:=⟨_,rfl⟩
 rw [← hg] at N1
 have HE0:=h_ (show Ebox w0 eb kd s2 (.slice ap np cp) from N1)
 have HX0:=h_ (hB.later N2)
 have HB0:=h_ N2
 have HW0:=h_ hw0
 have HG:=h_ hg
 have HWR:=h_ hW
 have HQ:=h_ hQ
 have HS:=h_ hS
 have ht:=hW.trs
 have hlen:es.length + 1≤4096:=by omega
 have hsm:=ht.small
 have AP:=h_ (fun wz (hz:Below w0.heap.size w0 wz)=>by
  have hz':Below w.heap.size w wz:=N2.trans (hz.mono N2.size)
  exact (entry_ApplyN (.slice ac nc cc) (.slice av nv cv) (.agg #[.int .i64 kd,.int .i64 s2,.slice ap np cp]) cs (trE cs es).2.1 (trE cs es).2.2.1 (kd,s2,ps) wz (hR.later hz' l_) (hV.rd.later hz' l_) ⟨_,rfl,hP.later hz' l_⟩ ht.sch ht.pso hX ht.inw (hT.later hz')).mono
   (fun e w' h=>show (∃ rv,e=.returned (.tuple #[.int .i64 (apN cs (trE cs es).2.1 (trE cs es).2.2.1 (kd,s2,ps)),rv,.int .i64 (apE cs (trE cs es).2.1 (trE cs es).2.2.1 (kd,s2,ps):Nat)])∧NewP w' w.heap.size rv (apV cs (trE cs es).2.1 (trE cs es).2.2.1 (kd,s2,ps)))∧Below w0.heap.size w0 w' from by
    obtain ⟨rv,he,hn,hb⟩:=h
    exact ⟨⟨rv,he,hn.lower hz'.size⟩,hz.trans (hb.mono hz.size)⟩))
 have WRT:=h_ (fun w6 (h6:Below w0.heap.size w0 w6) wz (hz:Below w6.heap.size w6 wz)=>by
  have h6':Below w.heap.size w w6:=N2.trans (h6.mono N2.size)
  have hz':Below w.heap.size w wz:=h6'.trans (hz.mono h6'.size)
  exact (entry_Write (.slice ac nc cc) (.agg #[.int .i64 kd,.int .i64 s2,.slice ap np cp]) cs (kd,s2,ps) wz (hR.later hz' l_) ⟨_,rfl,hP.later hz' l_⟩ ht.sch hX (hT.later hz') (hF.later hz')).mono
   (fun e w' h=>show (∃ rv,e=.returned (.tuple #[rv,.int .i64 ((entW cs (kd,s2,ps)).2:Nat)])∧Own w' w6.heap.size rv (entW cs (kd,s2,ps)).1)∧Below w6.heap.size w6 w' from by
    obtain ⟨rv,he,hn,hb⟩:=h
    exact ⟨⟨rv,he,hn.base hz.size⟩,hz.trans (hb.mono hz.size)⟩))
 have L1:=fun E h k=>lay_one (cs:=cs) (es:=es) (x:=(kd,s2,ps)) (E:=E) h k
 have L2:=fun R h k l=>lay_two (cs:=cs) (es:=es) (x:=(kd,s2,ps)) (R:=R) h k l
 have L3:=fun R h k l=>lay_three (cs:=cs) (es:=es) (x:=(kd,s2,ps)) (R:=R) h k l
 have NX:=fun h=>lay_next (cs:=cs) (es:=es) (x:=(kd,s2,ps)) ht hl hX h
 have hwl:=entW_small cs (kd,s2,ps)
 obtain ⟨E,hEd⟩:∃ E,E=apE cs (trE cs es).2.1 (trE cs es).2.2.1 (kd,s2,ps):=⟨_,rfl⟩
 obtain ⟨V,hVd⟩:∃ V,V=apV cs (trE cs es).2.1 (trE cs es).2.2.1 (kd,s2,ps):=⟨_,rfl⟩
 obtain ⟨S,hSd⟩:∃ S,S=apN cs (trE cs es).2.1 (trE cs es).2.2.1 (kd,s2,ps):=⟨_,rfl⟩
 obtain ⟨R,hWd⟩:∃ R,R=entW cs (kd,s2,ps):=⟨_,rfl⟩
 have HL1:=h_ (L1 E hEd)
 rw [← hEd,← hVd,← hSd] at AP
 rw [← hEd] at L2 L3
 have HL2:=h_ (fun h=>L2 R h hWd)
 have HL3:=h_ (fun h=>L3 R h hWd)
 rw [← hWd] at WRT hwl NX
 rw [← hVd,← hSd] at NX
 have HNX:=h_ NX
 have HWL:=h_ hwl
 have HSM:=h_ hsm
 have HOW:=h_ hW.own
 have hNg:=hW.from_
 have hgl:=hB.lt
 obtain ⟨LE,hLE⟩:∃ LE,LE=layE cs es (kd,s2,ps):=⟨_,rfl⟩
 obtain ⟨LB,hLB⟩:∃ LB,LB=layB cs es (kd,s2,ps):=⟨_,rfl⟩
 obtain ⟨LS,hLS⟩:∃ LS,LS=layS cs es (kd,s2,ps):=⟨_,rfl⟩
 rw [← hLE,← hLB,← hLS] at HL1 HL2 HL3 ⊢
 rw [← hLE] at HNX
 have q0:=HX0.out.cells
 obtain ⟨L,hLd⟩:∃ L,L=(trE cs es).1:=⟨_,rfl⟩
 obtain ⟨sq,hsq⟩:∃ sq,sq=(trE cs es).2.1:=⟨_,rfl⟩
 rw [← hLd] at HOW HNX HSM
 rw [← hsq] at HX0 AP
 obtain ⟨m,hm⟩:∃ m,m=es.length:=⟨_,rfl⟩
 have HM:=h_ hm
 rw [← hm] at HX0 HNX hlen
 have Q1:=h_ (fun wz (hz:Below w0.heap.size w0 wz)=>And.intro hz (And.intro (HX0.out.later hz).cells.1 (And.intro (HX0.out.later hz).cells.2.2.2.1 (And.intro (HX0.out.later hz).cells.2.2.2.2 (And.intro (HE0.out.later hz).cells.1 (And.intro (HE0.out.later hz).cells.2.1 (HE0.out.later hz).cells.2.2))))))
 have Q4:=h_ (fun w6 (h6:Below w0.heap.size w0 w6) wz (hz:Below w6.heap.size w6 wz)=>And.intro hz (And.intro ((HX0.out.later h6).later hz).cells.1 (And.intro ((HE0.out.later h6).later hz).cells.1 (And.intro ((HE0.out.later h6).later hz).cells.2.1 ((HE0.out.later h6).later hz).cells.2.2))))
 clear N1 N2 hw0 hg hW hQ hS hB hV hR hP hX hT hF ht hsm hl L1 L2 L3 NX hwl hEd hVd hSd hWd hLE hLB hLS q0 hLd hsq hm
 have m0:Below w0.heap.size w0 w0.drew:=(Below.refl _ _).drew
 go_enter Tryz.func41,Tryz.ntmps41
 go_wp2_with fail
 rw [← HW0.out,← HG.out]
 by_cases hE0:E=0
 ·subst hE0
  go_region_held3 (fun z=>Below w0.heap.size w0 z∧z.cell? ⟨g,0,none⟩=some (.slice ac nc cc)∧z.cell? ⟨g,3,none⟩=some (.int .i64 sq)∧z.cell? ⟨g,4,none⟩=some (.slice av nv cv)∧z.cell? ⟨eb,0,none⟩=some (.int .i64 kd)∧z.cell? ⟨eb,1,none⟩=some (.int .i64 s2)∧z.cell? ⟨eb,2,none⟩=some (.slice ap np cp)) (first | (exact Q1.out _ m0) | go_keep)
   ((first
    | (go_at_call 70;refine (AP.out _ (by assumption)).mono ?_;rintro e w6 ⟨⟨rv,rfl,hrv⟩,m3⟩;clear m0;have m0:=m3;clear m3)))
  obtain ⟨ar,nr,cr,rfl⟩:=hrv.rd.lit12
  have HV6:=h_ hrv
  have HB6:=h_ m0
  clear hrv AP Q1 m0
  go_wp2_with fail
  have m4:Below w6.heap.size w6 w6.drew:=(Below.refl _ _).drew
  have Q5:=h_ (Q4.out w6 HB6.out)
  have WR5:=h_ (WRT.out w6 HB6.out)
  clear Q4 WRT
  by_cases hR0:R.2=0
  ·obtain ⟨B,y⟩:=R
   dsimp only at hR0
   subst hR0
   go_region_held3 (fun z=>Below w6.heap.size w6 z∧z.cell? ⟨g,0,none⟩=some (.slice ac nc cc)∧z.cell? ⟨eb,0,none⟩=some (.int .i64 kd)∧z.cell? ⟨eb,1,none⟩=some (.int .i64 s2)∧z.cell? ⟨eb,2,none⟩=some (.slice ap np cp)) (first | (exact Q5.out _ m4) | go_keep)
    ((first
     | (go_at_call 36;refine (WR5.out _ (by assumption)).mono ?_;rintro e w7 ⟨⟨xv,rfl,hxo⟩,m3⟩;clear m4;have m4:=m3;clear m3)))
   obtain ⟨ax,nx,cx,rfl⟩:=hxo.lit13
   have hb7:Below w0.heap.size w0 w7:=HB6.out.trans (m4.mono HB6.out.size)
   have hx7:=HX0.out.later hb7
   obtain ⟨c0,c1,c2,c3,c4⟩:=hx7.cells
   have hbw7:=HB0.out.trans (hb7.mono HB0.out.size)
   have hown:=HOW.out.later hbw7 l_
   have hxr:Rd w7 (.slice ax nx cx) B:=hxo.rd (by have:B.length≤1048591:=HWL.out;omega)
   have HX7:=h_ hx7
   have HXO:=h_ hxo
   have HB7:=h_ m4
   have HS7:=h_ hbw7.size
   clear hb7 hx7 hbw7 hxo m4 WR5 Q5
   go_wp2_with (with_reducible refine wpl_appendPl N (.slice ab nb cb) L ?hs hown _ B ?hx hxr ?hn ?hbase N w7 (Below.refl _ _) l_ ?_)
   case hs=>rfl
   case hx=>rfl
   case hn=>have h1:B.length≤1048591:=HWL.out;have h2:=HSM.out;omega
   case hbase=>have:=HS7.out;omega
   intro v8 w8 ho8 hb8 hg8 hp8
   obtain ⟨a8,n8,k8,rfl⟩:=ho8.lit13
   have hx8:Wbox w8 g (.slice ac nc cc) (.slice ab nb cb) (m:Int) sq (.slice av nv cv):=(hg8.block g (by have:=HS7.out;omega) fun e=>HWR.out.apart e.symm).trans HX7.out
   obtain ⟨d0,d1,d2,d3,d4⟩:=hx8.cells
   have f1:=hx8.free 1
   have f2:=hx8.free 2
   have f3:=hx8.free 3
   have f4:=hx8.free 4
   have H8:=h_ (And.intro ho8 (And.intro hg8 hp8))
   clear hown hxr ho8 hb8 hg8 hp8 c0 c1 c2 c3 c4 hx8
   go_wp2
   go_ret2
   obtain ⟨z1,z2,z3⟩:=HL3.out (by simp) (by simp)
   obtain ⟨t1,t2⟩:=HNX.out z1
   rw [z1,z2,z3]
   have hfin:=writer_step (w4:=w6) HWR.out HQ.out HX7.out HS.out (HB0.out.trans (HB6.out.mono HB0.out.size)) HB7.out HXO.out HV6.out H8.out.1 H8.out.2.1 H8.out.2.2 t1 (by rw [HM.out] at t2;exact t2) (by simp)
   rw [← HM.out] at hfin
   exact hfin
  ·have q:((R.2:Int) != 0)=true:=by rw [bne_iff_ne];omega
   have HR0:=h_ hR0
   clear hR0
   go_region_held3 (fun z=>Below w6.heap.size w6 z∧z.cell? ⟨g,0,none⟩=some (.slice ac nc cc)∧z.cell? ⟨eb,0,none⟩=some (.int .i64 kd)∧z.cell? ⟨eb,1,none⟩=some (.int .i64 s2)∧z.cell? ⟨eb,2,none⟩=some (.slice ap np cp)) (first | (exact Q5.out _ m4) | go_keep)
    ((first
     | (go_at_call 36;refine (WR5.out _ (by assumption)).mono ?_;rintro e w7 ⟨⟨xv,rfl,hxo⟩,m3⟩;clear m4;have m4:=m3;clear m3)))
   obtain ⟨ax,nx,cx,rfl⟩:=hxo.lit13
   have HB7:=h_ (HB6.out.trans (m4.mono HB6.out.size))
   clear hxo m4 WR5 Q5
   go_wp2
   go_ret2
   obtain ⟨z1,z2,z3⟩:=HL2.out (by simp) HR0.out
   exact StO.no HWR.out (HB0.out.trans (HB7.out.mono HB0.out.size)) z1 z2 z3 rfl
 ·have q:((E:Int) != 0)=true:=by rw [bne_iff_ne];omega
  have HN:=h_ hE0
  clear hE0
  go_region_held3 (fun z=>Below w0.heap.size w0 z∧z.cell? ⟨g,0,none⟩=some (.slice ac nc cc)∧z.cell? ⟨g,3,none⟩=some (.int .i64 sq)∧z.cell? ⟨g,4,none⟩=some (.slice av nv cv)∧z.cell? ⟨eb,0,none⟩=some (.int .i64 kd)∧z.cell? ⟨eb,1,none⟩=some (.int .i64 s2)∧z.cell? ⟨eb,2,none⟩=some (.slice ap np cp)) (first | (exact Q1.out _ m0) | go_keep)
   ((first
    | (go_at_call 70;refine (AP.out _ (by assumption)).mono ?_;rintro e w6 ⟨⟨rv,rfl,hrv⟩,m3⟩;clear m0;have m0:=m3;clear m3)))
  obtain ⟨ar,nr,cr,rfl⟩:=hrv.rd.lit12
  have HB6:=h_ m0
  clear hrv AP Q1 m0 Q4 WRT
  go_wp2
  go_ret2
  obtain ⟨z1,z2,z3⟩:=HL1.out HN.out
  exact StO.no HWR.out (HB0.out.trans (HB6.out.mono HB0.out.size)) z1 z2 z3 rfl
set_option maxHeartbeats 1000000 in
theorem writer_ready (N g:Nat) (bv:Value) (cs:List ColB) (es:List EntB) (Q:Nat→Prop) (w:World) (hW:Wr w N g bv cs es Q) :
  Calls Tryz.prog 40 #[.pointer (some ⟨g,0,none⟩)] w fun e w'=>e=.returned (.int .i64 (if 4096≤es.length then 13 else 0))∧w=w':=by
 obtain ⟨sv,vv,hB,hS,hV⟩:=hW.box
 obtain ⟨c0,c1,c2,c3,c4⟩:=hB.cells
 obtain ⟨m,hm⟩:∃ m,m=es.length:=⟨_,rfl⟩
 rw [← hm] at c2 ⊢
 clear hW hB hS hV hm
 by_cases h:4096≤m
 ·rw [if_pos h]
  have d:decide ((m:Int) ≥ 4096)=true:=decide_eq_true (by omega)
  clear h
  go_enter Tryz.func40,Tryz.ntmps40
  go_wp2
  go_ret
  exact ⟨rfl,rfl⟩
 ·rw [if_neg h]
  have d:decide ((m:Int) ≥ 4096)=false:=decide_eq_false (by omega)
  clear h
  go_enter Tryz.func40,Tryz.ntmps40
  go_wp2
  go_ret
  exact ⟨rfl,rfl⟩
end Go.Proofs.YtpcobefhgkiolaaGreatDoor


/- -/
namespace Go.Proofs.YtpcobefhgkiolaaGreatDoor
open Go.RowKit
theorem colV_one14 (c:ColB):∀ u ∈ colV c,u.oneCell'=true:=by
 intro u hu
 simp [colV] at hu
 rcases hu with rfl | rfl <;> rfl
theorem wplC_appendAll14 {w:World} {cs ds:List (List Value)} {ops:Array Oper} {Q:Exit→Act→World→Prop} {rest:List Oper} {a:Act} {dst:Option Tmp} {ty:TypeId} {pos:String} {aft:Array Edge} {s x:Operand}
  (base:Nat) (sv:Value) (hs:a.eval s=sv) (ho:OwnG colE w base sv cs) (xv:Value) (hx:a.eval x=xv) (hr:RdG colE w xv ds) (hone:∀ x ∈ ds,∀ u ∈ x,u.oneCell'=true)
  (hn:(cs.length + ds.length) * 24≤140737488355328) (hbase:base≤w.heap.size)
  (B:Nat) (w0:World) (hb:Below B w0 w) (hBb:B≤base)
  (h:∀ v' w',OwnG colE w' base v' (cs ++ ds)→Below B w0 w'→w.grownBy w' sv.ownBlock→wpList Tryz.prog ops Q rest (a.put dst v') w') :
  wpList Tryz.prog ops Q (⟨dst,.call ⟨.builtin .append,#[s,x],#[22,22]⟩,ty,pos,aft,none⟩ :: rest) a w :=
 wplG_appendAll (E:=colE) colOk base sv hs ho xv hx hr hone hn (by omega) hbase B w0 hb hBb h
set_option maxHeartbeats 1000000 in
theorem cols_Clone (v:Value) (cs:List ColB) (w:World) (h:RdC w v cs) (hn:cs.length * 24≤140737488351360) :
  Calls Tryz.prog 38 #[v] w fun e w'=>∃ v',e=.returned v'∧OwnC w' w.heap.size v' cs∧Below w.heap.size w w':=by
 obtain ⟨ao,cap,hv,hcap,hnil,_⟩:=RdG.shape h
 generalize hgl:(cs.map colV).length=n9 at hv hcap
 rw [List.length_map] at hgl
 cases ao with
 | none =>
  obtain rfl:cap=0:=hnil rfl
  obtain rfl:n9=0:=by omega
  obtain rfl:cs=[]:=List.eq_nil_of_length_eq_zero hgl
  clear h hnil hcap hgl
  subst hv
  have hq:=fun u:World=>Lib.run_eql_slice_nil (P:=Tryz.prog) u 22 80 none 0 0 0 0 Tryz.underlying22
  go_enter Tryz.func38,Tryz.ntmps38
  go_wp2
  go_ret
  exact ⟨_,rfl,OwnC.nil _ _,Below.refl _ _⟩
 | some ad =>
  subst hv
  have HR:=h_ (RdG.later h colOk ((Below.refl w.heap.size w).alloc l_ (.cells #[] 80)) l_)
  have H1:=h_ (show ∀ x ∈ cs.map colV,∀ u ∈ x,u.oneCell'=true from fun x hx u hu=>by
   obtain ⟨t,ht,rfl⟩:=List.mem_map.1 hx
   exact colV_one14 t u hu)
  have HO:=h_ (show OwnG colE (w.alloc (.cells #[] 80)) w.heap.size (.slice (some ⟨w.heap.size,0,none⟩) 0 0) [] from ownG_empty colE w w.heap.size l_)
  have HB:=h_ ((Below.refl w.heap.size w).alloc l_ (.cells #[] 80))
  clear h hnil hcap hgl
  have hq:=fun u:World=>Lib.run_eql_slice_nil (P:=Tryz.prog) u 22 80 (some ad) n9 cap 0 0 Tryz.underlying22
  go_enter Tryz.func38,Tryz.ntmps38
  go_wp2_with (with_reducible refine wplC_appendAll14 w.heap.size _ ?hs HO.out _ ?hx HR.out H1.out ?hn ?hbase w.heap.size w HB.out l_ ?_)
  case hs=>rfl
  case hx=>rfl
  case hn=>simp;omega
  case hbase=>simp
  intro v4 w4 ho4 hb4 _
  rw [List.nil_append] at ho4
  have HO4:=h_ ho4
  have HB4:=h_ hb4
  clear ho4 hb4
  go_wp2
  go_ret
  exact ⟨_,rfl,HO4.out,HB4.out⟩
set_option maxHeartbeats 1000000 in
theorem bytes_Clone (v:Value) (l:List UInt8) (w:World) (h:Rd w v l) (hn:l.length≤70368744177664) :
  Calls Tryz.prog 46 #[v] w (RetB w l):=by
 obtain ⟨ao,cap,hv,hcap,hnil,_⟩:=RdG.shape h.toG
 have hgl:(oneB l).length=l.length:=by simp [oneB]
 rw [hgl] at hv hcap
 obtain ⟨n9,hn9⟩:∃ n9,n9=l.length:=⟨_,rfl⟩
 rw [← hn9] at hv hcap
 cases ao with
 | none =>
  obtain rfl:cap=0:=hnil rfl
  obtain rfl:n9=0:=by omega
  obtain rfl:l=[]:=List.eq_nil_of_length_eq_zero hn9.symm
  clear h hnil hcap hgl hn9
  subst hv
  have hq:=fun u:World=>Lib.run_eql_slice_nil (P:=Tryz.prog) u 36 5 none 0 0 0 0 Tryz.underlying36
  go_enter Tryz.func46,Tryz.ntmps46
  go_wp2
  go_ret
  exact ⟨_,rfl,own_nil _ _,Below.refl _ _⟩
 | some ad =>
  subst hv
  have hr:=h.later ((Below.refl w.heap.size w).alloc l_ (.cells #[] 5)) l_
  have ho:=own_empty w w.heap.size l_
  have hb:=(Below.refl w.heap.size w).alloc l_ (.cells #[] 5)
  clear h hnil hcap hgl hn9
  have hq:=fun u:World=>Lib.run_eql_slice_nil (P:=Tryz.prog) u 36 5 (some ad) n9 cap 0 0 Tryz.underlying36
  go_enter Tryz.func46,Tryz.ntmps46
  go_wp2_with (with_reducible refine wpl_appendPl w.heap.size _ [] ?hs ho _ l ?hx hr ?hn ?hbase w.heap.size w hb l_ ?_)
  case hs=>rfl
  case hx=>rfl
  case hn=>simp;omega
  case hbase=>simp
  intro v4 w4 ho4 hb4 _ _
  rw [List.nil_append] at ho4
  have HO4:=h_ ho4
  have HB4:=h_ hb4
  clear ho4 hb4 ho hb hr
  go_wp2
  go_ret
  exact ⟨_,rfl,HO4.out,HB4.out⟩
def OwnAt (w:World) (base:Nat) (v:Value) (qs:List PairB) (j:Nat):Prop:=∃ rv,w.cell? (adr v (j * 2))=some rv∧OwnE w base rv (qs.getD j default).1
theorem OwnAt.later {w w':World} {base j:Nat} {v:Value} {qs:List PairB} (h:OwnAt w base v qs j) (hb:Below w.heap.size w w'):OwnAt w' base v qs j:=by
 obtain ⟨rv,h1,h2⟩:=h
 exact ⟨rv,(hb.cell (p:=adr v (j * 2)) (World.block_lt_of_cell? w _ h1)).trans h1,h2.later hb l_⟩
theorem OwnAt.set {w:World} {base j g k:Nat} {v:Value} {qs:List PairB} {c:Array Value} (h:OwnAt w base v qs j) (ha:adr v (j * 2)=⟨g,j * 2,none⟩) (hk:j≠k) (hg:w.heap[g]?=some (.cells c 78 (0,0))) (u:Value):OwnAt (w.setCell ⟨g,k * 2,none⟩ u) base v qs j:=by
 obtain ⟨rv,h1,h2⟩:=h
 rw [ha] at h1
 refine ⟨rv,by rw [ha];exact cell_set_other h1 (by omega),?_⟩
 exact OwnG.stay h2 (S:=fun q=>q=g) ((Only.refl (fun q=>q=g) w).setCell (p:=⟨g,k * 2,none⟩) rfl _) fun q hq e=>by
  subst e
  exact OwnG.notOf h2 hg (by decide) hq
theorem OwnAt.new {w:World} {base j:Nat} {v:Value} {qs:List PairB} (h:OwnAt w base v qs j):NewAt w base v qs j:=by
 obtain ⟨rv,h1,h2⟩:=h
 exact ⟨rv,h1,h2.from12⟩
def OwnPR (w:World) (base:Nat) (v:Value) (qs:List PairB):Prop:=OwnP w base v qs∧∀ j,j < qs.length→OwnAt w base v qs j
theorem OwnPR.new {w:World} {base:Nat} {v:Value} {qs:List PairB} (h:OwnPR w base v qs) (hs:qs.length≤140737488351232):NewP w base v qs :=
 NewP.of12 h.1 hs (fun j hj=>(h.2 j hj).new) l_
end Go.Proofs.YtpcobefhgkiolaaGreatDoor


/- -/
namespace Go.Proofs.YtpcobefhgkiolaaGreatDoor
open Go.RowKit Go.Shelf
def NwO (w:World) (cs:List ColB) (e:Ending) (w':World):Prop :=
 ∃ v,e=.returned (.tuple #[v,.int .i64 (errS (colsL cs):Nat)])∧Below w.heap.size w w' ∧
  ((errS (colsL cs)≠0∧v=.pointer none)∨(errS (colsL cs)=0∧∃ g bv,v=.pointer (some ⟨g,0,none⟩)∧∀ Q:Nat→Prop,(∀ j,Q j→j < w.heap.size)→Wr w' w.heap.size g bv cs [] Q))
theorem writer_made {w w1 w2:World} {cs:List ColB} {cv hv:Value} (hC:CS cs) (h0:errS (colsL cs)=0) (hb1:Below w.heap.size w w1) (hb2:Below w1.heap.size w1 w2) (ho:Own w1 w.heap.size hv (hdB (colsL cs))) (hc:OwnC w2 w1.heap.size cv cs) (hl:cs.length≤8)
  {Q:Nat→Prop} (hQ:∀ j,Q j→j < w.heap.size) :
  Wr (w2.alloc (.cells #[cv,hv,.int .i64 0,.int .i64 0,.slice none 0 0] 93)) w.heap.size w2.heap.size hv cs [] Q:=by
 obtain ⟨t1,t2⟩:=TrS.nil hC h0
 obtain ⟨N1,N2⟩:=new_one12 w2 (.cells #[cv,hv,.int .i64 0,.int .i64 0,.slice none 0 0] 93)
 have h12:=hb2.size
 have h01:=hb1.size
 have hhv:∀ k,hv.ownBlock=some k→k < w1.heap.size:=fun k hk=>(ho.lt14 hk).2
 have hhb:∀ k,hv.ownBlock=some k→w.heap.size≤k:=fun k hk=>(ho.lt14 hk).1
 refine ⟨t1,by omega,?_,fun e=>by have:=hhv _ e;omega,fun j hj=>?_,cv,.slice none 0 0,?_,?_,?_⟩
 ·rw [t2];exact (ho.later hb2 l_).later N2 l_
 ·have:=hQ j hj
  exact ⟨by omega,fun e=>by have:=hhb j e;omega⟩
 ·rw [t2];exact N1
 ·have h:=(OwnG.off (Q:=fun j=>j < w1.heap.size) hc (by rw [List.length_map];omega) (fun j hj hn=>by omega)).more (Q':=fun j=>j < w1.heap.size∨Ban Q w2.heap.size hv j) colOk fun j hj hn hq=>by
   rcases hq with hq | hq | hq | hq
   ·exact hn hq
   ·have:=hQ j hq;omega
   ·omega
   ·have:=hhv j hq;omega
  exact (h.keep colOk fun j hj _=>N2.block j hj).more colOk fun j _ hn hq=>hn (.inr hq)
 ·rw [t2];exact OffS.nil _ _
set_option maxHeartbeats 4000000 in
theorem writer_New (v:Value) (cs:List ColB) (w:World) (hR:RdC w v cs) (hC:CS cs) (hT:Tabs w) :
  Calls Tryz.prog 12 #[v] w (NwO w cs):=by
 have HD:=h_ (trace_Head v cs w hR hC hT)
 obtain ⟨ac,nc,cc,rfl⟩:=hR.lit12
 have HR:=h_ hR
 have HC:=h_ hC
 have HH:=h_ (show hdW (colsL cs)=if errS (colsL cs)≠0 then ([],errS (colsL cs)) else (hdB (colsL cs),0) from rfl)
 have HZ:=h_ (fun h:errS (colsL cs)=0=>show cs.length≤8 from by have:=(errS_zero h).2.1;rw [colsL_length] at this;exact this)
 unfold NwO
 obtain ⟨E,hE⟩:∃ E,E=errS (colsL cs):=⟨_,rfl⟩
 have HEd:=h_ hE
 rw [← hE] at HH HZ ⊢
 obtain ⟨HB,hHB⟩:∃ HB,HB=hdB (colsL cs):=⟨_,rfl⟩
 have HHB:=h_ hHB
 rw [← hHB] at HH
 rw [HH.out] at HD
 clear hR hC hE hHB
 by_cases h0:E=0
 ·subst h0
  have hl:=HZ.out rfl
  go_enter Tryz.func12,Tryz.ntmps12
  go_wp2_with fail
  refine HD.out.mono ?_
  rintro e w1 ⟨hv,rfl,ho,hb⟩
  replace ho:Own w1 w.heap.size hv HB:=ho
  obtain ⟨ah,nh,ch,rfl⟩:=ho.lit13
  have HO:=h_ ho
  have HB1:=h_ hb
  have CL:=h_ (cols_Clone (.slice ac nc cc) cs w1 (HR.out.later hb l_) (by omega))
  clear ho hb HD
  go_wp2_with fail
  refine CL.out.mono ?_
  rintro e w2 ⟨cv,rfl,hc,hb⟩
  obtain ⟨a2,n2,c2,rfl⟩:=(hc.rd (by omega)).lit12
  have HC2:=h_ hc
  have HB2:=h_ hb
  clear hc hb CL
  go_wp2
  go_ret2
  refine ⟨_,rfl,(HB1.out.trans (HB2.out.mono HB1.out.size)).trans ((Below.refl _ _).alloc (by have:=HB1.out.size;have:=HB2.out.size;omega) _),?_⟩
  refine .inr ⟨by first | trivial | rfl,w2.heap.size,.slice ah nh ch,rfl,fun Q hQ=>?_⟩
  exact writer_made HC.out HEd.out.symm HB1.out HB2.out (by rw [← HHB.out];exact HO.out) HC2.out hl hQ
 ·have q:((E:Int) != 0)=true:=by rw [bne_iff_ne];omega
  have HN:=h_ h0
  rw [if_pos h0] at HD
  clear h0
  go_enter Tryz.func12,Tryz.ntmps12
  go_wp2_with fail
  refine HD.out.mono ?_
  rintro e w1 ⟨hv,rfl,ho,hb⟩
  obtain ⟨ah,nh,ch,rfl⟩:=ho.lit13
  have HB1:=h_ hb
  clear ho hb HD
  go_wp2
  go_ret2
  exact ⟨_,rfl,HB1.out,.inl ⟨HN.out,rfl⟩⟩
theorem StO.from {w w1 w':World} {N g:Nat} {bv:Value} {cs:List ColB} {Q:Nat→Prop} {E:Nat} {B:List UInt8} {es':List EntB} {e:Ending} (h:StO w1 N g bv cs Q E B es' e w') (hb:Below w.heap.size w w1):StO w N g bv cs Q E B es' e w':=by
 obtain ⟨x,bn,he,hx,hw,hO,hp⟩:=h
 refine ⟨x,bn,he,hx.base hb.size,hw,(hidOnly hb l_).trans hO,?_⟩
 rcases hp with h | h
 ·exact .inl h
 ·exact .inr fun k hk=>Nat.le_trans hb.size (h k hk)
theorem StO.as {w w':World} {N g:Nat} {bv:Value} {cs:List ColB} {Q:Nat→Prop} {E E':Nat} {B B':List UInt8} {es es':List EntB} {e:Ending} (h:StO w N g bv cs Q E B es e w') (hE:E'=E) (hB:B'=B) (hes:es'=es):StO w N g bv cs Q E' B' es' e w':=by
 subst hE hB hes;exact h
theorem act_full {cs:List ColB} {es:List EntB} {a:ActB} (h:4096≤es.length):actE cs es a=13∧actB cs es a=[]∧actS cs es a=es:=by
 have h1:actE cs es a=13:=by unfold actE;rw [if_pos h]
 unfold actB actS
 rw [h1]
 exact ⟨rfl,if_neg (by decide),if_neg (by decide)⟩
theorem act_bad {cs:List ColB} {es:List EntB} {a:ActB} (h:¬ 4096≤es.length) (h0:a.1=0) (h1:clcE cs a.2≠0):actE cs es a=clcE cs a.2∧actB cs es a=[]∧actS cs es a=es:=by
 have h2:actE cs es a=clcE cs a.2:=by unfold actE;rw [if_neg h,if_pos ⟨h0,h1⟩]
 unfold actB actS
 rw [h2,if_neg h1,if_neg h1]
 exact ⟨rfl,rfl,rfl⟩
theorem act_lay {cs:List ColB} {es:List EntB} {a:ActB} (h:¬ 4096≤es.length) (h0:a.1=0→clcE cs a.2=0):actE cs es a=layE cs es (actX cs es a)∧actB cs es a=layB cs es (actX cs es a)∧actS cs es a=layS cs es (actX cs es a):=by
 have h2:actE cs es a=layE cs es (actX cs es a):=by unfold actE;rw [if_neg h,if_neg fun hh=>hh.2 (h0 hh.1)]
 unfold actB actS layB layS
 rw [h2]
 exact ⟨rfl,rfl,rfl⟩
set_option maxHeartbeats 4000000 in
theorem writer_Append (N g:Nat) (bv lv:Value) (cs:List ColB) (es:List EntB) (ps:List PairB) (Q:Nat→Prop) (w:World) (hW:Wr w N g bv cs es Q) (hQ:∀ j,Q j→j < w.heap.size) (hL:RdP w lv ps) (hP:PSO ps) (hl:ps.length≤4000) (hT:Tabs w) (hF:Frs w) :
  Calls Tryz.prog 14 #[.pointer (some ⟨g,0,none⟩),lv] w (StO w N g bv cs Q (actE cs es (0,ps)) (actB cs es (0,ps)) (actS cs es (0,ps))):=by
 have RY:=h_ (writer_ready N g bv cs es Q w hW)
 have A1:=h_ (fun h=>act_full (cs:=cs) (es:=es) (a:=(0,ps)) h)
 have A2:=h_ (fun h k=>act_bad (cs:=cs) (es:=es) (a:=(0,ps)) h rfl k)
 have A3:=h_ (fun h k=>act_lay (cs:=cs) (es:=es) (a:=(0,ps)) h fun _=>k)
 have AX:=h_ (show actX cs es (0,ps)=(0,(trE cs es).2.1 + 1,clcO cs ps) from if_pos rfl)
 have AO:=h_ (actX_ok (cs:=cs) (es:=es) (a:=(0,ps)) hW.trs hP)
 have HW:=h_ hW
 have HQ:=h_ hQ
 have HT:=h_ hT
 have HF:=h_ hF
 obtain ⟨sv,vv,hB,hS,hV⟩:=hW.box
 obtain ⟨al,nl,cl,rfl⟩:=hL.lit12
 have CL:=h_ (zset_CollectN sv (.slice al nl cl) cs ps w hS.1 hL hW.trs.sch hP hT (by omega))
 obtain ⟨ac,nc,cc,rfl⟩:=(show RdC w sv cs from hS.1).lit12
 obtain ⟨c0,c1,c2,c3,c4⟩:=hB.cells
 have hseq:=hW.trs.seq
 have HBX:=h_ hB
 obtain ⟨sq,hsq⟩:∃ sq,sq=(trE cs es).2.1:=⟨_,rfl⟩
 rw [← hsq] at AX hseq HBX c3
 have q1:sq + 1≤9223372036854775807:=by omega
 have q2:-9223372036854775808≤sq + 1:=by omega
 clear hW hQ hT hF hB hS hV hL hP hsq
 by_cases h1:4096≤es.length
 ·obtain ⟨z1,z2,z3⟩:=A1.out h1
  rw [if_pos h1] at RY
  have HZ:=h_ (And.intro z1 (And.intro z2 z3))
  clear z1 z2 z3 h1
  go_enter Tryz.func14,Tryz.ntmps14
  go_wp2_with fail
  refine RY.out.mono ?_
  rintro e w1 ⟨rfl,rfl⟩
  go_wp2
  go_ret2
  exact StO.no HW.out (Below.refl _ _) HZ.out.1 HZ.out.2.1 HZ.out.2.2 rfl
 ·rw [if_neg h1] at RY
  have HN1:=h_ h1
  clear h1
  go_enter Tryz.func14,Tryz.ntmps14
  go_wp2_with fail
  refine RY.out.mono ?_
  rintro e w1 ⟨rfl,rfl⟩
  go_wp2_with fail
  refine CL.out.mono ?_
  rintro e w2 ⟨xv,rfl,hx,hb⟩
  obtain ⟨ax,nx,cx,rfl⟩:=hx.rd.lit12
  have HB2:=h_ hb
  have HX2:=h_ hx.rd
  have hB2:=HBX.out.later hb
  clear hx hb CL c0 c1 c2 c3 c4
  obtain ⟨c0,c1,c2,c3,c4⟩:=hB2.cells
  obtain ⟨E,hE⟩:∃ E,E=clcE cs ps:=⟨_,rfl⟩
  rw [← hE]
  have HE:=h_ hE
  clear hE hB2
  by_cases h0:E=0
  ·subst h0
   obtain ⟨z1,z2,z3⟩:=A3.out HN1.out HE.out.symm
   rw [AX.out] at z1 z2 z3
   have AO2:=AO.out
   rw [AX.out] at AO2
   have hW2:=HW.out.later HB2.out
   have PU:=h_ ((writer_put N g bv (.agg #[.int .i64 0,.int .i64 (sq + 1),.slice ax nx cx]) cs es (0,sq + 1,clcO cs ps) Q w2 hW2 (fun j hj=>Nat.lt_of_lt_of_le (HQ.out j hj) HB2.out.size) (by have:=HN1.out;omega) ⟨_,rfl,HX2.out⟩ AO2 (HT.out.later HB2.out) (HF.out.later HB2.out)).mono fun e w' h=>(h.from HB2.out).as z1 z2 z3)
   clear z1 z2 z3 AO2 hW2 HX2
   go_wp2_with fail
   refine PU.out.mono ?_
   rintro e w3 ⟨x,bn,rfl,hx,hw,hO,hp⟩
   obtain ⟨ax,nx,cx,rfl⟩:=hx.lit13
   have HH:=h_ (And.intro hx (And.intro hw (And.intro hO hp)))
   clear hx hw hO hp PU
   go_wp2
   go_ret2
   exact ⟨_,_,rfl,HH.out⟩
  ·have q:((E:Int) != 0)=true:=by rw [bne_iff_ne];omega
   have HN:=h_ h0
   clear h0
   go_wp2
   go_ret2
   obtain ⟨z1,z2,z3⟩:=A2.out HN1.out (by rw [← HE.out];exact HN.out)
   exact StO.no HW.out HB2.out (by rw [z1];exact HE.out.symm) z2 z3 rfl
set_option maxHeartbeats 4000000 in
theorem writer_Snap (N g:Nat) (bv:Value) (cs:List ColB) (es:List EntB) (qs:List PairB) (Q:Nat→Prop) (w:World) (hW:Wr w N g bv cs es Q) (hQ:∀ j,Q j→j < w.heap.size) (hP:PSO qs) (k:Int) (hk:k≠0) (hT:Tabs w) (hF:Frs w) :
  Calls Tryz.prog 16 #[.pointer (some ⟨g,0,none⟩)] w (StO w N g bv cs Q (actE cs es (k,qs)) (actB cs es (k,qs)) (actS cs es (k,qs))):=by
 have RY:=h_ (writer_ready N g bv cs es Q w hW)
 have A1:=h_ (fun h=>act_full (cs:=cs) (es:=es) (a:=(k,qs)) h)
 have A3:=fun h=>act_lay (cs:=cs) (es:=es) (a:=(k,qs)) h fun h=>absurd h hk
 have AX:actX cs es (k,qs)=(1,(trE cs es).2.1,(trE cs es).2.2.1):=if_neg hk
 have AO:=actX_ok (cs:=cs) (es:=es) (a:=(k,qs)) hW.trs hP
 have HW:=h_ hW
 obtain ⟨sv,vv,hB,hS,hV⟩:=hW.box
 obtain ⟨av,nv,cv,rfl⟩:=hV.rd.lit12
 rw [AX] at A3 AO
 have hQd:∀ j,Q j→j < w.drew.heap.size:=hQ
 have PU:=fun h=>writer_put N g bv (.agg #[.int .i64 1,.int .i64 (trE cs es).2.1,.slice av nv cv]) cs es (1,(trE cs es).2.1,(trE cs es).2.2.1) Q w.drew hW.drew hQd h ⟨_,rfl,hV.rd.drew⟩ AO (hT.later (Below.refl _ _).drew) (hF.later (Below.refl _ _).drew)
 have HBX:=h_ hB
 obtain ⟨sq,hsq⟩:∃ sq,sq=(trE cs es).2.1:=⟨_,rfl⟩
 obtain ⟨vw,hvw⟩:∃ vw,vw=(trE cs es).2.2.1:=⟨_,rfl⟩
 rw [← hsq] at HBX
 rw [← hsq,← hvw] at PU A3
 have q0:=(HBX.out.later (Below.refl _ _).drew).cells
 obtain ⟨c0,c1,c2,c3,c4⟩:=HBX.out.cells
 clear hW hQ hQd hT hF hB hS hV hP hsq hvw AO
 by_cases h1:4096≤es.length
 ·obtain ⟨z1,z2,z3⟩:=A1.out h1
  rw [if_pos h1] at RY
  have HZ:=h_ (And.intro z1 (And.intro z2 z3))
  clear z1 z2 z3 h1 A3 PU
  go_enter Tryz.func16,Tryz.ntmps16
  go_wp2_with fail
  refine RY.out.mono ?_
  rintro e w1 ⟨rfl,rfl⟩
  go_wp2
  go_ret2
  exact StO.no HW.out (Below.refl _ _) HZ.out.1 HZ.out.2.1 HZ.out.2.2 rfl
 ·rw [if_neg h1] at RY
  obtain ⟨z1,z2,z3⟩:=A3 h1
  have HPU:=h_ ((PU (by omega)).mono fun e w' h=>(h.from (Below.refl w.heap.size w).drew).as z1 z2 z3)
  have Q1:=h_ (fun wz (hz:Below w.heap.size w wz)=>And.intro hz (And.intro (HBX.out.later hz).cells.2.2.2.1 (HBX.out.later hz).cells.2.2.2.2))
  clear z1 z2 z3 h1 A3 PU A1
  go_enter Tryz.func16,Tryz.ntmps16
  go_wp2_with fail
  refine RY.out.mono ?_
  rintro e w1 ⟨rfl,rfl⟩
  go_wp2_with fail
  go_region_with (go_at_call 41;refine HPU.out.mono ?_;rintro e w3 ⟨x,bn,rfl,hx,hw,hO,hp⟩)
  all_goals
   obtain ⟨ax,nx,cx,rfl⟩:=hx.lit13
   have HH:=h_ (And.intro hx (And.intro hw (And.intro hO hp)))
   clear hx hw hO hp
   go_wp2
   go_ret2
   exact ⟨_,_,rfl,HH.out⟩
section
variable {w:World} {N g:Nat} {bv:Value} {cs:List ColB} {es:List EntB} {Q:Nat→Prop}
set_option maxHeartbeats 1000000 in
theorem writer_Seq (hW:Wr w N g bv cs es Q):Calls Tryz.prog 18 #[.pointer (some ⟨g,0,none⟩)] w fun e w'=>e=.returned (.int .i64 (trE cs es).2.1)∧w=w':=by
 obtain ⟨sv,vv,hB,_⟩:=hW.box
 obtain ⟨c0,c1,c2,c3,c4⟩:=hB.cells
 obtain ⟨sq,hsq⟩:∃ sq,sq=(trE cs es).2.1:=⟨_,rfl⟩
 rw [← hsq] at c3 ⊢
 clear hW hB hsq
 go_enter Tryz.func18,Tryz.ntmps18
 go_wp2
 go_ret
 exact ⟨rfl,rfl⟩
set_option maxHeartbeats 1000000 in
theorem writer_Many (hW:Wr w N g bv cs es Q):Calls Tryz.prog 19 #[.pointer (some ⟨g,0,none⟩)] w fun e w'=>e=.returned (.int .i64 (es.length:Int))∧w=w':=by
 obtain ⟨sv,vv,hB,_⟩:=hW.box
 obtain ⟨c0,c1,c2,c3,c4⟩:=hB.cells
 obtain ⟨m,hm⟩:∃ m,m=es.length:=⟨_,rfl⟩
 rw [← hm] at c2 ⊢
 clear hW hB hm
 go_enter Tryz.func19,Tryz.ntmps19
 go_wp2
 go_ret
 exact ⟨rfl,rfl⟩
set_option maxHeartbeats 1000000 in
theorem writer_Bytes (hW:Wr w N g bv cs es Q):Calls Tryz.prog 21 #[.pointer (some ⟨g,0,none⟩)] w (RetB w (trE cs es).1):=by
 obtain ⟨sv,vv,hB,_⟩:=hW.box
 obtain ⟨c0,c1,c2,c3,c4⟩:=hB.cells
 have CL:=h_ (bytes_Clone bv (trE cs es).1 w hW.rd (by have:=hW.trs.small;omega))
 obtain ⟨ab,nb,cb,rfl⟩:=hW.own.lit13
 obtain ⟨L,hL⟩:∃ L,L=(trE cs es).1:=⟨_,rfl⟩
 rw [← hL] at CL ⊢
 clear hW hB hL
 go_enter Tryz.func21,Tryz.ntmps21
 go_wp2_with fail
 refine CL.out.mono ?_
 rintro e w1 ⟨v,rfl,ho,hb⟩
 obtain ⟨a1,n1,k1,rfl⟩:=ho.lit13
 have HO:=h_ (And.intro ho hb)
 clear ho hb CL
 go_wp2
 go_ret
 exact ⟨_,rfl,HO.out⟩
set_option maxHeartbeats 1000000 in
theorem writer_Schema (hW:Wr w N g bv cs es Q):Calls Tryz.prog 23 #[.pointer (some ⟨g,0,none⟩)] w fun e w'=>∃ v,e=.returned v∧OwnC w' w.heap.size v cs∧Below w.heap.size w w':=by
 obtain ⟨sv,vv,hB,hS,hV⟩:=hW.box
 obtain ⟨c0,c1,c2,c3,c4⟩:=hB.cells
 have hl:cs.length≤8:=by have:=(errS_zero hW.trs.parts.1).2.1;rw [colsL_length] at this;exact this
 have CL:=h_ (cols_Clone sv cs w hS.1 (by omega))
 obtain ⟨ac,nc,cc,rfl⟩:=(show RdC w sv cs from hS.1).lit12
 clear hW hB hS hV
 go_enter Tryz.func23,Tryz.ntmps23
 go_wp2_with fail
 refine CL.out.mono ?_
 rintro e w1 ⟨v,rfl,ho,hb⟩
 obtain ⟨a1,n1,k1,rfl⟩:=(ho.rd (by omega)).lit12
 have HO:=h_ (And.intro ho hb)
 clear ho hb CL
 go_wp2
 go_ret
 exact ⟨_,rfl,HO.out⟩
set_option maxHeartbeats 8000000 in
theorem writer_View (hW:Wr w N g bv cs es Q):Calls Tryz.prog 22 #[.pointer (some ⟨g,0,none⟩)] w fun e w'=>∃ v,e=.returned v∧OwnPR w' w.heap.size v (trE cs es).2.2.1∧Below w.heap.size w w':=by
 obtain ⟨sv,vv,hB,hS,hV⟩:=hW.box
 obtain ⟨c0,c1,c2,c3,c4⟩:=hB.cells
 have hset:=hW.trs.set
 have hfew:=hset.few
 have hrow:∀ k,k < (trE cs es).2.2.1.length→((trE cs es).2.2.1.getD k default).1.length≤8:=fun k hk=>by
  have hm:(trE cs es).2.2.1.getD k default ∈ (trE cs es).2.2.1:=by simp [List.getD,hk]
  obtain ⟨g1,g2,_⟩:=errRow_len (hset.all _ hm).1
  have:=((errS_iffR (colsL cs)).1 g1).1.2
  unfold colsL at this;rw [List.length_map] at this;omega
 have hrd:=hV.rd
 obtain ⟨qs,hqs⟩:∃ qs,qs=(trE cs es).2.2.1:=⟨_,rfl⟩
 rw [← hqs] at hrow hrd hfew ⊢
 have HR8:=h_ hrow
 obtain ⟨us,hu1,hu2,hu3⟩:=id hrd
 have hul:us.length=qs.length:=by rw [hu1,List.length_map]
 have CP:=h_ (pairs_Clone vv us w hu2 hu3 (by omega))
 have HU:=h_ (And.intro hu1 hu3)
 obtain ⟨av,nv,cv,rfl⟩:=hrd.lit12
 clear hW hB hS hV hset hqs hrow hu1 hu2 hu3 hrd
 go_enter Tryz.func22,Tryz.ntmps22
 go_wp2_with fail
 refine CP.out.mono ?_
 rintro e w3 ⟨v4,rfl,ho,hb⟩
 have HO5:=h_ (show OwnP w3 w.heap.size v4 qs from ⟨us,HU.out.1,ho,fun t ht=>⟨(HU.out.2 t ht).later hb l_,fun g hg=>(HU.out.2 t ht).offNew (ho.lt hg).1⟩⟩)
 have HB4:=h_ hb
 obtain ⟨n,hn⟩:∃ n,n=qs.length:=⟨_,rfl⟩
 have hlen:=(HO5.out.rd (by omega)).len
 rw [← hn] at hlen hfew
 have HNN:=h_ hn
 obtain ⟨a4,n4,k4,rfl⟩:=(HO5.out.rd (by rw [← hn];omega)).lit12
 obtain ⟨v4,hv4⟩:∃ v4:Value,v4=.slice a4 n4 k4:=⟨_,rfl⟩
 rw [← hv4] at HO5 hlen ⊢
 clear ho hb CP HU hul hn hv4 c0 c1 c2 c3 c4
 go_wp2
 go_loopw [16] (fun i wr=>∃ k:Nat,k≤n∧i=.int .i64 k∧Hid (OwnP wr w.heap.size v4 qs)∧Hid (Below w.heap.size w wr)∧Hid (∀ j,j < k→OwnAt wr w.heap.size v4 qs j)) (fun i _=>n - (intOf i).toNat)
 case atStart=>exact ⟨0,by omega,rfl,HO5,HB4,h_ (fun j hj=>absurd hj (by omega))⟩
 case round =>
  clear HO5
  obtain ⟨k,hk,rfl,HO,HB,HNw⟩:=hrel
  by_cases hlt:k < n
  ·have k1:k < qs.length:=by rw [← HNN.out];exact hlt
   obtain ⟨b,o,rv,hi,c0,c1,re,hbl⟩:=(HO.out.rd (by rw [← HNN.out];omega)).get k1
   obtain ⟨g,cap,hv4,hbg,hgl,hrow⟩:=HO.out.row (by omega) (by rw [← HNN.out];omega)
   have hadr:∀ q,adr v4 q=⟨g,q,none⟩:=fun q=>by rw [hv4,adr_lit,Nat.zero_add]
   have hog:v4.ownBlock=some g:=by rw [hv4];rfl
   obtain ⟨hix,hst⟩:=hrow k k1
   have heq:=(hi wr).symm.trans (hix wr)
   simp only [Result.ok.injEq,Value.pointer.injEq,Option.some.injEq,Addr.mk.injEq,and_true] at heq
   obtain ⟨rfl,rfl⟩:=heq
   obtain ⟨ao,nn,cap',rfl⟩:=re.lit
   have hr8:=HR8.out k k1
   obtain ⟨p,hp⟩:∃ p,p=qs.getD k default:=⟨_,rfl⟩
   rw [← hp] at c1 re hst hr8
   have HPk:=h_ hp
   rcases p with ⟨r,x⟩
   dsimp only at c1 re hst hr8
   have NN:=h_ (new1 wr (.cells #[.slice ao nn cap',.int .i64 x] 78))
   have HBN:=h_ (HB.out.trans (NN.out.2.2.mono HB.out.size))
   have CC:=h_ (cells_Clone _ r _ (re.later NN.out.2.2 l_) (by omega))
   have HOa:=h_ (HO.out.later NN.out.2.2 l_)
   have HST:=h_ hst
   have HOG:=h_ hog
   have hsa:=NN.out.1
   have hsr:=HB.out.size
   have hsn:=HBN.out.size
   have HAd:=h_ hadr
   clear hp k1 hi hrow re hst HO hv4 hadr hog
   go_wp2_with fail
   refine CC.out.mono ?_
   rintro e w5 ⟨v5,rfl,ho5,hb5⟩
   obtain ⟨ao5,n5,cap5,rfl⟩:=(ho5.rd (by omega)).lit
   have HO5:=h_ (HOa.out.later hb5 l_)
   have HB5:=h_ (HBN.out.trans (hb5.mono (by omega)))
   obtain ⟨⟨x5,hc5⟩,hf5,hs5⟩:=HST.out w5 HO5.out
   obtain ⟨ty,hty⟩:∃ c,w5.heap[b]?=some (.cells c 78 (0,0)):=by
    obtain ⟨ts,_,hG,_⟩:=HO5.out
    exact hG.own_type HOG.out
   have HO6:=h_ (hs5 _ (ho5.rd (by omega)) (ho5.offB (by omega)))
   have HB6:=h_ (HB5.out.setCell (p:=⟨b,k * 2,none⟩) (by show w.heap.size≤b;omega) (.slice ao5 n5 cap5))
   have hon:OwnE (w5.setCell ⟨b,k * 2,none⟩ (.slice ao5 n5 cap5)) w.heap.size (.slice ao5 n5 cap5) r :=
    OwnG.stay (ho5.lower (by omega)) (S:=fun q=>q=b) ((Only.refl (fun q=>q=b) w5).setCell (p:=⟨b,k * 2,none⟩) rfl _) fun q hq e=>by
     subst e
     exact OwnG.notOf ho5 hty (by decide) hq
   have HN6:=h_ (show ∀ j,j < k + 1→OwnAt (w5.setCell ⟨b,k * 2,none⟩ (.slice ao5 n5 cap5)) w.heap.size v4 qs j from fun j hj=>by
    by_cases e:j=k
    ·subst e
     exact ⟨.slice ao5 n5 cap5,by rw [HAd.out];exact cell_set_same hc5,by rw [← HPk.out];exact hon⟩
    ·have h9:=(((HNw.out j (by omega)).later NN.out.2.2).later hb5)
     exact h9.set (HAd.out _) (by omega) hty _)
   clear ho5 hb5 HST hs5 HOa CC HBN NN c0 c1 HO5 HB5 HAd HPk HNw hty hon HOG
   go_wp2
   go_roundw
   case rel=>exact ⟨k + 1,by omega,by go_num,HO6,HB6,HN6⟩
   case measure=>simp [intOf];omega
  ·obtain rfl:k=n:=by omega
   go_wp2
   go_ret
   exact ⟨_,rfl,⟨HO.out,fun j hj=>HNw.out j (by rw [HNN.out];exact hj)⟩,HB.out⟩
end
section
variable (w:World)
end
end Go.Proofs.YtpcobefhgkiolaaGreatDoor


/- -/
namespace Go.Proofs.YtpcobefhgkiolaaGreatDoor
open Go.RowKit Go.Shelf
end Go.Proofs.YtpcobefhgkiolaaGreatDoor


/- -/
namespace Go.Proofs.YtpcobefhgkiolaaGreatDoor
open Go.RowKit Go.Shelf
section
variable {cs:List ColB} {es:List EntB} {a:ActB}
theorem act_small (cs:List ColB) (es:List EntB) (a:ActB):(actB cs es a).length≤1048591:=by
 unfold actB
 split
 ·exact entW_small _ _
 ·simp
theorem act_many (hE:actE cs es a=0):(actS cs es a).length=es.length + 1:=by
 unfold actS
 rw [if_pos hE,List.length_append];rfl
theorem TrS.back (h:TrS cs es):(trD (trE cs es).1).1=cs∧(trD (trE cs es).1).2.1=es∧(trD (trE cs es).1).2.2.2.1=(trE cs es).1.length∧(trD (trE cs es).1).2.2.2.2=0:=(trE_back h.en h.ok).2
end
theorem StO.slice14 {w w':World} {N g:Nat} {bv:Value} {cs:List ColB} {Q:Nat→Prop} {E:Nat} {B:List UInt8} {es':List EntB} {e:Ending} (h:StO w N g bv cs Q E B es' e w') :
  ∃ ax nx cx bn,e=.returned (.tuple #[.slice ax nx cx,.int .i64 (E:Int)])∧Own w' w.heap.size (.slice ax nx cx) B∧Wr w' N g bn cs es' (fun j=>Q j∨(Value.slice ax nx cx).ownBlock=some j)∧Only (fun j=>j=g∨bv.ownBlock=some j) w w'∧Place w bv bn:=by
 obtain ⟨x,bn,he,hx,hw,hO,hp⟩:=h
 obtain ⟨a,n,c,rfl⟩:=hx.lit13
 exact ⟨a,n,c,bn,he,hx,hw,hO,hp⟩
end Go.Proofs.YtpcobefhgkiolaaGreatDoor


/- -/
namespace Go.Proofs.YtpcobefhgkiolaaGreatDoor
open Go.RowKit Go.Shelf
def Shp (w w':World):Prop:=∀ (j:Nat) (cur:Array Value) (ty:TypeId) (z:Nat × Nat),w.heap[j]?=some (.cells cur ty z)→∃ cur':Array Value,w'.heap[j]?=some (.cells cur' ty z)∧cur'.size=cur.size
theorem Shp.refl (w:World):Shp w w:=fun _ cur _ _ h=>⟨cur,h,rfl⟩
theorem Shp.trans {a b c:World} (h:Shp a b) (k:Shp b c):Shp a c:=fun j cur ty z e=>by
 obtain ⟨c1,e1,s1⟩:=h j cur ty z e
 obtain ⟨c2,e2,s2⟩:=k j c1 ty z e1
 exact ⟨c2,e2,s2.trans s1⟩
theorem Shp.later {w w':World} (hb:Below w.heap.size w w'):Shp w w':=fun j cur ty z e=>⟨cur,(hb.block j (Array.getElem?_eq_some_iff.1 e).1).trans e,rfl⟩
structure Trn (P:Nat→Prop) (ty:TypeId) (w w':World):Prop where
 only:Only P w w'
 shp:Shp w w'
 typed:∀ (j:Nat) (o:Obj),w.heap[j]?=some o→(∀ cur z,o≠.cells cur ty z)→w'.heap[j]?=some o
section
variable {P Q:Nat→Prop} {ty:TypeId} {a b c w w':World}
theorem Trn.refl (P:Nat→Prop) (ty:TypeId) (w:World):Trn P ty w w:=⟨Only.refl P w,Shp.refl w,fun _ _ h _=>h⟩
theorem Trn.trans (h:Trn P ty a b) (k:Trn Q ty b c) (hQ:∀ j,j < a.heap.size→Q j→P j):Trn P ty a c :=
 ⟨h.only.trans9 k.only hQ,h.shp.trans k.shp,fun j o e n=>k.typed j o (h.typed j o e n) n⟩
theorem Trn.later (hb:Below w.heap.size w w'):Trn P ty w w' :=
 ⟨hidOnly hb l_,Shp.later hb,fun j o e _=>(hb.block j (Array.getElem?_eq_some_iff.1 e).1).trans e⟩
theorem Trn.set {g i:Nat} {cur:Array Value} {z:Nat × Nat} (hg:w.heap[g]?=some (.cells cur ty z)) (hP:P g) (u:Value):Trn P ty w (w.setCell ⟨g,i,none⟩ u):=by
 have hgr:w.grownBy (w.setCell ⟨g,i,none⟩ u) (some g):=grown_setCell (World.grownBy.refl _ _) u
 have ho:∀ j (o:Obj),w.heap[j]?=some o→j≠g→(w.setCell ⟨g,i,none⟩ u).heap[j]?=some o:=fun j o e hj =>
  (hgr.block j (Array.getElem?_eq_some_iff.1 e).1 (by simpa using hj)).trans e
 refine ⟨(Only.refl P w).setCell hP u,fun j c t y e=>?_,fun j o e n=>?_⟩
 ·by_cases hj:j=g
  ·subst hj
   rw [hg] at e
   injection e with e
   injection e with e1 e2 e3
   subst e1 e2 e3
   exact ⟨_,block_setCell hg u,by simp⟩
  ·exact ⟨c,ho j _ e hj,rfl⟩
 ·by_cases hj:j=g
  ·subst hj
   rw [hg] at e
   injection e with e
   exact absurd e.symm (n _ _)
  ·exact ho j o e hj
end
def Wsl (E:Elt) (P:Nat→Prop) (w:World) (v:Value) (n:Nat):Prop :=
 (∀ u,(Builtin.len_ #[E.S] 3 #[v]).run Tryz.prog u=.ok (.int .i64 (n:Int)) u) ∧
 ∀ i,i < n→∃ (g o:Nat) (cur:Array Value),(∀ u,(Instr.indexAt E.S v (.int .i64 (i:Int))).run Tryz.prog u=.ok (.pointer (some ⟨g,o,none⟩)) u)∧P g∧w.heap[g]?=some (.cells cur E.T (0,0))∧o + E.n≤cur.size
section
variable {E:Elt} {P Q S:Nat→Prop} {w w':World} {v:Value} {n base:Nat} {vs:List (List Value)}
theorem Wsl.shp (h:Wsl E P w v n) (hs:Shp w w'):Wsl E P w' v n:=by
 refine ⟨h.1,fun i hi=>?_⟩
 obtain ⟨g,o,cur,h1,h2,h3,h4⟩:=h.2 i hi
 obtain ⟨c2,e2,s2⟩:=hs g cur _ _ h3
 exact ⟨g,o,c2,h1,h2,e2,by omega⟩
theorem Wsl.only (h:Wsl E P w v n) (hO:Only S w w') (hP:∀ j,P j→¬ S j):Wsl E P w' v n:=by
 refine ⟨h.1,fun i hi=>?_⟩
 obtain ⟨g,o,cur,h1,h2,h3,h4⟩:=h.2 i hi
 exact ⟨g,o,cur,h1,h2,hO.keep h3 (hP g h2),h4⟩
theorem Wsl.more (h:Wsl E P w v n) (hP:∀ j,P j→Q j):Wsl E Q w v n :=
 ⟨h.1,fun i hi=>by
  obtain ⟨g,o,cur,h1,h2,h3,h4⟩:=h.2 i hi
  exact ⟨g,o,cur,h1,hP g h2,h3,h4⟩⟩
theorem OwnG.wsl (hE:E.Ok) (h:OwnG E w base v vs) (hs:vs.length≤140737488351232):Wsl E (fun j=>v.ownBlock=some j) w v vs.length:=by
 have hr:=h.rd hs
 refine ⟨RdG.len hr hE,fun i hi=>?_⟩
 have hx:=RdG.idx hr hE i hi
 rcases h.1.2 with ⟨rfl,hn⟩ | ⟨g,cap,cur,rfl,hbg,hg,hn,hm,hz,ht⟩
 ·omega
 ·rw [adr_lit,Nat.zero_add] at hx
  refine ⟨g,i * E.n,cur,hx,rfl,hg,?_⟩
  have h1:(i + 1) * E.n≤cap * E.n:=Nat.mul_le_mul_right _ (by omega)
  rw [Nat.add_mul,Nat.one_mul] at h1
  omega
end
def Wps (P:Nat→Prop) (w:World) (v:Value) (n:Nat):Prop :=
 (∀ u,(Builtin.len_ #[33] 3 #[v]).run Tryz.prog u=.ok (.int .i64 (n:Int)) u) ∧
 ∀ k,k < n→∃ (b o:Nat) (c:Array Value) (z:Nat × Nat) (ar:Option Addr) (nr cr:Nat) (x:Int),(∀ u,(Instr.indexAt 33 v (.int .i64 (k:Int))).run Tryz.prog u=.ok (.pointer (some ⟨b,o,none⟩)) u)∧P b ∧
  w.heap[b]?=some (.cells c 78 z)∧c[o]?=some (.slice ar nr cr)∧c[o + 1]?=some (.int .i64 x)∧Wsl cellE P w (.slice ar nr cr) nr∧nr≤140737488351232
section
variable {P Q S:Nat→Prop} {w w':World} {v:Value} {n base:Nat} {qs:List PairB}
theorem Wps.trn {ty:TypeId} (h:Wps P w v n) (ht:Trn Q ty w w') (hty:78≠ty):Wps P w' v n:=by
 refine ⟨h.1,fun k hk=>?_⟩
 obtain ⟨b,o,c,z,ar,nr,cr,x,h1,hp,h2,h3,h4,h5,h6⟩:=h.2 k hk
 exact ⟨b,o,c,z,ar,nr,cr,x,h1,hp,ht.typed b _ h2 (fun cur z e=>by injection e with _ e _;exact hty e),h3,h4,h5.shp ht.shp,h6⟩
theorem Wps.only (h:Wps P w v n) (hO:Only S w w') (hP:∀ j,P j→¬ S j):Wps P w' v n:=by
 refine ⟨h.1,fun k hk=>?_⟩
 obtain ⟨b,o,c,z,ar,nr,cr,x,h1,hp,h2,h3,h4,h5,h6⟩:=h.2 k hk
 exact ⟨b,o,c,z,ar,nr,cr,x,h1,hp,hO.keep h2 (hP b hp),h3,h4,h5.only hO hP,h6⟩
theorem Wps.later (h:Wps P w v n) (hb:Below w.heap.size w w'):Wps P w' v n :=
 h.only (S:=fun _=>False) (hidOnly hb l_) fun _ _ h=>h
theorem Wps.get (h:Wps P w v n) {k:Nat} (hk:k < n):∃ (b o:Nat) (ar:Option Addr) (nr cr:Nat) (x:Int),(∀ u,(Instr.indexAt 33 v (.int .i64 (k:Int))).run Tryz.prog u=.ok (.pointer (some ⟨b,o,none⟩)) u)∧b < w.heap.size ∧
  w.cell? ⟨b,o,none⟩=some (.slice ar nr cr)∧w.cell? ⟨b,o + 1,none⟩=some (.int .i64 x)∧Wsl cellE P w (.slice ar nr cr) nr∧nr≤140737488351232:=by
 obtain ⟨b,o,c,z,ar,nr,cr,x,h1,hp,h2,h3,h4,h5,h6⟩:=h.2 k hk
 exact ⟨b,o,ar,nr,cr,x,h1,(Array.getElem?_eq_some_iff.1 h2).1,(cell_of_row _ _ _ _ _ _ h2).trans h3,(cell_of_row _ _ _ _ _ _ h2).trans h4,h5,h6⟩
theorem Wsl.get {E:Elt} (h:Wsl E P w v n) {i:Nat} (hi:i < n) (h2:E.n=2):∃ (g o:Nat) (x y:Value),(∀ u,(Instr.indexAt E.S v (.int .i64 (i:Int))).run Tryz.prog u=.ok (.pointer (some ⟨g,o,none⟩)) u)∧P g ∧
  w.cell? ⟨g,o,none⟩=some x∧w.cell? ⟨g,o + 1,none⟩=some y∧w.frozen? ⟨g,o,none⟩=false∧w.frozen? ⟨g,o + 1,none⟩=false∧∀ a b,Trn P E.T w ((w.setCell ⟨g,o,none⟩ a).setCell ⟨g,o + 1,none⟩ b):=by
 obtain ⟨g,o,cur,h1,hp,h3,h4⟩:=h.2 i hi
 rw [h2] at h4
 refine ⟨g,o,cur[o]'(by omega),cur[o + 1]'(by omega),h1,hp,?_,?_,frozen_of_row _ _ _ _ _ h3,frozen_of_row _ _ _ _ _ h3,fun a b=>?_⟩
 ·rw [cell_of_row _ _ _ _ _ _ h3];simp
 ·rw [cell_of_row _ _ _ _ _ _ h3];simp
 ·exact (Trn.set h3 hp a).trans (Trn.set (block_setCell h3 a) hp b) fun _ _ h=>h
theorem Wps.more (h:Wps P w v n) (hP:∀ j,P j→Q j):Wps Q w v n :=
 ⟨h.1,fun k hk=>by
  obtain ⟨b,o,c,z,ar,nr,cr,x,h1,hp,h2,h3,h4,h5,h6⟩:=h.2 k hk
  exact ⟨b,o,c,z,ar,nr,cr,x,h1,hP b hp,h2,h3,h4,h5.more hP,h6⟩⟩
theorem Own.trn {ty:TypeId} {l:List UInt8} (h:Own w base v l) (ht:Trn Q ty w w') (hty:5≠ty):Own w' base v l:=by
 refine ⟨h.1,?_⟩
 rcases h.2 with h2 | ⟨g,cap,cur,rfl,hbg,hg,r⟩
 ·exact .inl h2
 ·exact .inr ⟨g,cap,cur,rfl,hbg,ht.typed g _ hg (fun cur z e=>by injection e with _ e _;exact hty e),r⟩
theorem Own.trn_set {l:List UInt8} (h:Own w base v l) {i:Nat} (hi:i < l.length) (hP:∀ q,v.ownBlock=some q→P q) (b:UInt8):Trn P 5 w (w.setCell (adr v i) (cellB b)):=by
 obtain ⟨h0,h2⟩:=h
 rcases h2 with ⟨rfl,hn⟩ | ⟨g,cap,cur,rfl,hbg,hg,hn,hm,hs,ht⟩
 ·exact absurd hi (by omega)
 ·have e:adr (.slice (some ⟨g,0,none⟩) l.length cap) i=⟨g,i,none⟩:=by
   simp only [adr,Addr.add];split <;> simp_all
  rw [e]
  exact Trn.set hg (hP g rfl) _
def OwnQ (w:World) (base:Nat) (v:Value) (ps:List PairB):Prop:=∃ ts:List TriB,ps=ts.map (·.2)∧OwnG pairE w base v (ts.map triV)∧∀ t ∈ ts,OwnE w base t.1 t.2.1∧t.2.1.length≤140737488351232
theorem OwnQ.nil (w:World) (base:Nat):OwnQ w base (.slice none 0 0) []:=⟨[],rfl,OwnG.nil pairE w base,by simp⟩
theorem OwnQ.later {ps:List PairB} (h:OwnQ w base v ps) (hb:Below w.heap.size w w'):OwnQ w' base v ps:=by
 obtain ⟨ts,e,h1,h2⟩:=h
 exact ⟨ts,e,h1.later hb l_,fun t ht=>⟨(h2 t ht).1.later hb l_,(h2 t ht).2⟩⟩
theorem OwnQ.lt {ps:List PairB} (h:OwnQ w base v ps) {k:Nat} (hk:v.ownBlock=some k):base≤k∧k < w.heap.size:=by
 obtain ⟨ts,e,h1,h2⟩:=h
 exact h1.lt hk
theorem OwnQ.rd {ps:List PairB} (h:OwnQ w base v ps) (hs:ps.length≤140737488351232):RdP w v ps:=by
 obtain ⟨ts,rfl,h1,h2⟩:=h
 exact ⟨ts,rfl,h1.rd (by simpa using hs),fun t ht=>(h2 t ht).1.rd (h2 t ht).2⟩
theorem OwnQ.wps {ps:List PairB} (h:OwnQ w base v ps) (hs:ps.length≤140737488351232):Wps (fun j=>base≤j∧j < w.heap.size) w v ps.length:=by
 obtain ⟨ts,rfl,h1,h2⟩:=h
 rw [List.length_map] at hs ⊢
 have hr:=h1.rd (by simpa using hs)
 have hl:=RdG.len hr pairOk
 rw [List.length_map] at hl
 refine ⟨hl,fun k hk=>?_⟩
 have hk':k < (ts.map triV).length:=by simpa using hk
 have hx:=RdG.idx hr pairOk k hk'
 have hc:=fun j u=>RdG.cells hr k hk' j u
 have eg:(ts.map triV).getD k []=triV ts[k]:=by simp [List.getD,hk]
 rw [eg] at hc
 have c0:=hc 0 _ rfl
 have c1:=hc 1 _ rfl
 obtain ⟨o1,o2⟩:=h2 ts[k] (List.getElem_mem _)
 obtain ⟨ar,cr,ev,_⟩:=RdG.shape (o1.rd o2)
 rw [List.length_map] at ev
 have hw:=OwnG.wsl cellOk o1 (by simpa using o2)
 rw [List.length_map] at hw
 rcases h1.1.2 with ⟨_,hn⟩ | ⟨g,cap,cur,rfl,hbg,hg,hn,hm,hz,ht⟩
 ·rw [List.length_map] at hn;omega
 ·rw [adr_lit,Nat.zero_add] at hx c0 c1
  rw [cell_of_row _ _ _ _ _ _ hg] at c0 c1
  refine ⟨g,k * 2,cur,(0,0),ar,ts[k].2.1.length,cr,ts[k].2.2,hx,⟨hbg,(Array.getElem?_eq_some_iff.1 hg).1⟩,hg,?_,c1,?_,o2⟩
  ·rw [← ev];exact c0
  ·rw [← ev];exact hw.more fun j hj=>o1.lt hj
theorem ownQ_snoc {ts:List TriB} {v' rv:Value} {p:PairB} (h1:OwnG pairE w base v (ts.map triV)) (h2:∀ t ∈ ts,OwnE w base t.1 t.2.1∧t.2.1.length≤140737488351232) (hr:OwnE w base rv p.1) (hp:p.1.length≤140737488351232) (hg:w.grownBy w' v.ownBlock)
  (ho:OwnG pairE w' base v' (ts.map triV ++ [triV (rv,p)])):OwnQ w' base v' (ts.map (·.2) ++ [p]):=by
 have hk:∀ (u:Value) (r:List CellB),OwnE w base u r→OwnE w' base u r:=fun u r hu=>hu.grown hg fun k hk e=>by
  obtain ⟨c,hc⟩:=OwnG.own_type h1 e.symm
  exact OwnG.notOf hu hc (by decide) hk
 refine ⟨ts ++ [(rv,p)],by rw [List.map_append];rfl,by rw [List.map_append];exact ho,fun t ht=>?_⟩
 rcases List.mem_append.1 ht with ht | ht
 ·exact ⟨hk _ _ (h2 t ht).1,(h2 t ht).2⟩
 ·rw [List.mem_singleton.1 ht]
  exact ⟨hk _ _ hr,hp⟩
theorem triV_cells (w:World) (rv:Value) (p:PairB):∀ j z,(triV (rv,p))[j]?=some z→(w.alloc (.cells #[rv,.int .i64 p.2] 78)).cell? ((⟨w.heap.size,0,none⟩:Addr).add j)=some z:=fun j z hj=>by
 have e:Addr.add ⟨w.heap.size,0,none⟩ j=⟨w.heap.size,j,none⟩:=by simp only [Addr.add];split <;> simp_all
 rw [e,cell_of_row _ _ _ _ _ _ (heap_alloc_new w _)]
 simpa [triV] using hj
theorem OwnPR.ownQ (h:OwnPR w base v qs) (hs:qs.length≤140737488351232):OwnQ w base v qs:=by
 obtain ⟨⟨ts,rfl,h1,h2⟩,h3⟩:=h
 rw [List.length_map] at hs h3
 have hr:=h1.rd (by simpa using hs)
 refine ⟨ts,rfl,h1,fun t ht=>⟨?_,(h2 t ht).1.small⟩⟩
 obtain ⟨k,hk,rfl⟩:=List.getElem_of_mem ht
 obtain ⟨rv,c,ho⟩:=h3 k hk
 have hk':k < (ts.map triV).length:=by simpa using hk
 have hc:=RdG.cells hr k hk' 0
 have eg:(ts.map triV).getD k []=triV ts[k]:=by simp [List.getD,hk]
 rw [eg] at hc
 have c0:=hc _ rfl
 have e:(ts.map (·.2)).getD k default=ts[k].2:=by simp [List.getD,hk]
 rw [e] at ho
 have:adr v (k * pairE.n + 0)=adr v (k * 2):=rfl
 rw [this,c] at c0
 injection c0 with c0
 rw [← c0];exact ho
end
end Go.Proofs.YtpcobefhgkiolaaGreatDoor

