/- -/
import Derived.Test.YtlapgdocpndfiaaGreatDoorUBatRef
import Derived.Test.YtlapgdocpndfiaaGreatDoorUFrame
import Derived.Test.YtlapgdocpndfiaaGreatDoorUZN
set_option maxHeartbeats 8000000
set_option linter.unusedVariables false
set_option linter.unusedSimpArgs false
set_option maxRecDepth 1000000
namespace Go.Proofs.YtlapgdocpndfiaaGreatDoor
open _root_.Go.Proofs.Tryz
open Go.RowKit Go.Shelf
theorem zrC (sv ev:Value) (cs:List ColB) (x:EntB) (w:World) (hR:RdC w sv cs) (hE:RdN w ev x) (hC:CS cs) (hX:EnO x) :
  Calls prog 145 #[sv,ev] w fun e w'=>e=.returned (.int .i64 (entE cs x:Nat))/\Below w.heap.size w w':=by
 obtain ⟨kind,seq,ps⟩:=x;obtain ⟨pv,rfl,hP⟩:=hE;obtain ⟨hk,hs,hO⟩:=hX;dsimp only at hP hk hs hO ⊢;obtain ⟨ao,no,co,rfl⟩:=hP.lit12;obtain ⟨N1,N2⟩:=za7 w (.cells #[.int .i64 kind,.int .i64 seq,.slice ao no co] 92);obtain ⟨w0,hw0⟩:=nm_ (w.alloc (.cells #[.int .i64 kind,.int .i64 seq,.slice ao no co] 92));rw [<- hw0] at N1 N2;have SC:=h_ (zbV sv cs w0 (hR.later N2 l_) hC);have ZC:=h_ (fun wz (hz:Below w.heap.size w wz)=>zdK sv (.slice ao no co) cs ps wz (hR.later hz l_) (hP.later hz l_) hC hO);obtain ⟨g,hg⟩:=nm_ w.heap.size;rw [<- hg] at N1;have HE0:=h_ (show Ebox w0 g kind seq (.slice ao no co) from N1);have HB0:=h_ N2;have HW0:=h_ hw0;have HG:=h_ hg;obtain ⟨E,hE⟩:=nm_ (errS (colsL cs));obtain ⟨R,hRR⟩:=nm_ (entE cs (kind,seq,ps));rw [<- hE] at SC;rw [<- hRR];unfold entE at hRR;dsimp only at hRR;rw [<- hE] at hRR;clear hR hP hC hO N1 N2 hw0 hg hE;by_cases hE0:E=0
 ·subst hE0;rw [if_neg (by simp)] at hRR;by_cases h1:kind < 0∨1 < kind
  ·rw [if_pos h1] at hRR;subst hRR;have hd:(decide (kind < 0)=true)∨(decide (kind < 0)=false/\decide (kind > 1)=true):=by
    by_cases h:kind < 0
    ·exact .inl (decide_eq_true h)
    exact .inr ⟨decide_eq_false h,decide_eq_true (by omega)⟩
   clear h1 ZC;rcases hd with d1 | ⟨d1,d2⟩
   all_goals (
    go_enter func145,ntmps145
    go_wp2_with fail
    rw [<- HW0.o,<- HG.o]
    refine SC.mono ?_
    rintro e w1 ⟨rfl,hb⟩
    have HB1:=bT HB0 hb
    obtain ⟨c0,c1,c2⟩:=(HE0.later hb).cells
    clear hb SC HE0
    go_wp2
    go_ret
    exact ⟨rfl,HB1.o⟩)
  rw [if_neg h1] at hRR;have d1:decide (kind < 0)=false:=decide_eq_false (by omega);have d2:decide (kind > 1)=false:=decide_eq_false (by omega);clear h1;by_cases h2:seq < 0∨281474976710656 < seq
  ·rw [if_pos h2] at hRR;subst hRR;have hd:(decide (seq < 0)=true)∨(decide (seq < 0)=false/\decide (seq > 281474976710656)=true):=by
    by_cases h:seq < 0
    ·exact .inl (decide_eq_true h)
    exact .inr ⟨decide_eq_false h,decide_eq_true (by omega)⟩
   clear h2 ZC;rcases hd with d3 | ⟨d3,d4⟩
   all_goals (
    go_enter func145,ntmps145
    go_wp2_with fail
    rw [<- HW0.o,<- HG.o]
    refine SC.mono ?_
    rintro e w1 ⟨rfl,hb⟩
    have HB1:=bT HB0 hb
    obtain ⟨c0,c1,c2⟩:=(HE0.later hb).cells
    clear hb SC HE0
    go_wp2
    go_ret
    exact ⟨rfl,HB1.o⟩)
  rw [if_neg h2] at hRR;have d3:decide (seq < 0)=false:=decide_eq_false (by omega);have d4:decide (seq > 281474976710656)=false:=decide_eq_false (by omega);rw [<- hRR] at ZC;clear h2 hRR;go_enter func145,ntmps145;go_wp2_with fail;rw [<- HW0.o,<- HG.o];refine SC.mono ?_;rintro e w1 ⟨rfl,hb⟩;have HB1:=bT HB0 hb;obtain ⟨c0,c1,c2⟩:=(HE0.later hb).cells;clear hb SC HE0;go_wp2_with fail;refine (ZC.o w1 HB1.o).mono ?_;rintro e w3 ⟨rfl,hb⟩;have HB3:=bT HB1 hb;clear hb;go_wp2;go_ret;exact ⟨rfl,HB3.o⟩
 rw [if_pos hE0] at hRR;subst hRR;have q:((R:Int) != 0)=true:=by rw [bne_iff_ne];omega
 clear hE0 ZC;go_enter func145,ntmps145;go_wp2_with fail;rw [<- HW0.o,<- HG.o];refine SC.mono ?_;rintro e w1 ⟨rfl,hb⟩;have HB1:=bT HB0 hb;clear hb SC HE0;go_wp2;go_ret;exact ⟨rfl,HB1.o⟩
theorem zuR (v1 v2:Value) (x y:EntB) (w:World) (h1:RdN w v1 x) (h2:RdN w v2 y) :
  Calls prog 47 #[v1,v2] w fun e w'=>e=.returned (.bool (decide (x=y)))/\Below w.heap.size w w':=by
 obtain ⟨k1,s1,ps⟩:=x;obtain ⟨k2,s2,qs⟩:=y;obtain ⟨p1,rfl,hP⟩:=h1;obtain ⟨p2,rfl,hQ⟩:=h2;dsimp only at hP hQ ⊢;obtain ⟨ao,no,co,rfl⟩:=hP.lit12;obtain ⟨bo,mo,do_,rfl⟩:=hQ.lit12;have SM:=h_ (fun wz (hz:Below w.heap.size w wz)=>zlI (.slice ao no co) (.slice bo mo do_) ps qs wz (hP.later hz l_) (hQ.later hz l_));have HB0:=h_ (((Below.refl w.heap.size w).alloc l_ (.cells #[.int .i64 k1,.int .i64 s1,.slice ao no co] 92)).alloc (by simp) (.cells #[.int .i64 k2,.int .i64 s2,.slice bo mo do_] 92));clear hP hQ;by_cases h1:k1=k2
 ·subst h1;have d1:((k1:Int) == k1)=true:=by simp
  by_cases h2:s1=s2
  ·subst h2;have d2:((s1:Int) == s1)=true:=(by simp);have HE:=h_ (show decide (ps=qs)=decide (((k1,s1,ps):EntB)=(k1,s1,qs)) from by simp);go_enter func47,ntmps47;go_wp2_with fail;refine (SM.o _ HB0.o).mono ?_;rintro e w3 ⟨rfl,hb⟩;have HB3:=bT HB0 hb;generalize decide (ps=qs)=z at *;clear hb;go_wp2;go_ret;exact ⟨by rw [<- HE.o];rfl,HB3.o⟩
  have d2:((s1:Int) == s2)=false:=by rw [beq_eq_false_iff_ne];exact h2
  have HE:=h_ (show false=decide (((k1,s1,ps):EntB)=(k1,s2,qs)) from by simp [h2]);clear h2 SM;go_enter func47,ntmps47;go_wp2;go_ret;exact ⟨by rw [<- HE.o];rfl,HB0.o⟩
 have d1:((k1:Int) == k2)=false:=by rw [beq_eq_false_iff_ne];exact h1
 have HE:=h_ (show false=decide (((k1,s1,ps):EntB)=(k2,s2,qs)) from by simp [h1]);clear h1 SM;go_enter func47,ntmps47;go_wp2;go_ret;exact ⟨by rw [<- HE.o];rfl,HB0.o⟩
/- -/
def ApOV (w:World) (cs:List ColB) (seq:Int) (view:List PairB) (x:EntB) (vv:Value) (e:Ending) (w':World):Prop :=
 ∃ v,e=.returned (.tuple #[.int .i64 (apN cs seq view x),v,.int .i64 (apE cs seq view x:Nat)])/\RdP w' v (apV cs seq view x)/\((v=vv/\apV cs seq view x=view)∨NewP w' w.heap.size v (apV cs seq view x))/\Below w.heap.size w w'
theorem ApOV.no {w w':World} {cs:List ColB} {seq:Int} {view:List PairB} {x:EntB} {vv:Value} {k:Nat} {y:Int} (h:apE cs seq view x=k) (hk:k≠0) (hy:y=(k:Int)) (hb:Below w.heap.size w w') :
  ApOV w cs seq view x vv (.returned (.tuple #[.int .i64 0,.slice none 0 0,.int .i64 y])) w':=by
 subst hy;refine ⟨.slice none 0 0,?_,?_,.inr ?_,hb⟩
 ·unfold apN;rw [h,if_neg hk]
 ·unfold apV;rw [h,if_neg hk];exact RdP.nil w'
 unfold apV;rw [h,if_neg hk];exact NewP.nil _ _
theorem ApOV.yes {w w':World} {cs:List ColB} {seq:Int} {view qs:List PairB} {x:EntB} {v vv:Value} {n:Int} (h:apE cs seq view x=0) (hn:x.2.1=n) (hv:apV cs seq view x=qs) (hr:RdP w' v qs) (hq:(v=vv/\qs=view)∨NewP w' w.heap.size v qs) (hb:Below w.heap.size w w') :
  ApOV w cs seq view x vv (.returned (.tuple #[.int .i64 n,v,.int .i64 0])) w':=by
 subst hn hv;refine ⟨v,?_,hr,hq,hb⟩;unfold apN;rw [h,if_pos rfl];rfl
theorem zoW (sv vv ev:Value) (cs:List ColB) (seq:Int) (view:List PairB) (x:EntB) (w:World) (hR:RdC w sv cs) (hV:RdP w vv view) (hE:RdN w ev x) (hC:CS cs) (hVO:PSO view) (hX:EnO x) (hq:inW seq) :
  Calls prog 106 #[sv,.int .i64 seq,vv,ev] w (ApOV w cs seq view x vv):=by
 obtain ⟨kind,s2,ps⟩:=x;obtain ⟨pv,rfl,hP⟩:=hE;dsimp only at hP;obtain ⟨ao,no,co,rfl⟩:=hP.lit12;obtain ⟨av,nv,cv,rfl⟩:=hV.lit12;have VC:=h_ (fun wz (hz:Below w.heap.size w wz)=>zdK sv (.slice av nv cv) cs view wz (hR.later hz l_) (hV.later hz l_) hC hVO);have EC:=h_ (fun wz (hz:Below w.heap.size w wz)=>zrC sv _ cs (kind,s2,ps) wz (hR.later hz l_) ⟨_,rfl,hP.later hz l_⟩ hC hX);have SM:=h_ (fun wz (hz:Below w.heap.size w wz)=>zlI (.slice av nv cv) (.slice ao no co) view ps wz (hV.later hz l_) (hP.later hz l_));have SU:=h_ (fun wz (hz:Below w.heap.size w wz)=>zuO sv (.slice av nv cv) (.slice ao no co) cs view ps wz (hR.later hz l_) (hV.later hz l_) (hP.later hz l_) hC hVO hX.2.2);have RV:=h_ (fun wz (hz:Below w.heap.size w wz)=>hV.later hz l_);obtain ⟨N1,N2⟩:=za7 w (.cells #[.int .i64 kind,.int .i64 s2,.slice ao no co] 92);obtain ⟨w0,hw0⟩:=nm_ (w.alloc (.cells #[.int .i64 kind,.int .i64 s2,.slice ao no co] 92));rw [<- hw0] at N1 N2;obtain ⟨g,hg⟩:=nm_ w.heap.size;rw [<- hg] at N1;have HE0:=h_ (show Ebox w0 g kind s2 (.slice ao no co) from N1);have HB0:=h_ N2;have HW0:=h_ hw0;have HG:=h_ hg;have hA:apE cs seq view (kind,s2,ps)=if chkZ cs view≠0 then chkZ cs view else if seq < 0∨281474976710656 < seq then 3 else if entE cs (kind,s2,ps)≠0 then entE cs (kind,s2,ps)
  else if (kind=0/\s2≠seq + 1)∨(kind=1/\s2≠seq) then 14 else if kind=1 then (if ps=view then 0 else 15) else sumE cs view ps:=rfl
 have hVw:apE cs seq view (kind,s2,ps)=0->apV cs seq view (kind,s2,ps)=if kind=1 then view else sumO cs view ps:=fun h=>by unfold apV;rw [if_pos h]
 have hZs:chkZ cs view=0->Zs cs view:=fun h=>⟨hVO,h⟩;have hez:=zb9 (cs:=cs) (x:=(kind,s2,ps));obtain ⟨E1,hE1⟩:=nm_ (chkZ cs view);obtain ⟨E2,hE2⟩:=nm_ (entE cs (kind,s2,ps));rw [<- hE1] at VC hA hZs;rw [<- hE2] at EC hA hez;clear hR hV hP hC hVO hX N1 N2 hw0 hg hE1 hE2;by_cases h1:E1=0
 ·subst h1;rw [if_neg (by simp)] at hA;clear hZs;by_cases h2:seq < 0∨281474976710656 < seq
  ·rw [if_pos h2] at hA;have HA:=h_ hA;have hd:(decide (seq < 0)=true)∨(decide (seq < 0)=false/\decide (seq > 281474976710656)=true):=by
    by_cases h:seq < 0
    ·exact .inl (decide_eq_true h)
    exact .inr ⟨decide_eq_false h,decide_eq_true (by omega)⟩
   clear hA hVw h2 EC SM SU RV hez hq;rcases hd with d5 | ⟨d5,d6⟩
   all_goals (
    go_enter func106,ntmps106
    go_wp2_with fail
    rw [<- HW0.o,<- HG.o]
    refine (VC.o w0 HB0.o).mono ?_
    rintro e w1 ⟨rfl,hb⟩
    replace HB0:=bT HB0 hb
    replace HE0:=h_ (HE0.later hb)
    clear hb VC
    go_wp2
    go_ret3
    exact ApOV.no HA.o (by decide) rfl HB0.o)
  rw [if_neg h2] at hA;have h2':0<=seq/\seq<=281474976710656:=by omega
  have d5:decide (seq < 0)=false:=decide_eq_false (by omega);have d6:decide (seq > 281474976710656)=false:=decide_eq_false (by omega);clear h2;by_cases h3:E2=0
  ·subst h3;rw [if_neg (by simp)] at hA;obtain ⟨_,hk,hs,hck⟩:=hez.1 rfl;dsimp only at hk hs hck;clear hez;by_cases h4:(kind=0/\s2≠seq + 1)∨(kind=1/\s2≠seq)
   ·rw [if_pos h4] at hA;have HA:=h_ hA;have h2q:=h2';clear hA hVw SM SU RV hck hk hq hs h2';rcases h4 with ⟨rfl,h4⟩ | ⟨rfl,h4⟩
    ·have d1:(s2 != seq + 1)=true:=(by rw [bne_iff_ne];exact h4);clear h4;go_enter func106,ntmps106;go_wp2_with fail;rw [<- HW0.o,<- HG.o];refine (VC.o w0 HB0.o).mono ?_;rintro e w1 ⟨rfl,hb⟩;replace HB0:=bT HB0 hb;replace HE0:=h_ (HE0.later hb);clear hb VC;obtain ⟨c0,c1,c2⟩:=HE0.cells;go_wp2_with fail;refine (EC.o w1 HB0.o).mono ?_;rintro e w3 ⟨rfl,hb⟩;replace HB0:=bT HB0 hb;replace HE0:=h_ (HE0.later hb);clear hb EC c0 c1 c2;obtain ⟨c0,c1,c2⟩:=HE0.cells;go_wp2;go_ret3;exact ApOV.no HA.o (by decide) rfl HB0.o
    have d1:(s2 != seq)=true:=(by rw [bne_iff_ne];exact h4);clear h4;go_enter func106,ntmps106;go_wp2_with fail;rw [<- HW0.o,<- HG.o];refine (VC.o w0 HB0.o).mono ?_;rintro e w1 ⟨rfl,hb⟩;replace HB0:=bT HB0 hb;replace HE0:=h_ (HE0.later hb);clear hb VC;obtain ⟨c0,c1,c2⟩:=HE0.cells;go_wp2_with fail;refine (EC.o w1 HB0.o).mono ?_;rintro e w3 ⟨rfl,hb⟩;replace HB0:=bT HB0 hb;replace HE0:=h_ (HE0.later hb);clear hb EC c0 c1 c2;obtain ⟨c0,c1,c2⟩:=HE0.cells;go_wp2;go_ret3;exact ApOV.no HA.o (by decide) rfl HB0.o
   rw [if_neg h4] at hA;have h0:(0:Int)≠1:=(by decide);rcases hk with rfl | rfl
   ·rw [if_neg h0] at hA;rw [if_neg h0] at hVw;obtain rfl:s2=seq + 1:=(by omega);have d1:((seq + 1:Int) != seq + 1)=false:=(by simp);obtain ⟨E4,hE4⟩:=nm_ (sumE cs view ps);rw [<- hE4] at hA SU;have HA:=h_ hA;have HV:=h_ hVw;clear hA hVw h4 h0 SM RV hck hq hs hE4;go_enter func106,ntmps106;go_wp2_with fail;rw [<- HW0.o,<- HG.o];refine (VC.o w0 HB0.o).mono ?_;rintro e w1 ⟨rfl,hb⟩;replace HB0:=bT HB0 hb;replace HE0:=h_ (HE0.later hb);clear hb VC;obtain ⟨c0,c1,c2⟩:=HE0.cells;go_wp2_with fail;refine (EC.o w1 HB0.o).mono ?_;rintro e w3 ⟨rfl,hb⟩;replace HB0:=bT HB0 hb;replace HE0:=h_ (HE0.later hb);clear hb EC c0 c1 c2;obtain ⟨c0,c1,c2⟩:=HE0.cells;go_wp2_with fail;refine (SU.o w3 HB0.o).mono ?_;rintro e w5 ⟨rv,rfl,hr,hb⟩;have HB5:=bT HB0 hb;have HR5:=h_ hr;have hr9:=hr.rd.lit12;clear hb SU hr c0 c1 c2;obtain ⟨ar,nr,cr,rfl⟩:=hr9;by_cases h9:E4=0
    ·subst h9;go_wp2;go_ret3;exact ApOV.yes HA.o rfl (HV.o HA.o) HR5.rd (.inr (HR5.lower HB0.size)) HB5.o
    have q9:((E4:Int) != 0)=true:=(by rw [bne_iff_ne];omega);have H9:=h_ h9;clear h9;go_wp2;go_ret3;exact ApOV.no HA.o H9.o rfl HB5.o
   rw [if_pos rfl] at hA;rw [if_pos rfl] at hVw;obtain rfl:s2=seq:=(by omega);have d1:((s2:Int) != s2)=false:=(by simp);clear h4 h0;by_cases h5:ps=view
   ·rw [if_pos h5] at hA;have HA:=h_ hA;have HV:=h_ hVw;rw [decide_eq_true h5.symm] at SM;clear hA hVw SU hck hq hs h5;go_enter func106,ntmps106;go_wp2_with fail;rw [<- HW0.o,<- HG.o];refine (VC.o w0 HB0.o).mono ?_;rintro e w1 ⟨rfl,hb⟩;replace HB0:=bT HB0 hb;replace HE0:=h_ (HE0.later hb);clear hb VC;obtain ⟨c0,c1,c2⟩:=HE0.cells;go_wp2_with fail;refine (EC.o w1 HB0.o).mono ?_;rintro e w3 ⟨rfl,hb⟩;replace HB0:=bT HB0 hb;replace HE0:=h_ (HE0.later hb);clear hb EC c0 c1 c2;obtain ⟨c0,c1,c2⟩:=HE0.cells;go_wp2_with fail;refine (SM.o w3 HB0.o).mono ?_;rintro e w5 ⟨rfl,hb⟩;have HB5:=bT HB0 hb;clear hb SM c0 c1 c2;go_wp2;go_ret3;exact ApOV.yes HA.o rfl (HV.o HA.o) (RV.o w5 HB5.o) (.inl ⟨rfl,rfl⟩) HB5.o
   rw [if_neg h5] at hA;have HA:=h_ hA;rw [decide_eq_false (fun e=>h5 e.symm)] at SM;clear hA hVw SU RV hck hq hs h5;go_enter func106,ntmps106;go_wp2_with fail;rw [<- HW0.o,<- HG.o];refine (VC.o w0 HB0.o).mono ?_;rintro e w1 ⟨rfl,hb⟩;replace HB0:=bT HB0 hb;replace HE0:=h_ (HE0.later hb);clear hb VC;obtain ⟨c0,c1,c2⟩:=HE0.cells;go_wp2_with fail;refine (EC.o w1 HB0.o).mono ?_;rintro e w3 ⟨rfl,hb⟩;replace HB0:=bT HB0 hb;replace HE0:=h_ (HE0.later hb);clear hb EC c0 c1 c2;obtain ⟨c0,c1,c2⟩:=HE0.cells;go_wp2_with fail;refine (SM.o w3 HB0.o).mono ?_;rintro e w5 ⟨rfl,hb⟩;have HB5:=bT HB0 hb;clear hb SM c0 c1 c2;go_wp2;go_ret3;exact ApOV.no HA.o (by decide) rfl HB5.o
  rw [if_pos h3] at hA;have HA:=h_ hA;have q3:((E2:Int) != 0)=true:=by rw [bne_iff_ne];omega
  have H3:=h_ h3;clear hA hVw h3 SM SU RV hez hq;go_enter func106,ntmps106;go_wp2_with fail;rw [<- HW0.o,<- HG.o];refine (VC.o w0 HB0.o).mono ?_;rintro e w1 ⟨rfl,hb⟩;replace HB0:=bT HB0 hb;replace HE0:=h_ (HE0.later hb);clear hb VC;obtain ⟨c0,c1,c2⟩:=HE0.cells;go_wp2_with fail;refine (EC.o w1 HB0.o).mono ?_;rintro e w3 ⟨rfl,hb⟩;replace HB0:=bT HB0 hb;replace HE0:=h_ (HE0.later hb);clear hb EC c0 c1 c2;go_wp2;go_ret3;exact ApOV.no HA.o H3.o rfl HB0.o
 rw [if_pos h1] at hA;have HA:=h_ hA;have q1:((E1:Int) != 0)=true:=by rw [bne_iff_ne];omega
 have H1:=h_ h1;clear hA hVw h1 hZs EC SM SU RV hez hq;go_enter func106,ntmps106;go_wp2_with fail;rw [<- HW0.o,<- HG.o];refine (VC.o w0 HB0.o).mono ?_;rintro e w1 ⟨rfl,hb⟩;replace HB0:=bT HB0 hb;replace HE0:=h_ (HE0.later hb);clear hb VC;go_wp2;go_ret3;exact ApOV.no HA.o H1.o rfl HB0.o
