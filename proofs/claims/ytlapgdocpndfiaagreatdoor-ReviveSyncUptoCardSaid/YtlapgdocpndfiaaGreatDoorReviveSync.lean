/- -/
import Derived.Test.YtlapgdocpndfiaaGreatDoorWRvB
import Derived.Test.YtlapgdocpndfiaaGreatDoorWRvK
set_option maxHeartbeats 64000000
set_option linter.unusedVariables false
set_option linter.unusedSimpArgs false
set_option maxRecDepth 1000000
namespace Go.Proofs.YtlapgdocpndfiaaGreatDoor
open _root_.Go.Proofs.Tryz
open Go.RowKit Go.Shelf
theorem zj9 (sv:Value) (cs:List ColB) (v:Value) (l:List ActR) (w:World) (hR:RdC w sv cs) (hC:CS cs) (hA:ze6 w v l) (hO:ACR l) (hU:(flat16 l).length + junk16 l<=1048576) (hT:Tabs w) (hF:Frs w) :
  Calls prog 10 #[sv,v] w fun e w'=>e=.returned (.bool true)/\Below w.heap.size w w':=by
 obtain ⟨ac,nc,cc,rfl⟩:=hR.lit12;obtain ⟨al,nl,cl,rfl⟩:=hA.lit;have hlc:=hR.len;have hlen:=hA.len;have AL:=h_ (fun wz (hz:Below w.heap.size w wz)=>zbU wz (hT.later hz) (hF.later hz));have GR:=h_ (fun wz (hz:Below w.heap.size w wz)=>zf4 (.slice al nl cl) l wz (hA.later hz) (by omega) (by omega));have HRC:=h_ (fun wz (hz:Below w.heap.size w wz)=>hR.later hz l_);have HA:=h_ hA;have HTF:=h_ (fun wz (hz:Below w.heap.size w wz)=>And.intro (hT.later hz) (hF.later hz));have HC:=h_ hC;have HO:=h_ hO;obtain ⟨n,hn⟩:=nm_ l.length;rw [<- hn] at hlen;have HN:=h_ hn;clear hR hC hA hO hU hT hF hn;go_enter func10,ntmps10;go_wp2_with fail;refine (AL.o w (Below.refl _ _)).mono ?_;rintro e w1 ⟨rfl,hb⟩;have HB1:=h_ hb;clear hb;go_wp2_with fail;refine (GR.o w1 HB1.o).mono ?_;rintro e w2 ⟨y,rfl,hy,hf,hb⟩;have HB2:=bT HB1 hb;clear hb GR HB1;rcases hy with rfl | rfl
 ·have HFEW:=h_ (hf rfl);have hn20:n<=20:=by rw [HN.o];exact HFEW.1
  clear hf;by_cases h30:30 < cs.length
  ·have d3:decide ((cs.length:Int) > 30)=true:=decide_eq_true (by omega);clear h30;go_wp2_with fail;refine (AL.o w2 HB2.o).mono ?_;rintro e w3 ⟨rfl,hb⟩;have HB3:=bT HB2 hb;clear hb;go_wp2;go_ret;exact ⟨rfl,HB3.o⟩
  have d3:decide ((cs.length:Int) > 30)=false:=decide_eq_false (by omega);clear h30;have NW:=h_ (ze7 (.slice ac nc cc) cs w2 (HRC.o w2 HB2.o) HC.o (HTF.o w2 HB2.o).1);unfold NlP at NW;obtain ⟨E,hE⟩:=nm_ (errS (colsL cs));have HE:=h_ hE;rw [<- hE] at NW;clear AL hE;go_wp2_with fail;refine NW.mono ?_;rintro e w3 ⟨v3,rfl,hb,hw⟩;have HB3:=bT HB2 hb;have HB23:=h_ hb;clear hb NW;rcases hw with ⟨h0,rfl⟩ | ⟨h0,gl,gw,gd,bv,dv,rfl,hw⟩
  ·have q:((E:Int) != 0)=true:=(by rw [bne_iff_ne];omega);clear h0;go_wp2;go_ret;exact ⟨rfl,HB3.o⟩
  subst h0;have HL3:=h_ (show Lgx w3 w.heap.size gl cs [] 0 (fun _=>False) (LgS gl gw gd bv dv) from ⟨_,_,_,_,(hw (fun _=>False) fun j h=>h.elim).lower HB2.size,rfl⟩);have HSZ:=h_ (show (trE cs []).1.length<=1048600 + 0 * 1048591 from by rw [(TrS.nil HC.o HE.symm).2];exact zbZ HE.symm);clear hw HB23 HRC;go_wp2;go_loopw [40] (fun i wr=>∃ (j:Nat) (es:List EntB) (T:Nat->Prop),j<=n/\i=.int .i64 j/\Hid (Lgx wr w.heap.size gl cs es 0 (fun _=>False) T)/\Hid ((trE cs es).1.length<=1048600 + j * 1048591)/\Hid (Below w.heap.size w wr)) (fun i _=>n - (intOf i).toNat)
  case atStart=>exact ⟨0,[],_,by omega,rfl,HL3,HSZ,HB3⟩
  clear HL3 HB3 HSZ;obtain ⟨j,es,T,hj,rfl,HL,HSZ,HB⟩:=hrel;by_cases hlt:j < n
  ·have hkn:j < l.length:=(by rw [<- HN.o];exact hlt);obtain ⟨b9,o9,pv,jv,hidx,y0,y1,y2,y3,hpv,hjv,hbl⟩:=HA.get hkn;have e0:=zaA HB.o y0;have e1:=zaA HB.o y1;have e2:=zaA HB.o y2;have e3:=zaA HB.o y3;have hao:=HO.get hkn;have hl4:(l.getD j default).2.1.length<=4000:=(by have h1:=zgQ hkn;have h2:=HFEW.2.1;omega);have hj4:(l.getD j default).2.2.2.length<=2000:=(by have h1:=zgM hkn;have h2:=HFEW.2.2.1;omega);obtain ⟨a,hx⟩:∃ x,x=l.getD j default:=⟨_,rfl⟩;rw [<- hx] at e0 e2 hpv hjv hao hl4 hj4;obtain ⟨kd,ps,kc,jl⟩:=a;dsimp only at e0 e1 e2 e3 hpv hjv hao hl4 hj4;obtain ⟨ap,np,cp,rfl⟩:=hpv.lit12;obtain ⟨aj,cj,rfl,_⟩:=hjv.shape;obtain ⟨jn,hjn⟩:=nm_ jl.length;have HJN:=h_ hjn;rw [<- hjn] at e3 hjv hj4;obtain ⟨N1,hb4⟩:=za5 wr (.cells #[.int .i64 kd,.slice ap np cp,.int .u8 (kc:Int),.slice aj jn cj] 45);obtain ⟨w4,hw4⟩:=nm_ (wr.alloc (.cells #[.int .i64 kd,.slice ap np cp,.int .u8 (kc:Int),.slice aj jn cj] 45));obtain ⟨eb,heb⟩:=nm_ wr.heap.size;rw [<- hw4] at hb4;rw [<- hw4,<- heb] at N1;have HEB:=h_ (And.intro hw4 heb);have HY4:=h_ (show Ybox w4 eb kd (.slice ap np cp) kc (.slice aj jn cj) from N1);have HB4:=bT HB hb4;have HW4:=h_ hb4;have HPV:=h_ (fun wz (hz:Below w.heap.size w wz)=>And.intro (hpv.later hz l_) (hjv.later hz l_));have HAO:=h_ hao;have HL4:=h_ (And.intro hl4 hj4);obtain ⟨x0,x1,x2,x3⟩:=HY4.cells;clear hkn y0 y1 y2 y3 hpv hjv hao hl4 hj4 hx N1 hb4 hw4 heb hjn;obtain ⟨gwj,gdj,bvj,dvj,hlj,rfl⟩:=HL.o;have HL4:=h_ (And.intro (hlj.later HW4.o) HL4.o);have ht:=hlj.wrt.trs;have HTR:=h_ ht;clear hlj HL ht;have d0:(kd == 1)=decide (kd=1):=(by rw [Bool.eq_iff_iff,beq_iff_eq,decide_eq_true_iff]);by_cases hk1:kd=1
   ·have q1:(kd == 1)=true:=by rw [hk1];rfl
    have SN:=h_ (zj6 w.heap.size gl gwj gdj bvj dvj cs es [] 1 0 (fun _=>False) w4 HL4.1 (fun j h=>h.elim) (fun p hp=>absurd hp (by simp)) (by decide) (HTF.o w4 HB4.o).1 (HTF.o w4 HB4.o).2 (by
     have h1:=HSZ.o
     have h2:=zaR cs es (1,[])
     have:j * 1048591<=20 * 1048591:=Nat.mul_le_mul_right _ (by omega)
     omega))
    clear hk1 d0;go_wp2_with fail;rw [<- HEB.1,<- HEB.2];go_wp2_with fail;refine SN.mono ?_;rintro e w5 ⟨rfl,T5,hl,hO,_⟩;have HB5:=h_ (HB4.trans (HL4.1.below hO));have HL5:=h_ hl
    have HS5:=h_ (show (trE cs (actS cs es (1,[]))).1.length<=1048600 + (j + 1) * 1048591 from by
     have h1:=HSZ.o
     have h2:=zaR cs es (1,[])
     rw [zbP HTR.o (fun p hp=>absurd hp (by simp)),List.length_append]
     omega)
    clear hl hO SN x0 x1 x2 x3 e0 e1 e2 e3;go_wp2;go_roundw
    case rel=>exact ⟨j + 1,_,T5,by omega,by go_num,HL5,HS5,HB5⟩
    simp [intOf];omega
   have q1:(kd == 1)=false:=by rw [beq_eq_false_iff_ne];exact hk1
   have AP:=h_ (zbA w.heap.size gl gwj gdj bvj dvj (.slice ap np cp) cs es ps 0 (fun _=>False) w4 HL4.1 (fun j h=>h.elim) (HPV.o _ HB4.o).1 HAO.2.1 HL4.2.1 (HTF.o w4 HB4.o).1 (HTF.o w4 HB4.o).2 (by
    have h1:=HSZ.o
    have h2:=zaR cs es (0,ps)
    have:j * 1048591<=20 * 1048591:=Nat.mul_le_mul_right _ (by omega)
    omega))
   clear hk1 d0;go_wp2_with fail;rw [<- HEB.1,<- HEB.2];go_wp2_with fail;refine AP.mono ?_;rintro e w5 ⟨rfl,T5,hl,hO,_⟩;have HB5:=h_ (HB4.trans (HL4.1.below hO));have HL5:=h_ hl
   have HS5:=h_ (show (trE cs (actS cs es (0,ps))).1.length<=1048600 + (j + 1) * 1048591 from by
    have h1:=HSZ.o
    have h2:=zaR cs es (0,ps)
    rw [zbP HTR.o HAO.2.1,List.length_append]
    omega)
   clear hl hO AP x0 x1 x2 x3 e0 e1 e2 e3;go_wp2;go_roundw
   case rel=>exact ⟨j + 1,_,T5,by omega,by go_num,HL5,HS5,HB5⟩
   simp [intOf];omega
  obtain rfl:j=n:=by omega
  clear hlt HN HFEW HO HA hn20;obtain ⟨gwj,gdj,bvj,dvj,hlj,rfl⟩:=HL.o;have HLa:=h_ hlj;have BY:=h_ (fun wz (hz:Below wr.heap.size wr wz)=>zaN (hlj.later hz));have VW:=h_ (fun wz (hz:Below wr.heap.size wr wz)=>zcE (hlj.later hz));have MN:=h_ (fun wz (hz:Below wr.heap.size wr wz)=>zaK (hlj.later hz).box (hlj.later hz).wrt);have HSM:=h_ (show (trE cs es).1.length<=140737488351232 from by have:=hlj.dsk.small;omega);have ht:=hlj.wrt.trs;have HTR:=h_ ht;obtain ⟨L,hL⟩:=nm_ ((trE cs es).1);obtain ⟨vw,hvw⟩:=nm_ ((trE cs es).2.2.1);obtain ⟨m,hm⟩:=nm_ es.length;have HLd:=h_ (And.intro hL (And.intro hvw hm));rw [<- hL] at BY HSM;rw [<- hvw] at VW;rw [<- hm] at MN;have hmm:=ht.few;rw [<- hm] at hmm;have hbel:Below wr.heap.size wr wr.drew:=(Below.refl _ _).drew;clear HL HSZ hlj ht hL hvw hm;go_wp2_with fail;refine OrdR.wp_region_ord Ord.way [(0,false),(3,false),(5,false),(1,true),(2,false),(4,true),(6,true),(7,false),(8,false),(9,false)] (by kernel_rfl) rfl (by kernel_rfl) (by kernel_rfl) (fun _ _ _ d _ h=>by cases d <;> exact h) ?_;iterate 3 (refine OrdR.ord_still rfl rfl (by kernel_rfl) (fun K hK=>?_);go_big_quiet_op;refine hK _ ?_;clear hK K)
  refine OrdR.ord_loud rfl (by kernel_rfl) (fun K hK=>?_);go_big_op;refine (BY.o _ hbel).mono ?_;rintro e wa ⟨va,rfl,ho,hb⟩;have hs1:=str_later ho HSM.o;clear ho;replace hbel:=hbel.trans (hb.mono hbel.size);refine hK _ _ hb ?_;clear hb;clear hK K;refine OrdR.ord_still rfl rfl (by kernel_rfl) (fun K hK=>?_);go_big_quiet_op;refine hK _ ?_;clear hK K;refine OrdR.ord_loud rfl (by kernel_rfl) (fun K hK=>?_);go_big_op;refine (VW.o _ hbel).mono ?_;rintro e wb ⟨vb,rfl,ho,hb⟩
  have HOV:=h_ (show OffS wb vb vw (LgS gl gwj gdj bvj dvj) from ho.offS fun q hq hs=>by
   have:=((HLa.later hbel).at_ hs).2.1
   omega)
  replace hbel:=hbel.trans (hb.mono hbel.size);refine hK _ _ hb ?_;clear hb ho;clear hK K;refine OrdR.ord_loud rfl (by kernel_rfl) (fun K hK=>?_);go_big_op;refine (MN.o _ hbel).mono ?_;rintro e wc ⟨rfl,hb⟩;replace HOV:=h_ (HOV.later hb);replace hbel:=hbel.trans (hb.mono hbel.size);refine hK _ _ hb ?_;clear hb;clear hK K;iterate 3 (refine OrdR.ord_still rfl rfl (by kernel_rfl) (fun K hK=>?_);go_big_quiet_op;refine hK _ ?_;clear hK K)
  refine OrdR.ord_nil ?_;have HL5:=h_ (HLa.later hbel);have HB5:=bT HB hbel;clear hbel hs1 BY VW MN HLa HB;have SY:=h_ (zd7 w.heap.size gl gwj gdj bvj dvj cs es 0 (fun _=>False) _ HL5.o (fun j h=>h.elim));go_wp2_with fail;refine SY.mono ?_;rintro e w6 ⟨rfl,T6,hl,hO,hT6⟩;obtain ⟨gw6,gd6,bv6,dv6,hl6,rfl⟩:=hl;have HB6:=h_ (HB5.trans (HL5.below hO));replace HOV:=h_ (zoR HOV.o hO hT6);have HL6:=h_ hl6;have BY:=h_ (zaN hl6);rw [<- HLd.1] at BY;clear hO hT6 hl6 SY HL5 HB5;go_wp2_with fail;refine BY.mono ?_;rintro e w7 ⟨v7,rfl,ho7,hb⟩;obtain ⟨a7,n7,c7,rfl⟩:=ho7.lit13;have s7:=(ho7.rd HSM.o).str;have HB7:=bT HB6 hb;have HL7:=h_ (HL6.later hb);replace HOV:=h_ (HOV.later hb);have SF:=h_ (zaJ HL7.o);rw [<- HLd.2.2] at SF;clear hb ho7 BY HL6 HB6;go_wp2_with fail;refine SF.mono ?_;rintro e w8 ⟨rfl,hb⟩;have HB8:=bT HB7 hb;have HL8:=h_ (HL7.later hb);replace HOV:=h_ (HOV.later hb);have MN:=h_ (zaK HL8.box HL8.wrt);rw [<- HLd.2.2] at MN;clear hb SF HL7 HB7 s7;go_wp2_with fail;refine MN.mono ?_;rintro e w9 ⟨rfl,hb⟩;have HB9:=bT HB8 hb;have HL9:=h_ (HL8.later hb);replace HOV:=h_ (HOV.later hb);obtain ⟨k1,k2⟩:=zoX HTR.o l_;have CR:=h_ (zcN w.heap.size gl gw6 gd6 bv6 dv6 (.slice none 0 0) cs es (es.take es.length) es.length 0 [] (fun _=>False) w9 HL9.o (fun j h=>h.elim) ⟨(zb3 w9 0).rd (by simp),fun i hi=>absurd hi (by simp)⟩ (by decide) (fun _=>k2) (fun wz hz=>HTF.o wz (HB9.trans hz)));rw [k1,List.take_length] at CR;clear hb MN HL8 HB8 k1 k2;go_wp2_with fail;refine CR.mono ?_;rintro e w10 ⟨rfl,T10,hO,hT10,hl⟩;rcases hl with ⟨h0,_⟩ | ⟨_,gw10,gd10,bv10,dv10,hl10,rfl⟩
  ·exact absurd rfl h0
  have HB10:=h_ (HB9.trans (HL9.below hO));replace HOV:=h_ (zoR HOV.o hO hT10);have HL10:=h_ hl10;have BY:=h_ (zaN hl10);rw [<- HLd.1] at BY;clear hO hT10 hl10 CR HL9 HB9;go_wp2_with fail;refine BY.mono ?_;rintro e w11 ⟨v11,rfl,ho11,hb⟩;obtain ⟨a11,n11,c11,rfl⟩:=ho11.lit13;have s11:=(ho11.rd HSM.o).str;have HB11:=bT HB10 hb;have HL11:=h_ (HL10.later hb);replace HOV:=h_ (HOV.later hb);have VW:=h_ (zcE HL11.o);rw [<- HLd.2.1] at VW;clear hb ho11 BY HL10 HB10;go_wp2_with fail;refine VW.mono ?_;rintro e w12 ⟨v12,rfl,hv12,hb⟩;obtain ⟨a12,n12,c12,rfl⟩:=hv12.rd.lit12;have HB12:=bT HB11 hb;have HL12:=h_ (HL11.later hb);have SM:=h_ (zdP (.slice a12 n12 c12) vb vw vw w12 hv12.rd (HOV.later hb).rd);rw [decide_eq_true rfl] at SM;clear hb hv12 VW HL11 HB11 HOV s11;go_wp2_with fail;refine SM.mono ?_;rintro e w13 ⟨rfl,hb⟩;have HB13:=bT HB12 hb;have HL13:=h_ (HL12.later hb);have MN:=h_ (zaK HL13.box HL13.wrt);rw [<- HLd.2.2] at MN;clear hb SM HL12 HB12;go_wp2_with fail;refine MN.mono ?_;rintro e w14 ⟨rfl,hb⟩;have HB14:=bT HB13 hb;have HL14:=h_ (HL13.later hb);have SF:=h_ (zaJ HL14.o);rw [<- HLd.2.2] at SF;clear hb MN HL13 HB13;go_wp2_with fail;refine SF.mono ?_;rintro e w15 ⟨rfl,hb⟩;have HB15:=bT HB14 hb;clear hb SF HL14 HB14;go_wp2;go_ret;exact ⟨rfl,HB15.o⟩
 clear hf;go_wp2_with fail;refine (AL.o w2 HB2.o).mono ?_;rintro e w3 ⟨rfl,hb⟩;have HB3:=bT HB2 hb;clear hb;go_wp2;go_ret;exact ⟨rfl,HB3.o⟩
