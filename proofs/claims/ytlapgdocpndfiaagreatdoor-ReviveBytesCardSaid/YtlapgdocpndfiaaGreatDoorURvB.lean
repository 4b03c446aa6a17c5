/- -/
import Derived.Test.YtlapgdocpndfiaaGreatDoorURvA
set_option maxHeartbeats 16000000
set_option linter.unusedVariables false
set_option linter.unusedSimpArgs false
set_option maxRecDepth 1000000
namespace Go.Proofs.YtlapgdocpndfiaaGreatDoor
open _root_.Go.Proofs.Tryz
open Go.RowKit Go.Shelf
theorem zAX (w:World) (ts:List TriB) (h:∀ t ∈ ts,RdE w t.1 t.2.1) (hs:ts.length<=100) {b:Nat} (hb:w.heap[b]?=some (.cells (ts.map triV).flatten.toArray 86 (0,0))) :
  RdP w (.slice (some ⟨b,0,none⟩) ts.length ts.length) (ts.map (·.2)):=by
 have hf:(ts.map triV).flatten.length=ts.length * 2:=by
  rw [zbD (n:=2) _ (fun x hx=>by obtain ⟨t,_,rfl⟩:=List.mem_map.1 hx;rfl),List.length_map]
 have ho:OwnG pairE w b (.slice (some ⟨b,0,none⟩) ts.length ts.length) (ts.map triV):=by
  refine ⟨⟨by rw [hf,List.length_map];rfl,.inr ⟨b,ts.length,(ts.map triV).flatten.toArray,by rw [List.length_map],l_,hb,?_⟩⟩,fun x hx=>?_,fun x hx u hu=>?_⟩
  ·refine ⟨by rw [List.length_map];exact l_,Nat.le_trans hs (by decide),by rw [List.size_toArray,hf];rfl,?_⟩;rw [List.length_map];exact List.take_of_length_le (by show (ts.map triV).flatten.length<=ts.length * 2;rw [hf];exact l_)
  ·obtain ⟨t,_,rfl⟩:=List.mem_map.1 hx;rfl
  obtain ⟨t,ht,rfl⟩:=List.mem_map.1 hx;exact zcD (h t ht) u hu
 exact ⟨ts,rfl,ho.rd (by rw [List.length_map];omega),h⟩
/- -/
theorem zDC {b:Bs}:(trD (b.take (trD b).2.2.2.1)).2.2.2.2=0 ↔ 4 < (trD b).2.2.2.1:=by
 refine ⟨fun h=>?_,fun h=>?_⟩
 ·obtain ⟨_,_,_,x4,_⟩:=zr1 h;have hl:=congrArg List.length x4;rw [List.length_append,zbI,List.length_take] at hl;have:=zb8 0 (wrS (colsL (trD (b.take (trD b).2.2.2.1)).1));omega
 obtain ⟨cs,es,hS,hO,hW,ht,_⟩:=zsS h;rw [ht,ziC hS hO hW]
theorem zg1 (v:Value) (b:Bs) (w:World) (h:Rd w v b) (hTb:Tabs w) (hF:Frs w):Calls prog 12 #[v] w (RvO w b):=by
 obtain ⟨N1,N2⟩:=za7 w (.cells #[.slice none 0 0,.slice none 0 0] 27);obtain ⟨w0,hw0⟩:=nm_ (w.alloc (.cells #[.slice none 0 0,.slice none 0 0] 27));rw [<- hw0] at N1 N2;obtain ⟨rb,hrb⟩:=nm_ w.heap.size;rw [<- hrb] at N1;have HR0:=h_ (show Tbox w0 rb (.slice none 0 0) (.slice none 0 0) from N1);have HB0:=h_ N2;have HW0:=h_ hw0;have HRB:=h_ hrb;have HV0:=h_ (h.later N2 l_);have HTB0:=h_ (fun wz (hz:Below w.heap.size w wz)=>hTb.later hz);have HF0:=h_ (fun wz (hz:Below w.heap.size w wz)=>hF.later hz);have DC:=h_ (zdH v b w0 HV0.o (HTB0.o _ HB0.o) (HF0.o _ HB0.o));obtain ⟨ao,cap,rfl,_⟩:=id h.shape;have HLT:=h_ HR0.lt;unfold znW at DC;unfold RvO;obtain ⟨p,hp⟩:=nm_ ((trD b).2.2.2.1);obtain ⟨x,hx⟩:=nm_ ((trD b).2.2.2.2);have A1:=fun h=>zx5 (b:=b) h;have A2:=fun h h4=>zt1 (b:=b) h h4;have A3:=fun h4=>zt0 (b:=b) h4;have A4:=fun h=>(zCF (b:=b) h).2.2;rw [<- hp,<- hx] at DC A1 A2 A4;rw [<- hp] at A3;obtain ⟨cs,hcs⟩:=nm_ ((trD b).1);obtain ⟨es,hes⟩:=nm_ ((trD b).2.1);rw [<- hcs,<- hes] at DC A1;by_cases h0:x=0
 ·have E:=A1 h0;rw [E];subst h0;clear N1 N2 hw0 hrb h hTb hF A1 A2 A3 A4 E hp hx hcs hes;go_enter func12,ntmps12;go_wp2_with fail;rw [<- HW0.o,<- HRB.o];refine DC.mono ?_;rintro e w1 ⟨tv,rfl,hT,hC,hb⟩;obtain ⟨sv,ev,rfl,hR,hZ⟩:=hT w1 (Only.refl _ _);obtain ⟨ae,ne,ce,rfl⟩:=hZ.lit;obtain ⟨ac,nc,cc,rfl⟩:=hR.lit12;obtain ⟨M1,M2⟩:=za7 w1 (.cells #[.slice ac nc cc,.slice ae ne ce] 27);have HT:=h_ hT;have HC:=h_ hC;have HB1:=h_ hb;have HR2:=h_ ((HR0.later hb).later M2);obtain ⟨r0,r1⟩:=HR2.cells;have f0:=HR2.free 0;have f1:=HR2.free 1;obtain ⟨c0,c1⟩:=(show Tbox (w1.alloc (.cells #[.slice ac nc cc,.slice ae ne ce] 27)) w1.heap.size (.slice ac nc cc) (.slice ae ne ce) from M1).cells;have HM2:=h_ M2;clear hT hR hZ hC hb DC M1 M2;go_wp2;go_region
  all_goals (try clear c0 c1)
  go_wp2;obtain ⟨w9,hw9⟩:=nm_ ((((w1.alloc (.cells #[.slice ac nc cc,.slice ae ne ce] 27)).setCell ⟨rb,0,none⟩ (.slice ac nc cc)).setCell ⟨rb,1,none⟩ (.slice ae ne ce)).drew);rw [<- hw9];obtain ⟨e0,e1,hT9,hB9⟩:=zlH HB0.o HRB.o HLT.o HB1.o HM2.o HT.o (.inl rfl) HR2.o (.inr hw9);refine bodyPost_ret (by simp [results,results12,go_sem,e0,e1];try rfl) rfl ?_;exact ⟨_,rfl,hT9,HC.o,hB9⟩
 have q0:((x:Int) == 0)=false:=by rw [beq_eq_false_iff_ne];omega
 have hpl:=A4 h0;obtain ⟨pv,hup,hpd⟩:=h.upto p hpl;have hlen:(b.take p).length=p:=by rw [List.length_take];omega
 obtain ⟨pa,pc,rfl,_⟩:=(hpd w h).shape;rw [hlen] at hup hpd;have HPD:=h_ hpd;have TN:=zDC (b:=b);rw [<- hp] at TN;obtain ⟨y,hy⟩:=nm_ ((trD (b.take p)).2.2.2.2);rw [<- hy] at TN;obtain ⟨q,hq⟩:=nm_ ((trD (b.take p)).2.2.2.1);have HA2:=h_ (fun h:y≠0=>A2 h0 (Nat.le_of_not_lt fun h4=>h (TN.2 h4)));have HA3:=h_ (fun h:y=0=>A3 (Nat.not_le_of_lt (TN.1 h)));have HY:=h_ (And.intro hy hq);generalize rvD b=D at HA2 HA3 ⊢;obtain ⟨n0,cs0,es0,x0⟩:=D;dsimp only;clear N1 N2 hw0 hrb h hTb hF A1 A2 A3 A4 hp hx hcs hes h0 hpl hpd hlen TN hy hq;go_enter func12,ntmps12;go_wp2_with fail;rw [<- HW0.o,<- HRB.o];refine DC.mono ?_;rintro e w1 ⟨tv,rfl,hT,hC,hb⟩;obtain ⟨sv,ev,rfl,hR,hZ⟩:=hT w1 (Only.refl _ _);obtain ⟨ae,ne,ce,rfl⟩:=hZ.lit;obtain ⟨ac,nc,cc,rfl⟩:=hR.lit12;obtain ⟨M1,M2⟩:=za7 w1 (.cells #[.slice ac nc cc,.slice ae ne ce] 27);obtain ⟨w2,hw2⟩:=nm_ (w1.alloc (.cells #[.slice ac nc cc,.slice ae ne ce] 27));obtain ⟨tb,htb⟩:=nm_ w1.heap.size;rw [<- hw2,<- htb] at M1;rw [<- hw2] at M2;have HB1:=h_ hb;have HB2:=h_ (hb.trans (M2.mono hb.size));have HR2:=h_ ((HR0.later hb).later M2);have HT2:=h_ (show Tbox w2 tb (.slice ac nc cc) (.slice ae ne ce) from M1);have DC2:=h_ (zdH _ (b.take p) w2 (HPD.o w2 (HV0.later HB2.o l_)) (HTB0.o _ (HB0.trans (HB2.mono HB0.size))) (HF0.o _ (HB0.trans (HB2.mono HB0.size))));have HW2:=h_ hw2;have HTB:=h_ htb;have HT2L:=h_ (show tb < w2.heap.size from HT2.lt);obtain ⟨t0,t1⟩:=HT2.cells;have g0:=HT2.free 0;have g1:=HT2.free 1;clear hT hR hZ hC hb DC M1 M2 hw2 htb;unfold znW at DC2;rw [<- HY.1,<- HY.2] at DC2;go_wp2_with fail;rw [<- HW2.o,<- HTB.o];go_wp2_with fail;refine DC2.mono ?_;rintro e w3 ⟨tv,rfl,hT,hC,hb⟩;obtain ⟨sv,ev,rfl,hR,hZ⟩:=hT w3 (Only.refl _ _);obtain ⟨ae2,ne2,ce2,rfl⟩:=hZ.lit;obtain ⟨ac2,nc2,cc2,rfl⟩:=hR.lit12;have HT:=h_ hT;have HC:=h_ hC;have HB3:=h_ hb;have HR3:=h_ (HR2.later hb);have HT3:=h_ (HT2.later hb);obtain ⟨r0,r1⟩:=HT3.cells;have k0:=HT3.free 0;have k1:=HT3.free 1;clear t0 t1 g0 g1 hT hC hb hR hZ DC2 HT2;by_cases hy0:y=0
 ·obtain ⟨rfl,rfl,rfl,rfl⟩:n0=p/\cs0=_/\es0=_/\x0=0:=by simpa using HA3.o hy0
  subst hy0;go_wp2;obtain ⟨w4,hw4⟩:=nm_ ((w3.setCell ⟨tb,0,none⟩ (.slice ac2 nc2 cc2)).setCell ⟨tb,1,none⟩ (.slice ae2 ne2 ce2));rw [<- hw4];have hlt:=HLT.o;have hz1:=HB1.size;have hz2:=HB2.size;have htb:=HTB.o;have hl2:=HT2L.o;have hO:Only (fun j=>j=tb) w3 w4:=by rw [hw4];exact ((Only.refl (fun j=>j=tb) _).setCell (p:=⟨tb,0,none⟩) rfl _).setCell (p:=⟨tb,1,none⟩) rfl _
  have hT4:Tbox w4 tb (.slice ac2 nc2 cc2) (.slice ae2 ne2 ce2):=by rw [hw4];exact HT3.both _ _
  have hR4:Tbox w4 rb (.slice none 0 0) (.slice none 0 0):=hO.keep HR3.o (by omega);have hb4:Below w0.heap.size w0 w4:=by rw [hw4];exact ((HB2.trans (HB3.mono hz2)).setCell (p:=⟨tb,0,none⟩) (by show w0.heap.size<=tb;omega) _).setCell (p:=⟨tb,1,none⟩) (by show w0.heap.size<=tb;omega) _
  have HT4:=h_ (fun wz (hz:Only (fun j=>j < w0.heap.size) w4 wz)=>HT.o wz ((hO.mono fun j h=>by omega).trans (hz.mono fun j h=>by omega)));obtain ⟨c0,c1⟩:=hT4.cells;obtain ⟨d0,d1⟩:=hR4.cells;have f0:=hR4.free 0;have f1:=hR4.free 1;have HB4:=h_ hb4;have HR4:=h_ hR4;clear hO hT4 hR4 hb4 hw4 r0 r1 k0 k1 hlt hz1 hz2 htb hl2;go_region
  all_goals (try clear c0 c1)
  go_wp2;obtain ⟨w9,hw9⟩:=nm_ (((w4.setCell ⟨rb,0,none⟩ (.slice ac2 nc2 cc2)).setCell ⟨rb,1,none⟩ (.slice ae2 ne2 ce2)).drew);rw [<- hw9];obtain ⟨e0,e1,hT9,hB9⟩:=zlH HB0.o HRB.o HLT.o HB4.o (Below.refl _ _) HT4.o (.inl rfl) HR4.o (.inr hw9);refine bodyPost_ret (by simp [results,results12,go_sem,e0,e1];try rfl) rfl ?_;exact ⟨_,rfl,hT9,HC.o,hB9⟩
 obtain ⟨rfl,rfl,rfl,rfl⟩:n0=0/\cs0=[]/\es0=[]/\x0=x:=by simpa using HA2.o hy0
 have qy:((y:Int) != 0)=true:=by rw [bne_iff_ne];omega
 clear hy0;have hn1:rb≠tb:=by have:=HLT.o;have:=HB1.size;have:=HTB.o;omega
 have hn2:tb≠rb:=hn1.symm;obtain ⟨d0,d1⟩:=HR3.cells;have f0:=HR3.free 0;have f1:=HR3.free 1;go_wp2;obtain ⟨w4,hw4⟩:=nm_ ((w3.setCell ⟨tb,0,none⟩ (.slice ac2 nc2 cc2)).setCell ⟨tb,1,none⟩ (.slice ae2 ne2 ce2));rw [<- hw4];have hlt:=HLT.o;have hz1:=HB1.size;have hz2:=HB2.size;have htb:=HTB.o;have hl2:=HT2L.o;have hO:Only (fun j=>j=tb) w3 w4:=by rw [hw4];exact ((Only.refl (fun j=>j=tb) _).setCell (p:=⟨tb,0,none⟩) rfl _).setCell (p:=⟨tb,1,none⟩) rfl _
 have hT4:Tbox w4 tb (.slice ac2 nc2 cc2) (.slice ae2 ne2 ce2):=by rw [hw4];exact HT3.both _ _
 have hR4:Tbox w4 rb (.slice none 0 0) (.slice none 0 0):=hO.keep HR3.o (by omega);have hb4:Below w0.heap.size w0 w4:=by rw [hw4];exact ((HB2.trans (HB3.mono hz2)).setCell (p:=⟨tb,0,none⟩) (by show w0.heap.size<=tb;omega) _).setCell (p:=⟨tb,1,none⟩) (by show w0.heap.size<=tb;omega) _
 have HT4:=h_ (fun wz (hz:Only (fun j=>j < w0.heap.size) w4 wz)=>HT.o wz ((hO.mono fun j h=>by omega).trans (hz.mono fun j h=>by omega)));have HB4:=h_ hb4;have HR4:=h_ hR4;obtain ⟨w9,hw9⟩:=nm_ (((w4.setCell ⟨rb,0,none⟩ (.slice none 0 0)).setCell ⟨rb,1,none⟩ (.slice none 0 0)));rw [<- hw9];obtain ⟨e0,e1,hT9,hB9⟩:=zlH (w9:=w9) HB0.o HRB.o HLT.o HB4.o (Below.refl _ _) (fun wz _=>zx4 wz) (.inl rfl) HR4.o (.inl hw9);refine bodyPost_ret (by simp [results,results12,go_sem,e0,e1];try rfl) rfl ?_;exact ⟨_,rfl,hT9,fun _ h=>absurd h (by simp),hB9⟩
/- -/
def rvB (cs:List ColB) (es:List EntB) (k:Nat) (kp:Int) (j:Bs):Bs:=(trE cs es).1.take ((trE cs (es.take k)).1.length + kp.toNat) ++ j
def rvR (cs:List ColB) (es:List EntB) (k:Nat):Nat:=(trE cs es).1.length - (trE cs (es.take k)).1.length
structure Left (cs:List ColB) (B:Bs) (es':List EntB):Prop where
 trs:TrS cs es'
 rv:rvD B=((trE cs es').1.length,cs,es',0)
 take:B.take (trE cs es').1.length=(trE cs es').1
 le:(trE cs es').1.length<=B.length
theorem Left.dec {cs:List ColB} {B:Bs} {es':List EntB} (h:Left cs B es'):(trD (trE cs es').1).1=cs/\(trD (trE cs es').1).2.1=es'/\(trD (trE cs es').1).2.2.2.2=0 :=
 ⟨h.trs.back.1,h.trs.back.2.1,h.trs.back.2.2.2⟩
theorem zDW {cs:List ColB} {es:List EntB} (h:TrS cs es) (k:Nat) (kp:Int) (j:Bs):∃ es',Left cs (rvB cs es k kp j) es'/\(es.take k).length<=es'.length/\es'.take (es.take k).length=es.take k/\(trE cs (es.take k)).1.length<=(trE cs es').1.length:=by
 obtain ⟨es',h1,h2,h3,h4,h5,h6,h7⟩:=zF4 (zj2 h k).1 (zAG h k kp.toNat j);exact ⟨es',⟨h1,h2,h3,h4⟩,h5,h6,h7⟩
def CpO (w:World) (N gl:Nat) (cs:List ColB) (es es':List EntB) (k:Nat) (Q T:Nat->Prop) (E:Nat) (e:Ending) (w':World):Prop :=
 e=.returned (.int .i64 (E:Int))/\∃ T',Only T w w'/\(∀ j,T' j->T j∨w.heap.size<=j)/\((E≠0/\Lgx w' N gl cs es k Q T')∨(E=0/\Lgx w' N gl cs es' es'.length Q T'))
theorem zEE {w2 w6 w7 w8 w9:World} {gl gw gd gx gy k:Nat} {bx vx:Value} {cs:List ColB} {es':List EntB} {B:Bs} {M:Nat} (hx:Lbx w2 gl gw gd k) (hb26:Below w2.heap.size w2 w6) (hM:w2.heap.size<=M) (hM6:M<=w6.heap.size) (hD:Dsk w6 M gx vx B B.length 0)
  (h7:w7=w6.setCell ⟨gl,1,none⟩ (.pointer (some ⟨gx,0,none⟩))) (hb78:Below w7.heap.size w7 w8) (hW:Wr w8 w7.heap.size gy bx cs es' fun j=>j < w7.heap.size)
  (h9:w9=w8.setCell ⟨gl,0,none⟩ (.pointer (some ⟨gy,0,none⟩))) :
  Lbx w9 gl gy gx k/\Wr w9 w7.heap.size gy bx cs es' (fun j=>j < w7.heap.size)/\Dsk w9 M gx vx B B.length 0/\Only (fun j=>j=gl) w2 w9:=by
 have hlt:gl < w2.heap.size:=(Array.getElem?_eq_some_iff.1 hx).1;have s6:=hb26.size;have e7:w7.heap.size=w6.heap.size:=by rw [h7];simp [World.setCell]
 have hO67:Only (fun j=>j=gl) w6 w7:=by rw [h7];exact (Only.refl (fun j=>j=gl) _).setCell (p:=⟨gl,1,none⟩) rfl _
 have hO89:Only (fun j=>j=gl) w8 w9:=by rw [h9];exact (Only.refl (fun j=>j=gl) _).setCell (p:=⟨gl,0,none⟩) rfl _
 have hx7:Lbx w7 gl gw gx k:=by
  have:=block_setCell (k:=1) (hx.later hb26) (.pointer (some ⟨gx,0,none⟩));rw [h7];unfold Lbx;simpa using this
 have hx9:Lbx w9 gl gy gx k:=by
  have:=block_setCell (k:=0) (hx7.later hb78) (.pointer (some ⟨gy,0,none⟩));rw [h9];unfold Lbx;simpa using this
 have nq:∀ q,DskQ gx vx q->¬ q=gl:=fun q hq e=>by have:=(hD.q hq).1;omega
 refine ⟨hx9,hW.only hO89 fun j _ hj=>by omega,((hD.only hO67 nq).later hb78).only hO89 nq,?_⟩;exact ((((Only.refl (fun j=>j=gl) w2).below hb26 l_).trans hO67).below hb78 (by omega)).trans hO89
theorem zEF {w w1 w2 w9 w10 w11:World} {N gl gw gd gx gy k M P m:Nat} {bv dv bx vx:Value} {cs:List ColB} {es es':List EntB} {Q:Nat->Prop} (h:Lgp w N gl gw gd bv dv cs es k Q) (hQ:∀ j,Q j->j < w.heap.size) (hb1:Below w.heap.size w w1) (hO2:Only (DskQ gd dv) w1 w2)
  (hM:w2.heap.size<=M) (hMP:M<=P) (hx:Lbx w9 gl gy gx k) (hW:Wr w9 P gy bx cs es' fun j=>j < P) (hD:Dsk w9 M gx vx (trE cs es').1 (trE cs es').1.length 0) (hDP:∀ q,DskQ gx vx q->q < P) (hO:Only (fun j=>j=gl) w2 w9)
  (hb10:Below w9.heap.size w9 w10) (hm:m=es'.length) (h11:w11=w10.setCell ⟨gl,2,none⟩ (.int .i64 (m:Int))):CpO w N gl cs es es' k Q (LgS gl gw gd bv dv) 0 (.returned (.int .i64 0)) w11:=by
 have hlt:=h.lt;have hN:=h.from_;have s1:=hb1.size;have s2:=hO2.size;have hO11:Only (fun j=>j=gl) w10 w11:=by rw [h11];exact (Only.refl (fun j=>j=gl) _).setCell (p:=⟨gl,2,none⟩) rfl _
 have nq:∀ q,DskQ gx vx q->¬ q=gl:=fun q hq e=>by have:=(hD.q hq).1;omega
 have hall:Only (LgS gl gw gd bv dv) w w11:=(((Only.later15 hb1).trans (hO2.mono fun j hj=>.inr (.inr hj))).trans ((hO.below hb10 l_).mono fun j hj=>.inl hj)).trans (hO11.mono fun j hj=>.inl hj);refine ⟨rfl,_,hall,fun j hj=>?_,.inr ⟨rfl,gy,gx,bx,vx,⟨hN,l_,?_,?_,?_,fun j hj=>⟨(h.apart j hj).1,fun hd=>?_⟩,fun hd=>nq _ hd rfl⟩,rfl⟩⟩
 ·rcases hj with hj | (hj | hj) | hj
  ·exact .inl (.inl hj)
  ·exact .inr (by rw [hj];have:=hW.from_;omega)
  ·exact .inr (by have:=(hW.own.lt14 hj).1;omega)
  exact .inr (by have:=(hD.q hj).1;omega)
 ·have:=block_setCell (k:=2) (hx.later hb10) (.int .i64 (m:Int));rw [h11,<- hm];unfold Lbx;simpa using this
 ·rw [List.take_of_length_le l_];exact ((hD.later hb10).only hO11 nq).base_le15 (by omega)
 ·refine (((hW.later hb10).only hO11 fun j _ hj=>by omega).less fun j hj=>?_).lower (by omega);rcases hj with hj | hj | hj
  ·have:=hQ j hj;omega
  ·omega
  exact hDP j hj
 have:=hQ j hj;have:=(hD.q hd).1;omega
theorem zoS (N gl gw gd:Nat) (bv dv jv:Value) (cs:List ColB) (es es':List EntB) (k:Nat) (kp:Int) (j:Bs) (Q:Nat->Prop) (w:World) (h:Lgp w N gl gw gd bv dv cs es k Q) (hQ:∀ j,Q j->j < w.heap.size)
  (hj:OffB w jv j (DskQ gd dv)) (hk:-9223372036854775808<=kp/\kp<=9223372036854775807) (hE':crE (rvR cs es k) kp j.length=0->Left cs (rvB cs es k kp j) es') (hT:∀ wz,Below N w wz->Tabs wz/\Frs wz) :
  Calls prog 25 #[.pointer (some ⟨gl,0,none⟩),.int .i64 kp,jv] w (CpO w N gl cs es es' k Q (LgS gl gw gd bv dv) (crE (rvR cs es k) kp j.length)):=by
 have HL:=h_ h;have HH:=h_ (zbE h.box);have HQ:=h_ hQ;have HJ:=h_ hj;have HK:=h_ hk;have HT:=h_ hT;obtain ⟨aj,cj,rfl,_⟩:=hj.1.shape;have C0:=h_ (show crE (rvR cs es k) kp j.length=0->crL (trE cs es).1 (trE cs (es.take k)).1.length kp j=rvB cs es k kp j from fun h=>if_pos h);have C1:=h_ (show crE (rvR cs es k) kp j.length≠0->crL (trE cs es).1 (trE cs (es.take k)).1.length kp j=(trE cs es).1/\crS (trE cs es).1 (trE cs (es.take k)).1.length kp j=(trE cs (es.take k)).1.length/\crC (trE cs es).1 (trE cs (es.take k)).1.length kp j 0=0 from fun h=>⟨if_neg h,if_neg h,if_neg h⟩);have CR:=h_ (fun w1 (h1:Lgp w1 N gl gw gd bv dv cs es k Q) (hb:Below w.heap.size w w1)=>zvI N gd dv _ _ 0 kp (.slice aj j.length cj) j w1 h1.dsk (hj.later hb) hk (by decide));have HE':=h_ hE';obtain ⟨B,hB⟩:=nm_ (rvB cs es k kp j);obtain ⟨E,hE⟩:=nm_ (crE (rvR cs es k) kp j.length);rw [<- hB,<- hE] at C0 HE';rw [<- hE] at C1;rw [<- hE];have CRE:=h_ (show crE ((trE cs es).1.length - (trE cs (es.take k)).1.length) kp j.length=E from hE.symm);clear h hQ hj hk hE' hT hB hE;have hfd:∀ u,(Instr.field 98 (.agg #[.pointer (some ⟨gw,0,none⟩),.pointer (some ⟨gd,0,none⟩),.int .i64 (k:Int)]) 1).run prog u=.ok (.pointer (some ⟨gd,0,none⟩)) u:=fun _=>by kernel_rfl
 go_enter func25,ntmps25;go_wp2_with fail;refine HH.mono ?_;rintro e w1 ⟨rfl,hb1⟩;have h1:=HL.later hb1;have C:=h_ (CR.o w1 h1 hb1);rw [CRE.o] at C;have HL1:=h_ h1;have HB1:=h_ hb1;clear h1 hb1 HH CR;go_wp2_with fail;refine C.mono ?_;rintro e w2 ⟨rfl,dn,hd,hO,hq⟩;have HO2:=h_ hO;have HP:=h_ (ztE HL1.o (fun j hj=>Nat.lt_of_lt_of_le (HQ.o j hj) HB1.size) hO hq);have HD2:=h_ hd;clear hd hO hq C;by_cases h0:E=0
 ·subst h0;have HE:=h_ (HE'.o rfl);have hd2:=HD2.o;rw [C0.o rfl] at hd2;have BY:=h_ (zvJ _ _ _ _ _ _ w2 hd2);have HSM:=h_ hd2.small;obtain ⟨x1,x2,x3,x4,x5⟩:=HP.o;have g0:=x2.cells.2.1;have HX2:=h_ x2;clear hd2 x1 x2 x3 x4 x5 HE' C0 C1;go_wp2_with fail;refine BY.mono ?_;rintro e w3 ⟨lv,rfl,ho,hb3⟩;have hNw:N<=w.heap.size:=Nat.le_trans HL.from_ (Nat.le_of_lt HL.lt);have hz1:=HB1.size;have hz2:=HO2.size;have hbN2:Below N w w2:=(HB1.mono hNw).trans (HL1.dsk.below HO2.o);have hbN3:Below N w w3:=hbN2.trans (hb3.mono (by omega));have hrd:=ho.rd (by have:=HSM.o;omega);have RV:=h_ (zg1 lv B w3 hrd (HT.o _ hbN3).1 (HT.o _ hbN3).2);unfold RvO at RV;rw [HE.rv] at RV;obtain ⟨D,hD⟩:=nm_ ((trE cs es').1);have HLF:=h_ HE.o;obtain ⟨t1,t2,t3⟩:=HE.dec;have hle:=HE.le;have htk:=HE.take;rw [<- hD] at RV t1 t2 t3 hle htk;obtain ⟨pv,hup,hpd⟩:=hrd.upto D.length hle;rw [htk] at hpd;obtain ⟨ab,cb,rfl,_⟩:=hrd.shape;obtain ⟨pa,pc,rfl,_⟩:=(hpd w3 hrd).shape;have hDs:D.length<=100000000:=Nat.le_trans hle HSM.o;obtain ⟨p,hp⟩:=nm_ D.length;rw [<- hp] at RV hup hpd;have HPL:=h_ hp;have HDD:=h_ hD;have HTD:=h_ (And.intro t1 (And.intro t2 t3));have HDS:=h_ hDs;have HO3:=h_ ho;have HB3:=h_ hb3;have HBN3:=h_ hbN3;have HPD:=h_ hpd;have HZ:=h_ (And.intro hNw (And.intro hz1 hz2));clear ho hb3 hbN2 hbN3 hrd hpd hp hD t1 t2 t3 hle htk hDs hNw hz1 hz2 BY g0 HE;go_wp2_with fail;refine RV.mono ?_;rintro e w4 ⟨tv,rfl,hT,hC,hb4⟩;obtain ⟨sv,ev,rfl,hR,hZ⟩:=hT;obtain ⟨ae,ne,ce,rfl⟩:=hZ.lit;obtain ⟨ac,nc,cc,rfl⟩:=hR.lit12;obtain ⟨M1,M2⟩:=za7 w4 (.cells #[.slice ac nc cc,.slice ae ne ce] 27);have HB4:=h_ (hb4.trans (M2.mono hb4.size));clear RV hC hb4 hR hZ M1 M2;go_wp2_with fail;obtain ⟨w5,hw5⟩:=nm_ (w4.alloc (.cells #[.slice ac nc cc,.slice ae ne ce] 27));rw [<- hw5] at HB4 ⊢;have HO5:=h_ (HO3.later HB4.o l_);have DN:=h_ (ztP _ D w5 (HPD.o w5 (HO5.rd (by have:=HSM.o;omega))) HDS.o);clear hw5;refine DN.mono ?_;rintro e w6 ⟨gx,vx,rfl,hd,hb6⟩;have hz3:=HB3.size;have hz4:=HB4.size;have hb26:Below w2.heap.size w2 w6:=(HB3.trans (HB4.mono hz3)).trans (hb6.mono (by omega));have HX6:=h_ (HX2.later hb26);have f1:=HX6.free 1;have c1:=HX6.cells.2.1;have HB26:=h_ hb26;have HD6:=h_ hd;have HB6:=h_ hb6;clear hd hb6 hb26 DN;go_wp2_with fail;obtain ⟨w7,hw7⟩:=nm_ (w6.setCell ⟨gl,1,none⟩ (.pointer (some ⟨gx,0,none⟩)));rw [<- hw7];have hgl:gl < w2.heap.size:=(Array.getElem?_eq_some_iff.1 HX2.o).1;have hO67:Only (fun j=>j=gl) w6 w7:=by rw [hw7];exact (Only.refl (fun j=>j=gl) _).setCell (p:=⟨gl,1,none⟩) rfl _
  have hO7:Own w7 w2.heap.size (.slice ab B.length cb) B:=(HO5.later HB6.o l_).stay hO67 fun q hq e=>by
   have:=(HO5.lt14 hq).1;omega
  have hbN7:Below N w w7:=by
   have hfrom:=HL.from_;have hz6:=HB26.size;have hz:=HZ.o;have b6:Below N w w6:=(((HB1.mono hz.1).trans (HL1.dsk.below HO2.o))).trans (HB26.mono (by omega));exact b6.trans (hO67.toBelow (fun j hj=>by omega) (by omega))
  have OP:=h_ (znZ _ D w7 (HPD.o w7 (hO7.rd (by have:=HSM.o;omega))) (by have:=HDS.o;omega) (HT.o _ hbN7).1 (HT.o _ hbN7).2);unfold OpN at OP;rw [HTD.1,HTD.2.1,HTD.2.2] at OP;obtain ⟨y,hy⟩:=nm_ ((trD D).2.2.2.1);rw [<- hy] at OP;have HW7:=h_ hw7;have HBN7:=h_ hbN7;clear hw7 hgl hO67 hO7 hbN7 hy hz3 hz4 f1 c1;refine OP.mono ?_;rintro e w8 ⟨ov,rfl,hb8,hw⟩;rcases hw with ⟨h0,_⟩ | ⟨_,gy,bx,rfl,hw⟩
  ·exact absurd rfl h0
  have hx8:Lbx w8 gl gw gx k:=by
   have:=block_setCell (k:=1) HX6.o (.pointer (some ⟨gx,0,none⟩));rw [<- HW7.o] at this;exact (show Lbx w7 gl gw gx k from by unfold Lbx;simpa using this).later hb8
  have f0:=hx8.free 0;have c0:=hx8.cells.1;have HB8:=h_ hb8;have HW8:=h_ hw;clear hb8 hw hx8 OP;go_wp2_with fail;obtain ⟨w9,hw9⟩:=nm_ (w8.setCell ⟨gl,0,none⟩ (.pointer (some ⟨gy,0,none⟩)));rw [<- hw9];have hd6:=HD6.o;obtain ⟨z1,z2,z3,z4⟩:=zEE HX2.o HB26.o (M:=w5.heap.size) (Nat.le_trans HB3.size HB4.size) HB6.size hd6 HW7.o HB8.o HW8.o hw9;have MN:=h_ (zdI z1 z2);obtain ⟨m,hm⟩:=nm_ es'.length;rw [<- hm] at MN;have HX9:=h_ z1;have HW9:=h_ z2;have HD9:=h_ z3;have HO9:=h_ z4;have HM:=h_ hm;clear hw9 hd6 z1 z2 z3 z4 hm f0 c0;refine MN.mono ?_;rintro e w10 ⟨rfl,hb10⟩;have f2:=(HX9.later hb10).free 2;have c2:=(HX9.later hb10).cells.2.2;have HB10:=h_ hb10;clear hb10 MN;go_wp2;go_ret;have hd9:=HD9.o;rw [HDD.o] at hd9;have e7:w7.heap.size=w6.heap.size:=by rw [HW7.o];simp [World.setCell]
  exact zEF HL.o HQ.o HB1.o HO2.o (Nat.le_trans HB3.size HB4.size) (P:=w7.heap.size) (by rw [e7];exact HB6.size) HX9.o HW9.o hd9 (fun q hq=>by rw [e7];exact (HD6.q hq).2) HO9.o HB10.o HM.o rfl
 have q:((E:Int) != 0)=true:=by rw [bne_iff_ne];omega
 have HN:=h_ h0;clear h0;go_wp2;go_ret;obtain ⟨x1,x2,x3,x4,x5⟩:=HP.o;obtain ⟨c0,c1,c2⟩:=C1.o HN.o;have hd:=HD2.o;rw [c0,c1,c2] at hd;exact ⟨rfl,_,(Only.later15 HB1.o).trans (HO2.mono fun j hj=>.inr (.inr hj)),fun j hj=>(x5 j hj).imp_right fun e=>Nat.le_trans HB1.size e,.inl ⟨HN.o,gw,gd,bv,dn,⟨HL1.from_,HL1.le,x2,hd,x1,x3,x4⟩,rfl⟩⟩
/- -/
def zaS:List ColB:=[(⟨#[105,100]⟩,0)]
def zaN (n:Nat):List PairB:=[([(n,⟨#[]⟩)],1)]
theorem ztN:CS zaS:=by
 intro c hc;unfold zaS at hc;simp at hc;subst hc;exact ⟨by decide,by decide,by decide⟩
theorem zg9 {n:Nat} (hn:n<=2):PSO (zaN n):=by
 intro p hp;simp [zaN] at hp;subst hp;refine ⟨fun c hc=>?_,by dsimp only;decide,by dsimp only;decide⟩;simp at hc;subst hc;exact ⟨by dsimp only;omega,by show (0:Nat)<=140737488351232;decide⟩
theorem zg8:errS (colsL zaS)=0:=by decide +kernel
theorem zpN:clcE zaS (zaN 1)=0/\clcO zaS (zaN 1)=zaN 1:=by decide +kernel
theorem zpM:clcE zaS (zaN 2)=0/\clcO zaS (zaN 2)=zaN 2:=by decide +kernel
theorem zrR:apE zaS 0 [] (0,1,zaN 1)=0/\apN zaS 0 [] (0,1,zaN 1)=1/\apV zaS 0 [] (0,1,zaN 1)=zaN 1:=by decide +kernel
theorem zE8:apE zaS 1 (zaN 1) (0,2,zaN 2)=0:=by decide +kernel
theorem zE7:(entW zaS (0,1,zaN 1)).2=0:=by decide +kernel
theorem zE6:(entW zaS (0,2,zaN 2)).2=0:=by decide +kernel
def zdP:List EntB:=[(0,1,zaN 1)]
def zpO:List EntB:=[(0,1,zaN 1),(0,2,zaN 2)]
theorem zbZ:TrS zaS []/\trE zaS []=(hdB (colsL zaS),0,[],0,0):=TrS.nil ztN zg8
theorem ze7:actE zaS [] (0,zaN 1)=0/\actX zaS [] (0,zaN 1)=(0,1,zaN 1):=by
 have hX:actX zaS [] (0,zaN 1)=(0,1,zaN 1):=by
  unfold actX;rw [if_pos rfl,zbZ.2];dsimp only;rw [zpN.2];rfl
 refine ⟨?_,hX⟩;unfold actE;rw [if_neg (by simp),if_neg (by rw [zpN.1];simp),hX];unfold layE;rw [zbZ.2];dsimp only;rw [zrR.1,if_neg (by simp)];exact zE7
theorem zpK:actS zaS [] (0,zaN 1)=zdP:=by
 unfold actS;rw [ze7.1,ze7.2];exact if_pos rfl
theorem zeO:TrS zaS zdP/\(trE zaS zdP).2.1=1/\(trE zaS zdP).2.2.1=zaN 1:=by
 obtain ⟨t1,t2⟩:=znV zbZ.1 (a:=(0,zaN 1)) (zg9 (by decide)) ze7.1;rw [ze7.2] at t1 t2;rw [zbZ.2] at t2;dsimp only at t2;rw [zrR.2.1,zrR.2.2] at t2;refine ⟨t1,?_,?_⟩
 ·show (trE zaS ([] ++ [(0,1,zaN 1)])).2.1=1;rw [t2]
 show (trE zaS ([] ++ [(0,1,zaN 1)])).2.2.1=zaN 1;rw [t2]
theorem ze6:actE zaS zdP (0,zaN 2)=0/\actX zaS zdP (0,zaN 2)=(0,2,zaN 2):=by
 have hX:actX zaS zdP (0,zaN 2)=(0,2,zaN 2):=by
  unfold actX;rw [if_pos rfl,zeO.2.1];dsimp only;rw [zpM.2];rfl
 refine ⟨?_,hX⟩;unfold actE;rw [if_neg (by simp [zdP]),if_neg (by rw [zpM.1];simp),hX];unfold layE;rw [zeO.2.1,zeO.2.2,zE8,if_neg (by simp)];exact zE6
theorem zz0:actS zaS zdP (0,zaN 2)=zpO:=by
 unfold actS;rw [ze6.1,ze6.2];exact if_pos rfl
theorem ztM:TrS zaS zpO:=by
 obtain ⟨t1,_⟩:=znV zeO.1 (a:=(0,zaN 2)) (zg9 (by decide)) ze6.1;rw [ze6.2] at t1;exact t1
theorem zpL:crE (rvR zaS zpO 1) 3 ([]:Bs).length=0/\Left zaS (rvB zaS zpO 1 3 []) zdP:=by
 have hg:=zsP ztM (k:=1) (by decide);constructor
 ·unfold crE rvR;rw [if_neg (by omega),if_neg (by simp;omega)]
 obtain ⟨es',h1,h2,h3,h4⟩:=zDW ztM 1 3 [];have e:zpO.take 1=zdP:=rfl;rw [e] at h2 h3;have hl:zdP.length=1:=rfl;rw [hl] at h2 h3;have hle:=h1.le;unfold rvB at hle;rw [e,List.append_nil,List.length_take] at hle;have:¬ 1 < es'.length:=fun h=>by
  have:=zsP h1.trs h;rw [h3] at this;have:(3:Int).toNat=3:=rfl;omega
 have he:es'=zdP:=by rw [<- h3,List.take_of_length_le (by omega)]
 rw [<- he];exact h1
theorem zxR (w:World) (a:ColB):RdC (w.alloc (.cells #[.string a.1,.int .i64 a.2] 79)) (.slice (some ⟨w.heap.size,0,none⟩) 1 1) [a]:=by
 have ho:=zd7 colE w w.heap.size l_ ([a].map colV) (by intro x hx;obtain ⟨t,_,rfl⟩:=List.mem_map.1 hx;rfl) (by
  intro x hx u hu
  obtain ⟨t,ht,rfl⟩:=List.mem_map.1 hx
  simp [colV] at hu
  rcases hu with rfl | rfl <;> rfl) (by simp)
 exact OwnG.rd ho (by simp)
theorem zxO (w:World) (a:CellB):RdE (w.alloc (.cells #[.int .u64 (a.1:Int),.string a.2] 82)) (.slice (some ⟨w.heap.size,0,none⟩) 1 1) [a]:=by
 have ho:=zd7 zeE w w.heap.size l_ ([a].map cellVs) (zjU _) (zn5 _) (by simp);exact OwnG.rd ho (by simp)
theorem zoZ (w:World) (n:Nat):∀ w2,w2=(w.alloc (.cells #[.int .u64 (n:Int),.string ⟨#[]⟩] 82)).alloc (.cells #[.slice (some ⟨w.heap.size,0,none⟩) 1 1,.int .i64 1] 86) ->
  RdP w2 (.slice (some ⟨w.heap.size + 1,0,none⟩) 1 1) (zaN n)/\Below w.heap.size w w2:=by
 intro w2 h2;have hr:=zxO w (n,⟨#[]⟩);have b1:=(Below.refl w.heap.size w).alloc l_ (.cells #[.int .u64 (n:Int),.string ⟨#[]⟩] 82);obtain ⟨w1,hw1⟩:=nm_ (w.alloc (.cells #[.int .u64 (n:Int),.string ⟨#[]⟩] 82));have hs1:w1.heap.size=w.heap.size + 1:=by rw [hw1];simp
 rw [<- hw1] at hr b1 h2;have b2:=(Below.refl w1.heap.size w1).alloc l_ (.cells #[.slice (some ⟨w.heap.size,0,none⟩) 1 1,.int .i64 1] 86);have hn:=heap_alloc_new w1 (.cells #[.slice (some ⟨w.heap.size,0,none⟩) 1 1,.int .i64 1] 86);rw [<- h2] at b2 hn;rw [hs1] at hn;refine ⟨zAX w2 [(.slice (some ⟨w.heap.size,0,none⟩) 1 1,([(n,⟨#[]⟩)],1))] (fun t ht=>?_) (by simp) hn,b1.trans (b2.mono b1.size)⟩;simp at ht;subst ht;exact hr.later b2 l_
theorem zrO (w:World) (hT:Tabs w) (hF:Frs w) :
  Calls prog 11 #[] w fun e w'=>e=.returned (.bool true)/\Below w.heap.size w w':=by
 have HT:=h_ (fun wz (hz:Below w.heap.size w wz)=>hT.later hz);have HF:=h_ (fun wz (hz:Below w.heap.size w wz)=>hF.later hz);have b1:=(Below.refl w.heap.size w).alloc l_ (.cells #[.string ⟨#[105,100]⟩,.int .i64 0] 79);have NW:=h_ (zuE _ zaS _ (zxR w (⟨#[105,100]⟩,0)) ztN (hT.later b1));have HB1:=h_ b1;unfold NlP at NW;rw [zg8] at NW;clear hT hF b1;go_enter func11,ntmps11;go_wp2_with fail;refine NW.mono ?_;rintro e w2 ⟨v,rfl,hb,hl⟩;rcases hl with ⟨h0,_⟩ | ⟨_,gl,gw,gd,bv,dv,rfl,hl⟩
 ·exact absurd rfl h0
 have HL:=h_ (hl (fun _=>False) (fun j h=>h.elim));have HB2:=bT HB1 hb;obtain ⟨N,hN⟩:=nm_ ((w.alloc (.cells #[.string ⟨#[105,100]⟩,.int .i64 0] 79)).heap.size);rw [<- hN] at HL;have HN:=h_ (show w.heap.size<=N from by rw [hN];exact HB1.size);clear hb hl NW hN HB1;go_wp2_with fail;refine (zm7 1 1 (by decide) _).mono ?_;rintro e w3 ⟨rfl,hb⟩;have HB3:=bT HB2 hb;have HL3:=h_ (HL.later hb);clear hb HL HB2;go_wp2_with fail;obtain ⟨w4,hw4⟩:=nm_ ((w3.alloc (.cells #[.int .u64 1,.string ⟨#[]⟩] 82)).alloc (.cells #[.slice (some ⟨w3.heap.size,0,none⟩) 1 1,.int .i64 1] 86));rw [<- hw4];obtain ⟨hp4,hb4⟩:=zoZ w3 1 w4 hw4;have HL4:=h_ (HL3.later hb4);have HB4:=bT HB3 hb4
 have AP:=h_ (zg2 N gl gw gd bv dv _ zaS [] (zaN 1) 0 _ w4 HL4.o (fun j h=>h.elim) hp4 (zg9 (by decide)) (by decide) (HT.o w4 HB4.o) (HF.o w4 HB4.o) (by
  have h1:=(ze4 zg8)
  have h2:=zkX zaS [] (0,zaN 1)
  rw [zbZ.2]
  dsimp only
  omega))
 rw [ze7.1,zpK] at AP;clear hw4 hp4 hb4 HL3 HB3;refine AP.mono ?_;rintro e w5 ⟨rfl,T5,hl,hO,_⟩;obtain ⟨gw5,gd5,bv5,dv5,hl,rfl⟩:=hl;have HB5:=h_ (HB4.trans ((HL4.below hO).mono HN.o));have HL5:=h_ hl;have SY:=h_ (zr6 N gl gw5 gd5 bv5 dv5 zaS zdP 0 _ w5 hl (fun j h=>h.elim));clear hl hO AP HL4 HB4;go_wp2_with fail;refine SY.mono ?_;rintro e w6 ⟨rfl,T6,hl,hO,_⟩;obtain ⟨gw6,gd6,bv6,dv6,hl,rfl⟩:=hl;have HB6:=h_ (HB5.trans ((HL5.below hO).mono HN.o));have HL6:=h_ hl;clear hl hO SY HL5 HB5;go_wp2_with fail;refine (zm7 2 2 (by decide) _).mono ?_;rintro e w7 ⟨rfl,hb⟩;have HB7:=bT HB6 hb;have HL7:=h_ (HL6.later hb);clear hb HL6 HB6;go_wp2_with fail;obtain ⟨w8,hw8⟩:=nm_ ((w7.alloc (.cells #[.int .u64 2,.string ⟨#[]⟩] 82)).alloc (.cells #[.slice (some ⟨w7.heap.size,0,none⟩) 1 1,.int .i64 1] 86));rw [<- hw8];obtain ⟨hp8,hb8⟩:=zoZ w7 2 w8 hw8;have HL8:=h_ (HL7.later hb8);have HB8:=bT HB7 hb8
 have AP:=h_ (zg2 N gl gw6 gd6 bv6 dv6 _ zaS zdP (zaN 2) _ _ w8 HL8.o (fun j h=>h.elim) hp8 (zg9 (by decide)) (by decide) (HT.o w8 HB8.o) (HF.o w8 HB8.o) (by
  have h1:=(ze4 zg8)
  have h2:=zkX zaS [] (0,zaN 1)
  have h3:=zkX zaS zdP (0,zaN 2)
  have h4:=zqJ (a:=(0,zaN 1)) zbZ.1 (zg9 (by decide))
  rw [zpK,zbZ.2] at h4
  rw [h4,List.length_append]
  dsimp only
  omega))
 rw [ze6.1,zz0] at AP;clear hw8 hp8 hb8 HL7 HB7;refine AP.mono ?_;rintro e w9 ⟨rfl,T9,hl,hO,_⟩;obtain ⟨gw9,gd9,bv9,dv9,hl,rfl⟩:=hl;have HB9:=h_ (HB8.trans ((HL8.below hO).mono HN.o));have HL9:=h_ hl;have MN:=h_ (zdI hl.box hl.wrt);clear hl hO AP HL8 HB8;go_wp2_with fail;refine MN.mono ?_;rintro e w10 ⟨rfl,hb⟩;have HB10:=bT HB9 hb;have HL10:=h_ (HL9.later hb);have SF:=h_ (zr7 HL10.o);clear hb MN HL9 HB9;go_wp2_with fail;refine SF.mono ?_;rintro e w11 ⟨rfl,hb⟩;have HB11:=bT HB10 hb;have HL11:=h_ (HL10.later hb)
 have CR:=h_ (zoS N gl gw9 gd9 bv9 dv9 (.slice none 0 0) zaS zpO zdP _ 3 [] _ w11 HL11.o (fun j h=>h.elim) ⟨(zaT w11 0).rd (by simp),fun i hi=>absurd hi (by simp)⟩ (by decide) (fun _=>zpL.2)
  (fun wz hz=>⟨HT.o wz (HB11.trans (hz.mono HN.o)),HF.o wz (HB11.trans (hz.mono HN.o))⟩))
 have e1:crE (rvR zaS zpO zdP.length) 3 ([]:Bs).length=0:=zpL.1;rw [e1] at CR;clear hb SF HL10 HB10 e1;go_wp2_with fail;refine CR.mono ?_;rintro e w12 ⟨rfl,T12,hO,_,hl⟩;rcases hl with ⟨h0,_⟩ | ⟨_,gw12,gd12,bv12,dv12,hl,rfl⟩
 ·exact absurd rfl h0
 have HB12:=h_ (HB11.trans ((HL11.below hO).mono HN.o));have HL12:=h_ hl;have MN:=h_ (zdI hl.box hl.wrt);clear hl hO CR HL11 HB11;have y1:(zpO.length:Int)=2:=rfl;have y2:(zdP.length:Int)=1:=rfl;rw [y2] at MN;rw [y1,y2];go_wp2_with fail;refine MN.mono ?_;rintro e w13 ⟨rfl,hb⟩;have HB13:=bT HB12 hb;have HL13:=h_ (HL12.later hb);have SQ:=h_ (zuD HL13.o);rw [zeO.2.1] at SQ;clear hb MN HL12 HB12;go_wp2_with fail;refine SQ.mono ?_;rintro e w14 ⟨rfl,hb⟩;have HB14:=bT HB13 hb;have HL14:=h_ (HL13.later hb);have VW:=h_ (zr5 HL14.o);rw [zeO.2.2] at VW;clear hb SQ HL13 HB13;go_wp2_with fail;refine VW.mono ?_;rintro e w15 ⟨v,rfl,hv,hb⟩;have HB15:=bT HB14 hb;have hlen:=hv.rd.len;obtain ⟨a1,n1,c1,rfl⟩:=hv.rd.lit12;have y3:((zaN 1).length:Int)=1:=rfl;rw [y3] at hlen;clear hb hv VW HL14 HB14;go_wp2;go_ret;exact ⟨rfl,HB15.o⟩
