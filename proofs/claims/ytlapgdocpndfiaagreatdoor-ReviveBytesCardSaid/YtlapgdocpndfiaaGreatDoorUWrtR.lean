/- -/
import Derived.Test.YtlapgdocpndfiaaGreatDoorUWrtP
import Derived.Deep.RegionLaw
set_option maxHeartbeats 32000000
set_option linter.unusedVariables false
set_option linter.unusedSimpArgs false
set_option maxRecDepth 1000000
namespace Go.Proofs.YtlapgdocpndfiaaGreatDoor
open _root_.Go.Proofs.Tryz
open Go.RowKit Go.Shelf
theorem zr9 (sv v:Value) (m:Nat) (l:Bs) (k:Nat) (cs:List ColB) (wz:World) (hM:Mdl wz m v l k 0) (hz:RdC wz sv cs) (hC:CS cs) :
  Calls prog 143 #[.pointer (some ⟨m,0,none⟩),sv] wz (TakeR10 wz m v l (batS cs l k)) :=
 zuM sv cs m v l k wz hM hC (errS (colsL cs)) (cmpE cs) (fun w9 hg=>RdC.aside hM hz hg) (zbV sv cs wz hz hC)
  (fun hE=>by have:=(zaM hE).2.1;rw [za4] at this;exact this)
  (fun w9 va vb a b hg ha hb' hA hB=>by
   have:=zdJ sv va vb cs a b w9 (RdC.aside hM hz hg) ha hb' hC hA hB
   unfold cmpE
   rw [zeD,zeD]
   exact this)
  (fun w9 k kd n hM9=>zuN m v l k w9 hM9 kd n)
theorem Mdl.aside12 {w:World} {m:Nat} {v:Value} {l:Bs} {k x:Nat} (h:Mdl w m v l k x) {p:Addr} (hp:p.block≠m) (hv:∀ i,i < l.length->(adr v i).block≠p.block) (u:Value):Mdl (w.setCell p u) m v l k x :=
 h.only (S:=fun j=>j=p.block) ((Only.refl (fun j=>j=p.block) w).setCell (p:=p) rfl _) (fun e=>hp e.symm) (fun i hi e=>hv i hi e)
theorem zuS (sv v:Value) (cs:List ColB) (kind:Int) (l:Bs) (w:World) (hsv:RdC w sv cs) (h:Rd w v l) (hC:CS cs) (hk:inW kind) :
  Calls prog 105 #[sv,.int .i64 kind,v] w (RdEO w cs kind l):=by
 obtain ⟨ao,cap,hv,_⟩:=id h.shape;subst hv;obtain ⟨N1,N4⟩:=za7 w (.cells #[.int .i64 0,.int .i64 0,.slice none 0 0] 92);obtain ⟨w0,hw0⟩:=nm_ (w.alloc (.cells #[.int .i64 0,.int .i64 0,.slice none 0 0] 92));have N0:w0.heap.size=w.heap.size + 1:=by rw [hw0];simp
 rw [<- hw0] at N1 N4;have HB0:=h_ N4;have SC:=h_ (zbV sv cs w0 (hsv.later N4 l_) hC);have HSV:=h_ (fun wz (hz:Below w.heap.size w wz)=>hsv.later hz l_);have HH:=h_ (fun wz (hz:Below w.heap.size w wz)=>h.later hz l_);have hvb:=fun i (hi:i < l.length)=>h.block hi;have HVB:=h_ hvb;have hE:entRE cs kind l=if errS (colsL cs)≠0 then errS (colsL cs) else if kind≠1/\kind≠2 then 10 else told l (entT cs l).2.1 (entT cs l).2.2:=rfl
 have hV:entRE cs kind l=0->entRV cs kind l=(2 - kind,((entT cs l).1.1:Int),(entT cs l).1.2):=fun h=>by unfold entRV;rw [if_pos h]
 obtain ⟨E,hEe⟩:=nm_ (errS (colsL cs));rw [<- hEe] at SC hE;obtain ⟨cb,hcb⟩:=nm_ w.heap.size;rw [<- hcb] at N0 N1;have HCB:=h_ hcb;have HW0:=h_ hw0;have HR0:=h_ (show Ebox w0 cb 0 0 (.slice none 0 0) from N1);have HN0:=h_ N0;clear hw0 N1 N4 h hsv hcb hEe N0 hvb;by_cases hE0:E=0
 ·subst hE0;rw [if_neg (by simp)] at hE;by_cases hkd:kind≠1/\kind≠2
  ·rw [if_pos hkd] at hE;have HE:=h_ hE;have d1:(kind != 1)=true:=(by rw [bne_iff_ne];exact hkd.1);have d2:(kind != 2)=true:=(by rw [bne_iff_ne];exact hkd.2);clear hE hV hk hkd;go_enter func105,ntmps105;go_wp2_with fail;rw [<- HW0.o,<- HCB.o];refine SC.mono ?_;rintro e w1 ⟨rfl,hb⟩;have HB1:=bT HB0 hb;have HR1:=h_ (HR0.later hb);obtain ⟨c0,c1,c2⟩:=HR1.cells;have f0:=HR1.free 0;have f1:=HR1.free 1;have f2:=HR1.free 2;clear hb SC HR0;go_wp2;obtain ⟨w9,hw9⟩:=nm_ (((w1.setCell ⟨cb,0,none⟩ (.int .i64 0)).setCell ⟨cb,1,none⟩ (.int .i64 0)).setCell ⟨cb,2,none⟩ (.slice none 0 0));rw [<- hw9];obtain ⟨e0,e1,e2⟩:=(show Ebox w9 cb 0 0 (.slice none 0 0) from by rw [hw9];exact HR1.reset 0 0 _).cells;have HO9:Only (fun j=>j=cb) w1 w9:=(by rw [hw9];exact (((Only.refl (fun j=>j=cb) w1).setCell (p:=⟨cb,0,none⟩) rfl _).setCell (p:=⟨cb,1,none⟩) rfl _).setCell (p:=⟨cb,2,none⟩) rfl _);have HB9:Below w.heap.size w w9:=HB1.trans (HO9.toBelow (fun j hj=>by have:=HCB.o;omega) HB1.size);refine bodyPost_ret (by simp [results,results105,go_sem,e0,e1,e2];try rfl) rfl ?_;exact RdEO.no HE.o (by decide) HB9
  rw [if_neg hkd] at hE;have hk2:kind=1∨kind=2:=by omega
  obtain ⟨kd,hkd2⟩:=nm_ (2 - kind);obtain ⟨R,hRR⟩:=nm_ (entT cs l);have hno:=znL (cs:=cs) (l:=l);have hok:=znK (cs:=cs) (l:=l);have hmost:=zc3 (l:=l) (k:=0) (most:=281474976710656) (Nat.zero_le _);have hno9:=zCM (l:=l) (k:=0) (most:=281474976710656);obtain ⟨R1,hR1⟩:=nm_ (rdU l 0 281474976710656);rw [<- hRR] at hE hV hno hok;rw [<- hR1] at hno hok hmost hno9;obtain ⟨n,hn⟩:=nm_ R1.1;obtain ⟨k1,hk1⟩:=nm_ R1.2.1;obtain ⟨x1,hx1⟩:=nm_ R1.2.2;rw [<- hn,<- hk1,<- hx1] at hok hno9;rw [<- hk1,<- hx1] at hno;rw [<- hn,<- hx1] at hmost;have hn9:n<=281474976710656:=by
   by_cases h9:x1=0
   ·exact (hmost h9).2.2
   rw [(hno9 h9).1];exact Nat.zero_le _
  have MU:=h_ (fun m v w hM=>show Calls prog 142 #[.pointer (some ⟨m,0,none⟩),.int .u64 (281474976710656:Nat)] w (Does w m v l (.int .u64 (n:Int)) k1 x1) from by
   have:=zcF m v l 0 w hM 281474976710656 (by decide)
   rw [<- hR1,<- hn,<- hk1,<- hx1] at this
   exact this)
  obtain ⟨B,hB⟩:=nm_ (batS cs l k1);have TK:=h_ (fun sv v m wz hM hz=>show Calls prog 143 #[.pointer (some ⟨m,0,none⟩),sv] wz (TakeR10 wz m v l B) from by rw [hB];exact zr9 sv v m l k1 cs wz hM hz hC);rw [<- hB] at hok;rw [hkd2.symm] at hV;have HE:=h_ hE;have HV:=h_ hV;have HNo:=h_ hno;have HOk:=h_ hok;clear hE hV hk hkd hC hno hok hmost hno9 hn hk1 hx1 hR1 hB hRR;have hkb:1<=kind/\kind<=2:=by omega
  have hq:(kind != 1)=false∨((kind != 1)=true/\(kind != 2)=false):=by rcases hk2 with rfl | rfl;exact .inl rfl;exact .inr ⟨rfl,rfl⟩
  clear hk2;rcases hq with z1 | ⟨z1,z2⟩
  all_goals
   go_enter func105,ntmps105;go_wp2_with fail;rw [<- HW0.o,<- HCB.o];refine SC.mono ?_;rintro e w1 ⟨rfl,hb⟩;have HB1:=bT HB0 hb;have HR1:=h_ (HR0.later hb);obtain ⟨M0,M1,M2,M4⟩:=new2 w1 (.cells #[.slice ao l.length cap,.int .i64 0,.int .i64 0] 226) (.cells #[.int .i64 (2 - kind),.int .i64 0,.slice none 0 0] 92);obtain ⟨w2,hw2⟩:=nm_ ((w1.alloc (.cells #[.slice ao l.length cap,.int .i64 0,.int .i64 0] 226)).alloc (.cells #[.int .i64 (2 - kind),.int .i64 0,.slice none 0 0] 92));rw [<- hw2] at M0 M1 M2 M4;obtain ⟨m,hm⟩:=nm_ w1.heap.size;rw [<- hm] at M0 M1 M2;have hcm:cb < m:=(by rw [hm];exact HR1.lt);have hwc:w.heap.size<=cb:=(by rw [HCB.o];exact l_);have hE2:Ebox w2 (m + 1) (2 - kind) 0 (.slice none 0 0):=M2;have HB2:=bT HB1 M4;have HR2:=h_ (HR1.later M4);have hM2:Mdl w2 m (.slice ao l.length cap) l 0 0:=⟨M1,Nat.zero_le _,HH.o w2 HB2.o,fun i hi=>by have:=HVB.o i hi;omega⟩;have HE2:=h_ hE2;have HM2:=h_ hM2;have HS2:=h_ M0;have HI:=h_ (And.intro hcm hwc);have HW2:=h_ hw2;have HMm:=h_ hm;have U:=h_ (MU.o m _ w2 hM2);clear hb SC HR0 HR1 HB1 M0 M1 M2 M4 hm hcm hwc hE2 hM2 hw2 MU;go_wp2_with fail;rw [<- HW2.o,<- HMm.o];refine U.mono ?_;rintro e w3 ⟨rfl,hG,hM3⟩;have hO3:Only (fun j=>j=m) w2 w3:=(Only.refl _ w2).grown hG rfl;have hE3:Ebox w3 (m + 1) (2 - kind) 0 (.slice none 0 0):=hO3.keep HE2.o (by omega);have hR3:Ebox w3 cb 0 0 (.slice none 0 0):=hO3.keep HR2.o (by have:=HI.o;omega);have hM4:=hM3.aside12 (p:=⟨m + 1,1,none⟩) (by simp) (fun i hi=>by have:=HVB.o i hi;have:=HI.o;dsimp only;omega) (.int .i64 (n:Int));have hE4:=hE3.seq (n:Int);have hO4:Only (fun j=>j=m + 1) w3 (w3.setCell ⟨m + 1,1,none⟩ (.int .i64 (n:Int))):=(Only.refl (fun j=>j=m + 1) w3).setCell (p:=⟨m + 1,1,none⟩) rfl _;have hR4:Ebox (w3.setCell ⟨m + 1,1,none⟩ (.int .i64 (n:Int))) cb 0 0 (.slice none 0 0):=hO4.keep hR3 (by have:=HI.o;omega);have hB4:Below w.heap.size w (w3.setCell ⟨m + 1,1,none⟩ (.int .i64 (n:Int))):=HB2.trans ((hO3.toBelow (B:=w.heap.size) (fun j hj=>by have:=HI.o;omega) HB2.size).trans (hO4.toBelow (fun j hj=>by have:=HI.o;omega) (Nat.le_trans HB2.size hO3.size)));have z4:=hM4.cell2;have z5:w3.cell? ⟨m + 1,1,none⟩=some (.int .i64 0):=hE3.cells.2.1;have z6:=hE3.free 1;obtain ⟨w4,hw4⟩:=nm_ (w3.setCell ⟨m + 1,1,none⟩ (.int .i64 (n:Int)));rw [<- hw4] at hM4 hE4 hR4 hB4;have HM4:=h_ hM4;have HE4:=h_ hE4;have HR4:=h_ hR4;have HB4:=h_ hB4;have HW4:=h_ hw4;clear hO3 hE3 hR3 hM4 hE4 hO4 hR4 hB4 hw4 hG hM3 U HM2 HE2 HR2 HB2 HW2;by_cases hx:x1=0
   ·subst hx;obtain ⟨q1,q2,q3⟩:=HOk.o rfl;have HQ:=h_ (And.intro q1 (And.intro q2 q3));have TK1:=h_ (TK.o sv _ m w4 HM4.o (HSV.o w4 HB4.o));clear q1 q2 q3 HNo HOk TK;go_wp2_with fail;rw [<- HW4.o];refine TK1.mono ?_;clear z4 z5 z6;rintro e w5 ⟨tv,rfl,⟨a2,n2,c2,rfl⟩,hG,hM5,hrc⟩;have hO5:Only (fun j=>j=m) w4 w5:=(Only.refl _ w4).grown hG rfl;have hE5:Ebox w5 (m + 1) (2 - kind) (n:Int) (.slice none 0 0):=hO5.keep HE4.o (by omega);have hR5:Ebox w5 cb 0 0 (.slice none 0 0):=hO5.keep HR4.o (by have:=HI.o;omega);have hM6:=hM5.aside12 (p:=⟨m + 1,2,none⟩) (by simp) (fun i hi=>by have:=HVB.o i hi;have:=HI.o;dsimp only;omega) (.slice a2 n2 c2);have hE6:=hE5.pairs (.slice a2 n2 c2);have hO6:Only (fun j=>j=m + 1) w5 (w5.setCell ⟨m + 1,2,none⟩ (.slice a2 n2 c2)):=(Only.refl (fun j=>j=m + 1) w5).setCell (p:=⟨m + 1,2,none⟩) rfl _;have hR6:Ebox (w5.setCell ⟨m + 1,2,none⟩ (.slice a2 n2 c2)) cb 0 0 (.slice none 0 0):=hO6.keep hR5 (by have:=HI.o;omega);have hB6:Below w.heap.size w (w5.setCell ⟨m + 1,2,none⟩ (.slice a2 n2 c2)):=HB4.trans ((hO5.toBelow (B:=w.heap.size) (fun j hj=>by have:=HI.o;omega) HB4.size).trans (hO6.toBelow (fun j hj=>by have:=HI.o;omega) (Nat.le_trans HB4.size hO5.size)));have z5:=hE5.cells.2.2;have z6:=hE5.free 2;have hN6:=fun (h:B.2.2=0)=>show ∃ ps,NewP (w5.setCell ⟨m + 1,2,none⟩ (.slice a2 n2 c2)) w4.heap.size (.slice a2 n2 c2) ps/\PSO ps/\psL ps=B.1 from by
     obtain ⟨ps,p1,p2,p3⟩:=hrc h;exact ⟨ps,p1.only hO6 (fun q hq=>by have:=HE4.lt;omega),p2,p3⟩
    obtain ⟨w6,hw6⟩:=nm_ (w5.setCell ⟨m + 1,2,none⟩ (.slice a2 n2 c2));rw [<- hw6] at hM6 hE6 hR6 hB6 hN6;have HM6:=h_ hM6;have HE6:=h_ hE6;have HR6:=h_ hR6;have HB6:=h_ hB6;have HN6:=h_ hN6;have HW6:=h_ hw6;have HS4:=h_ HB4.size;have HLt:=h_ HE4.lt;clear hO5 hE5 hR5 hM6 hE6 hO6 hR6 hB6 hN6 hw6 hG hM5 hrc TK1 HM4 HE4 HR4 HB4 HW4;go_wp2_with fail;rw [<- HW6.o];refine (zgW m _ l B.2.1 B.2.2 w6 HM6.o).mono ?_;rintro e w7 ⟨rfl,hb⟩;clear z5 z6;have HB7:=bT HB6 hb;have HR7:=h_ (HR6.later hb);have HE7:=h_ (HE6.later hb);have HB67:=h_ hb;have HT7:=h_ (show entRE cs kind l=toldM l B.2.1 B.2.2 from by rw [HE.o,HQ.2.2];rfl);obtain ⟨c0,c1,c2'⟩:=HR7.cells;have f0:=HR7.free 0;have f1:=HR7.free 1;have f2:=HR7.free 2;obtain ⟨b0,b1,b2⟩:=HE7.cells;obtain ⟨y,hy⟩:=nm_ (toldM l B.2.1 B.2.2);rw [<- hy] at HT7 ⊢;clear hb HM6 HE6 HR6 HW6;by_cases hy0:y=0
    ·subst hy0;have hx:B.2.2=0:=by
      apply Decidable.of_not_not;intro h9;unfold toldM at hy;rw [if_neg h9] at hy;exact h9 hy.symm
     obtain ⟨ps,p1,p2,p3⟩:=HN6.o hx;have HN:=h_ (p1.later HB67.o l_);have HPs:=h_ p2;have HP3:=h_ p3;clear hx p1 p2 p3 hy HN6;go_wp2;obtain ⟨w9,hw9⟩:=nm_ (((w7.setCell ⟨cb,0,none⟩ (.int .i64 (2 - kind))).setCell ⟨cb,1,none⟩ (.int .i64 (n:Int))).setCell ⟨cb,2,none⟩ (.slice a2 n2 c2));rw [<- hw9];obtain ⟨e0,e1,e2⟩:=(show Ebox w9 cb (2 - kind) (n:Int) (.slice a2 n2 c2) from by rw [hw9];exact HR7.reset (2 - kind) (n:Int) _).cells;have HO9:Only (fun j=>j=cb) w7 w9:=(by rw [hw9];exact (((Only.refl (fun j=>j=cb) w7).setCell (p:=⟨cb,0,none⟩) rfl _).setCell (p:=⟨cb,1,none⟩) rfl _).setCell (p:=⟨cb,2,none⟩) rfl _);have HB9:Below w.heap.size w w9:=HB7.trans (HO9.toBelow (fun j hj=>by have:=HCB.o;omega) HB7.size);refine bodyPost_ret (by simp [results,results105,go_sem,e0,e1,e2];try rfl) rfl ?_;refine ⟨HB9,a2,n2,c2,ps,?_,(HN.only HO9 (fun q hq=>by have:=HI.o;have:=HR7.lt;have:=HS4.o;have:=HCB.o;have:=HLt.o;omega)).lower (by have:=HS4.o;omega),HPs.o,?_⟩
     ·rw [HV.o HT7.o,HT7.o,HQ.1];subst hkd2;rfl
     rw [HV.o HT7.o,HP3.o,HQ.2.1]
    have q:((y:Int) != 0)=true:=(by rw [bne_iff_ne];omega);have HY:=h_ hy0;clear hy hy0 HN6;go_wp2;obtain ⟨w9,hw9⟩:=nm_ (((w7.setCell ⟨cb,0,none⟩ (.int .i64 0)).setCell ⟨cb,1,none⟩ (.int .i64 0)).setCell ⟨cb,2,none⟩ (.slice none 0 0));rw [<- hw9];obtain ⟨e0,e1,e2⟩:=(show Ebox w9 cb 0 0 (.slice none 0 0) from by rw [hw9];exact HR7.reset 0 0 _).cells;have HO9:Only (fun j=>j=cb) w7 w9:=(by rw [hw9];exact (((Only.refl (fun j=>j=cb) w7).setCell (p:=⟨cb,0,none⟩) rfl _).setCell (p:=⟨cb,1,none⟩) rfl _).setCell (p:=⟨cb,2,none⟩) rfl _);have HB9:Below w.heap.size w w9:=HB7.trans (HO9.toBelow (fun j hj=>by have:=HCB.o;omega) HB7.size);refine bodyPost_ret (by simp [results,results105,go_sem,e0,e1,e2];try rfl) rfl ?_;exact RdEO.no HT7.o HY.o HB9
   obtain ⟨q1,q2⟩:=HNo.o hx;have q:((x1:Int) == 0)=false:=(by rw [beq_eq_false_iff_ne];omega);have HX:=h_ hx;have HT7:=h_ (show entRE cs kind l=x1 from by rw [HE.o,q2];unfold told;rw [if_neg hx]);have HD:=h_ (zgW m _ l k1 x1 w4 HM4.o);have hty:toldM l k1 x1=x1:=(by unfold toldM;rw [if_neg hx]);rw [hty] at HD;clear q1 q2 HNo HOk TK hx hty;go_wp2_with fail;rw [<- HW4.o];refine HD.mono ?_;clear z4 z5 z6;rintro e w7 ⟨rfl,hb⟩;have HB7:=bT HB4 hb;have HR7:=h_ (HR4.later hb);obtain ⟨c0,c1,c2'⟩:=HR7.cells;have f0:=HR7.free 0;have f1:=HR7.free 1;have f2:=HR7.free 2;have q9:((x1:Int) != 0)=true:=(by rw [bne_iff_ne];have:=HX.o;omega);clear hb HM4 HE4 HR4 HW4 HD;go_wp2;obtain ⟨w9,hw9⟩:=nm_ (((w7.setCell ⟨cb,0,none⟩ (.int .i64 0)).setCell ⟨cb,1,none⟩ (.int .i64 0)).setCell ⟨cb,2,none⟩ (.slice none 0 0));rw [<- hw9];obtain ⟨e0,e1,e2⟩:=(show Ebox w9 cb 0 0 (.slice none 0 0) from by rw [hw9];exact HR7.reset 0 0 _).cells;have HO9:Only (fun j=>j=cb) w7 w9:=(by rw [hw9];exact (((Only.refl (fun j=>j=cb) w7).setCell (p:=⟨cb,0,none⟩) rfl _).setCell (p:=⟨cb,1,none⟩) rfl _).setCell (p:=⟨cb,2,none⟩) rfl _);have HB9:Below w.heap.size w w9:=HB7.trans (HO9.toBelow (fun j hj=>by have:=HCB.o;omega) HB7.size);refine bodyPost_ret (by simp [results,results105,go_sem,e0,e1,e2];try rfl) rfl ?_;exact RdEO.no HT7.o HX.o HB9
 rw [if_pos hE0] at hE;have HE:=h_ hE;have HE0:=h_ hE0;have q:((E:Int) != 0)=true:=by rw [bne_iff_ne];omega
 clear hE hV hk hE0;go_enter func105,ntmps105;go_wp2_with fail;rw [<- HW0.o,<- HCB.o];refine SC.mono ?_;rintro e w1 ⟨rfl,hb⟩;have HB1:=bT HB0 hb;have HR1:=h_ (HR0.later hb);obtain ⟨c0,c1,c2⟩:=HR1.cells;have f0:=HR1.free 0;have f1:=HR1.free 1;have f2:=HR1.free 2;clear hb SC HR0;go_wp2;obtain ⟨w9,hw9⟩:=nm_ (((w1.setCell ⟨cb,0,none⟩ (.int .i64 0)).setCell ⟨cb,1,none⟩ (.int .i64 0)).setCell ⟨cb,2,none⟩ (.slice none 0 0));rw [<- hw9];obtain ⟨e0,e1,e2⟩:=(show Ebox w9 cb 0 0 (.slice none 0 0) from by rw [hw9];exact HR1.reset 0 0 _).cells;have HO9:Only (fun j=>j=cb) w1 w9:=by rw [hw9];exact (((Only.refl (fun j=>j=cb) w1).setCell (p:=⟨cb,0,none⟩) rfl _).setCell (p:=⟨cb,1,none⟩) rfl _).setCell (p:=⟨cb,2,none⟩) rfl _
 have HB9:Below w.heap.size w w9:=HB1.trans (HO9.toBelow (fun j hj=>by have:=HCB.o;omega) HB1.size);refine bodyPost_ret (by simp [results,results105,go_sem,e0,e1,e2];try rfl) rfl ?_;exact RdEO.no HE.o HE0.o HB9
/- -/
theorem CS.snoc {cs:List ColB} (h:CS cs) {s:ByteArray} {kd:Int} (hs:s.size<=140737488351232) (h0:0<=kd) (h1:kd<=255):CS (cs ++ [(s,kd)]):=fun c hc=>by
 rcases List.mem_append.1 hc with hc | hc
 ·exact h c hc
 ·rw [List.mem_singleton.1 hc];exact ⟨hs,by dsimp only;omega,by dsimp only;omega⟩
theorem zAT (m:Nat) (v:Value) (l:Bs) (w:World) (hM:Mdl w m v l 0 0) :
  Calls prog 138 #[.pointer (some ⟨m,0,none⟩)] w fun e w'=>Only (fun j=>j=m) w w'/\∃ k x tv cs,e=.returned tv/\OwnC w' w.heap.size tv cs/\CS cs/\cs.length<=8/\Mdl w' m v l k x/\(rdTake l).2=(k,x)/\(x=0->(rdTake l).1=colsL cs):=by
 have hml:=hM.lt;have hsm:=hM.rd.small;have HV:=h_ (fun i (hi:i < l.length)=>hM.rd.block hi);go_enter func138,ntmps138;go_wp2_with fail;refine (zcF m v l 0 w hM 8 (by omega)).mono ?_;rintro e w1 ⟨rfl,hg1,hM1⟩;obtain ⟨n,hn⟩:=nm_ ((rdU l 0 8).1);obtain ⟨k1,hk1⟩:=nm_ ((rdU l 0 8).2.1);obtain ⟨x1,hx1⟩:=nm_ ((rdU l 0 8).2.2);have hn8:n<=8/\(x1≠0->n=0):=by
  by_cases hx:(rdU l 0 8).2.2=0
  ·obtain ⟨_,h2,h3,_⟩:=zxG (Nat.zero_le _) hx;refine ⟨?_,fun hh=>absurd (hx1.trans hx) hh⟩;rw [hn,h3];dsimp only;omega
  obtain ⟨h2,_,_⟩:=zCM hx;exact ⟨by rw [hn,h2];omega,fun _=>by rw [hn,h2]⟩
 have HT:=h_ (show rdTake l=if x1≠0 then ([],k1,x1) else if n=0 then ([],k1,4) else zaP l n [] k1 by
  unfold rdTake;rw [<- hn,<- hk1,<- hx1])
 rw [<- hk1,<- hx1] at hM1;rw [<- hn];have HO1:=h_ ((Only.refl (fun j=>j=m) w).grown hg1 rfl);have HM1:=h_ hM1;obtain ⟨hn8,hnx⟩:=hn8;have HNX:=h_ hnx;have hwr:wrap64 (n:Int)=(n:Int):=by unfold wrap64;omega
 clear hn hk1 hx1 hg1 hM1 hM hnx;obtain ⟨pb,hpb⟩:=nm_ (decide (0 < n));have hd0:decide ((n:Int) > 0)=pb:=by rw [hpb];congr 1;apply propext;omega
 have hd1:decide (0 < n)=pb:=hpb.symm;have HPB:=h_ hpb;clear hpb;go_wp2_with fail;refine (zbQ m v l k1 x1 w1 HM1.o pb 4).mono ?_;rintro e w2 ⟨rfl,hg2,hM2⟩;obtain ⟨x2,hx2⟩:=nm_ ((if x1=0 then (if pb=true then 0 else 4) else x1));rw [<- hx2] at hM2;have HO2:=h_ (HO1.grown hg2 rfl);have HM2:=h_ hM2
 have HI:=h_ (show (x2=0->rdTake l=zaP l n [] k1)/\(x2≠0->rdTake l=([],k1,x2)) by
  have hT:=HT.o
  have hP:=HPB.o
  by_cases h1:x1=0
  ·rw [if_neg (fun h=>h h1)] at hT
   by_cases h2:n=0
   ·have e:x2=4:=by rw [hx2,if_pos h1,hP,decide_eq_false (by omega)];rfl
    rw [if_pos h2] at hT
    rw [e]
    exact ⟨fun h=>absurd h (by decide),fun _=>hT⟩
   ·have e:x2=0:=by rw [hx2,if_pos h1,hP,decide_eq_true (by omega)];rfl
    rw [if_neg h2] at hT
    rw [e]
    exact ⟨fun _=>hT,fun h=>absurd rfl h⟩
  ·have e:x2=x1:=by rw [hx2,if_neg h1]
   rw [if_pos h1] at hT
   rw [e]
   exact ⟨fun h=>absurd h h1,fun _=>hT⟩)
 have HC0:=h_ (OwnC.nil w2 w.heap.size);have hs2:w.heap.size<=w2.heap.size:=HO2.size;clear hd0 hd1 hx2 hg2 hM2 HT HM1 HO1;go_wp2;go_loopw [4,5] (fun a i wr=>∃ (k x j:Nat) (cs:List ColB),j<=n/\i=.int .i64 j/\Hid (cs.length=j)/\Hid (CS cs)/\Hid (OwnC wr w.heap.size a cs)/\Hid (Mdl wr m v l k x)/\Hid (Only (fun j=>j=m) w wr)/\Hid ((x=0->rdTake l=zaP l (n - j) (colsL cs) k)/\(x≠0->rdTake l=([],k,x)))) (fun _ i _=>n - (intOf i).toNat)
 case atStart=>exact ⟨k1,x2,0,[],by omega,rfl,h_ rfl,h_ (fun c hc=>absurd hc (by simp)),HC0,HM2,HO2,HI⟩
 clear HC0 HM2 HO2 HI hs2;obtain ⟨k,x,j,cs,hj,rfl,HL,HCS,HC,HM,HO,HI⟩:=hrel;have hkl:=HM.le;by_cases hlt:j < n
 ·have d1:decide ((j:Int) < (n:Int))=true:=decide_eq_true (by omega);have d2:decide (j < n)=true:=decide_eq_true hlt;have c2:=HM.cell2;by_cases hx:x=0
  ·subst hx;have HS0:=h_ (HI.1 rfl);have q0:(((0:Nat):Int) == 0)=true:=rfl;go_wp2_with fail;refine (zjN m v l k wr HM.o 32 (by omega)).mono ?_;rintro e w3 ⟨val,⟨rfl,hg3,hM3⟩,hown⟩;have hnl:(rdB l k 32).1.length<=l.length:=by
    by_cases hx:(rdB l k 32).2.2=0
    ·exact (zxS hkl hx).1
    have e:(rdB l k 32).1=[]:=by
     unfold rdB at hx ⊢;by_cases h1:(getB (l.drop k) 32).2.2≠0
     ·rw [if_pos h1]
     rw [if_neg h1] at hx;exact absurd rfl hx
    rw [e];simp
   obtain ⟨nm,hnm⟩:=nm_ ((rdB l k 32).1);obtain ⟨k2,hk2⟩:=nm_ ((rdB l k 32).2.1);obtain ⟨x2,hx2⟩:=nm_ ((rdB l k 32).2.2);rw [<- hnm] at hnl hown;rw [<- hk2,<- hx2] at hM3;have hstr:=(hown.rd (by omega)).str;have hS:RdS ⟨nm.toArray⟩ nm:=⟨rfl,by omega⟩;obtain ⟨s,hs⟩:=nm_ (⟨nm.toArray⟩:ByteArray);rw [<- hs] at hstr hS;have hsd:s.data.toList=nm:=(by rw [hs]);have HSD:=h_ hsd;have HS:=h_ hS;have HNM:=h_ hnm;have HK2:=h_ hk2;have HX2:=h_ hx2;have HO3:=h_ (HO.grown hg3 rfl);have HC3:=h_ (HC.grown hg3 (fun q hq=>by have:=(OwnC.lt HC.o hq).1;simp;omega));have HM3:=h_ hM3;have hrd:=HC3.rd (by rw [HL.o];omega);have hfine:=zt5 s nm _ cs w3 hS hrd;obtain ⟨ff,hff⟩:=nm_ (fine nm (names (colsL cs)));rw [<- hff] at hfine;have HFI:=h_ hfine;have HFF:=h_ hff;clear hg3 hM3 hown hnm hk2 hx2 hs hsd hS hrd hff hfine;go_wp2_with fail;refine HFI.mono ?_;rintro e w4 ⟨rfl,rfl⟩;clear hstr;go_wp2_with fail;refine (zbQ m v l k2 x2 _ HM3.o ff 2).mono ?_;rintro e w4 ⟨rfl,hg4,hM4⟩;obtain ⟨x4,hx4⟩:=nm_ ((if x2=0 then (if ff=true then 0 else 2) else x2));rw [<- hx4] at hM4;have HX4:=h_ hx4;have HO4:=h_ (HO3.grown hg4 rfl);have HC4:=h_ (HC3.grown hg4 (fun q hq=>by have:=(OwnC.lt HC3.o hq).1;simp;omega));have HM4:=h_ hM4;clear hg4 hM4 hx4;go_wp2_with fail;refine (ztB m v l k2 x4 w4 HM4.o).mono ?_;rintro e w5 ⟨rfl,hg5,hM5⟩;obtain ⟨kd,hkd⟩:=nm_ ((if x4=0 then (if k2 < l.length then at8 l k2 else 0) else 0):Int);obtain ⟨k5,hk5⟩:=nm_ ((if x4=0 then (if k2 < l.length then k2 + 1 else k2) else k2));obtain ⟨x5,hx5⟩:=nm_ ((if x4=0 then (if k2 < l.length then 0 else 5) else x4));rw [<- hk5,<- hx5] at hM5;have hkd0:0<=kd/\kd<=255:=by
    rw [hkd];have h1:=zeH l k2;have h2:=zcZ l k2;split
    ·split <;> omega
    omega
   rw [<- hkd];have HKD:=h_ hkd;have HK5:=h_ hk5;have HX5:=h_ hx5;have HO5:=h_ (HO4.grown hg5 rfl);have HC5:=h_ (HC4.grown hg5 (fun q hq=>by have:=(OwnC.lt HC4.o hq).1;simp;omega));have HM5:=h_ hM5;obtain ⟨hkd0,hkd1⟩:=hkd0;obtain ⟨pb,hpb⟩:=nm_ (decide (kd<=5));have hd0:decide (kd<=5)=pb:=hpb.symm;have HPB:=h_ hpb;clear hg5 hM5 hkd hk5 hx5 hpb;go_wp2_with fail;refine (zbQ m v l k5 x5 w5 HM5.o pb 10).mono ?_;rintro e w6 ⟨rfl,hg6,hM6⟩;obtain ⟨x6,hx6⟩:=nm_ ((if x5=0 then (if pb=true then 0 else 10) else x5));rw [<- hx6] at hM6;have HX6:=h_ hx6;have HO6:=h_ (HO5.grown hg6 rfl);have HC6:=h_ (HC5.grown hg6 (fun q hq=>by have:=(OwnC.lt HC5.o hq).1;simp;omega));have HM6:=h_ hM6;have hs6:=HO6.size;clear hg6 hM6 hx6 hd0;have HO7:=h_ (HO6.alloc (.cells #[.string s,.int .i64 kd] 79));have HC7:=h_ (HC6.alloc (.cells #[.string s,.int .i64 kd] 79));have HM7:=h_ (HM6.later ((Below.refl _ _).alloc l_ (.cells #[.string s,.int .i64 kd] 79)) l_);have hs7:w6.heap.size<=(w6.alloc (.cells #[.string s,.int .i64 kd] 79)).heap.size:=(by simp);have hq7:=fun q hq=>OwnC.lt HC7.o (k:=q) hq;go_wp2_with (with_reducible refine ziU w.heap.size _ ?hs HC7.o ⟨w6.heap.size,0,none⟩ (s,kd) ?hx (zy9 w6 (s,kd)) ?hn ?hbase w.heap.size _ (Below.refl w.heap.size _) l_ ?_)
   case hs=>rfl
   case hx=>rfl
   case hn=>rw [HL.o];omega
   case hbase=>omega
   intro v8 w8 hC8 hb8 hg8;have HO8:=h_ (HO7.far hg8 (fun q hq=>by have:=(hq7 q hq).1;omega));have HM8:=h_ (HM7.same (hb8.block m (by omega)) (fun i hi=>hb8.block _ (HV.o i hi)));have HC8:=h_ hC8;have HL8:=h_ (show (cs ++ [(s,kd)]).length=j + 1 from by rw [List.length_append,HL.o];rfl);have hss:s.size<=140737488351232:=by
    have h1:=HS.small;have e:s.size=nm.length:=(by rw [HS.eq];simp [ByteArray.size]);omega
   have HCS8:=h_ (HCS.snoc (s:=s) (kd:=kd) hss hkd0 hkd1);clear hss
   have HI8:=h_ (show (x6=0->rdTake l=zaP l (n - (j + 1)) (colsL (cs ++ [(s,kd)])) k5)/\(x6≠0->rdTake l=([],k5,x6)) from by
    have hcol:colsL (cs ++ [(s,kd)])=colsL cs ++ [(nm,kd)]:=by
     unfold colsL;rw [List.map_append,List.map_singleton];unfold colL;rw [HSD.o]
    rw [hcol,HS0.o,show n - j=(n - (j + 1)) + 1 from by omega]
    by_cases h2:x2=0
    ·have hX:(rdB l k 32).2.2=0:=by rw [<- HX2.o];exact h2
     cases ff with
     | false =>
      have h4:x4=2:=by rw [HX4.o,if_pos h2];rfl
      have h5:x5=2:=by rw [HX5.o,h4];rfl
      have h6:x6=2:=by rw [HX6.o,h5];rfl
      have h7:k5=k2:=by rw [HK5.o,h4];rfl
      refine ⟨fun h=>by omega,fun _=>?_⟩
      rw [h6,h7,HK2.o]
      exact zbH (zgT hX (by rw [<- HNM.o];exact HFF.symm)) (by decide)
     | true =>
      have h4:x4=0:=by rw [HX4.o,if_pos h2];rfl
      have hF:fine (rdB l k 32).1 (names (colsL cs))=true:=by rw [<- HNM.o];exact HFF.symm
      by_cases hk2:k2 < l.length
      ·have h5:x5=0:=by rw [HX5.o,if_pos h4,if_pos hk2]
       have h7:k5=k2 + 1:=by rw [HK5.o,if_pos h4,if_pos hk2]
       have h8:kd=at8 l k2:=by rw [HKD.o,if_pos h4,if_pos hk2]
       by_cases h9:kd<=5
       ·have h6:x6=0:=by rw [HX6.o,if_pos h5,HPB.o,decide_eq_true h9];rfl
        refine ⟨fun _=>?_,fun h=>absurd h6 h⟩
        rw [zjE (ziH hX hF (by rw [<- HK2.o];exact hk2) (by rw [<- HK2.o,<- h8];omega)),<- HNM.o,<- HK2.o,<- h8,h7]
       ·have h6:x6=10:=by rw [HX6.o,if_pos h5,HPB.o,decide_eq_false h9];rfl
        refine ⟨fun h=>by omega,fun _=>?_⟩
        rw [h6,h7,HK2.o]
        exact zbH (zgU hX hF (by rw [<- HK2.o];exact hk2) (by rw [<- HK2.o,<- h8];omega)) (by decide)
      ·have h5:x5=5:=by rw [HX5.o,if_pos h4,if_neg hk2]
       have h6:x6=5:=by rw [HX6.o,h5];rfl
       have h7:k5=k2:=by rw [HK5.o,if_pos h4,if_neg hk2]
       refine ⟨fun h=>by omega,fun _=>?_⟩
       rw [h6,h7,HK2.o]
       exact zbH (zfA hX hF (by rw [<- HK2.o];exact hk2)) (by decide)
    ·have hX:(rdB l k 32).2.2≠0:=by rw [<- HX2.o];exact h2
     have h4:x4=x2:=by rw [HX4.o,if_neg h2]
     have h5:x5=x2:=by rw [HX5.o,h4,if_neg h2]
     have h6:x6=x2:=by rw [HX6.o,h5,if_neg h2]
     have h7:k5=k2:=by rw [HK5.o,h4,if_neg h2]
     refine ⟨fun h=>by omega,fun _=>?_⟩
     rw [h6,h7,HK2.o,HX2.o]
     exact zbH (zfB hX) hX)
   clear hC8 hb8 hg8 hq7;go_wp2;go_roundw
   case rel=>exact ⟨k5,x6,j + 1,cs ++ [(s,kd)],by omega,by go_num,HL8,HCS8,HC8,HM8,HO8,HI8⟩
   simp [intOf];omega
  have q0:((x:Int) == 0)=false:=by rw [beq_eq_false_iff_ne];omega
  have HR:=h_ (HI.2 hx);clear HI;have hl8:cs.length<=8:=by rw [HL.o];omega
  clear hx;go_wp2;go_ret;exact ⟨HO.o,k,x,_,cs,rfl,HC.o,HCS.o,hl8,HM.o,by rw [HR.o],fun h=>by rw [h] at q0;cases q0⟩
 obtain rfl:j=n:=by omega
 have hl8:cs.length<=8:=by rw [HL.o];omega
 have d2:decide (j < j)=false:=decide_eq_false (by omega)
 have HF:=h_ (show (rdTake l).2=(k,x)/\(x=0->(rdTake l).1=colsL cs) from by
  have h1:=HI.o
  rw [Nat.sub_self] at h1
  by_cases hx:x=0
  ·have h2:=h1.1 hx
   rw [zaP] at h2
   rw [h2,hx];exact ⟨rfl,fun _=>rfl⟩
  ·rw [h1.2 hx];exact ⟨rfl,fun h=>absurd h hx⟩)
 clear hlt HI;go_wp2;go_ret;exact ⟨HO.o,k,x,_,cs,rfl,HC.o,HCS.o,hl8,HM.o,HF.1,HF.2⟩
theorem zuT (v:Value) (l:Bs) (w:World) (h:Rd w v l) :
  Calls prog 103 #[v] w (RdO w l):=by
 obtain ⟨ao,cap,hv,_⟩:=id h.shape;subst hv;obtain ⟨N0,N1,N2⟩:=new1 w (.cells #[.slice ao l.length cap,.int .i64 0,.int .i64 0] 226);obtain ⟨w0,hw0⟩:=nm_ (w.alloc (.cells #[.slice ao l.length cap,.int .i64 0,.int .i64 0] 226));rw [<- hw0] at N0 N1 N2;have HW0:=h_ hw0;have HB0:=h_ N2;have HM0:=h_ (show Mdl w0 w.heap.size (.slice ao l.length cap) l 0 0 from ⟨N1,Nat.zero_le _,h.later N2 l_,fun i hi=>by have:=h.block hi;omega⟩);clear hw0 N1 N2 h;go_enter func103,ntmps103;go_wp2_with fail;rw [<- HW0.o];refine (zAT w.heap.size _ l w0 HM0.o).mono ?_;rintro e w1 ⟨hO,k,x,tv,cs,rfl,hown,hcs,h8,hM,hrt,hrc⟩;have HB1:=h_ (HB0.trans (hO.toBelow (fun j hj=>by omega) (by omega)));have HOW:=h_ (hown.lower (b':=w.heap.size) (by omega));have HRT:=h_ hrt;have HRC:=h_ hrc;have HM:=h_ hM;clear hO hown hrt hrc hM;go_wp2_with fail;refine (zgW w.heap.size _ l k x w1 HM.o).mono ?_;rintro e w2 ⟨rfl,hb⟩;have HB2:=bT HB1 hb;have HO2:=h_ (HOW.later hb l_);obtain ⟨y,hy⟩:=nm_ (toldM l k x);have HRE:=h_ (show readE l=y from by unfold readE;rw [HRT.o,hy];rfl);rw [<- hy];have HY:=h_ hy;clear hb hy;by_cases h0:y=0
 ·have q:((y:Int) != 0)=false:=by rw [h0];rfl
  have HR0:=h_ (show x=0 from by
   have h1:=HY.o
   unfold toldM at h1
   by_cases hx:x=0
   ·exact hx
   ·rw [if_neg hx] at h1;omega)
  have H0:=h_ h0;clear h0;go_wp2;go_ret3;refine ⟨HB2.o,_,cs,by rw [HRT.o,HRE.o,H0.o];rfl,HO2.o,hcs,h8,?_⟩;unfold readC;rw [HRE.o,if_pos H0.o,HRC.o HR0.o]
 have q:((y:Int) != 0)=true:=by rw [bne_iff_ne];omega
 have H0:=h_ h0;clear h0;go_wp2;go_ret3;refine ⟨HB2.o,_,[],by rw [HRT.o,HRE.o];rfl,OwnC.nil _ _,fun c hc=>absurd hc (by simp),by simp,?_⟩;unfold readC;rw [HRE.o,if_neg H0.o];rfl
/- -/
def zfN (w:World) (b:Bs) (e:Ending) (w':World):Prop :=
 Below w.heap.size w w'/\∃ tv xv,e=.returned (.tuple #[tv,xv,.int .i64 ((trD b).2.2.2.1:Nat),.int .i64 ((trD b).2.2.2.2:Nat)])/\(∀ w2,Only (fun j=>j < w.heap.size) w' w2->RdT13 w2 tv (trD b).1 (trD b).2.1)/\CS (trD b).1/\RdG zc9 w' xv ((zcP (trD b).1 (trD b).2.2.1).map cuV)
theorem zfN.no {w w':World} {b:Bs} {x y:Nat} {z:Int} (h:trD b=([],[],[],x,y)) (hz:z=(x:Int)) (hb:Below w.heap.size w w') :
  zfN w b (.returned (.tuple #[.agg #[.slice none 0 0,.slice none 0 0],.slice none 0 0,.int .i64 z,.int .i64 (y:Int)])) w':=by
 subst hz;unfold zfN;rw [h];exact ⟨hb,_,_,rfl,fun w2 _=>⟨_,_,rfl,RdG.nil colE w2,RdZ.nil w2⟩,fun c hc=>absurd hc (by simp),RdG.nil zc9 w'⟩
theorem zuF (v:Value) (b:Bs) (w:World) (h:Rd w v b) :
  Calls prog 80 #[v] w (zfN w b):=by
 have hlen:=h.len;have hsm:=h.small;obtain ⟨s0,N1,N2,N3⟩:=new2 w (.cells #[.slice none 0 0,.slice none 0 0] 27) (.cells #[.slice none 0 0,.slice none 0 0] 27);obtain ⟨w0,hw0⟩:=nm_ ((w.alloc (.cells #[.slice none 0 0,.slice none 0 0] 27)).alloc (.cells #[.slice none 0 0,.slice none 0 0] 27));rw [<- hw0] at s0 N1 N2 N3;obtain ⟨rb,hrb⟩:=nm_ w.heap.size;have HX0:=h_ (show Tbox w0 w.heap.size (.slice none 0 0) (.slice none 0 0)/\Tbox w0 (w.heap.size + 1) (.slice none 0 0) (.slice none 0 0) from ⟨N1,N2⟩);have HB0:=h_ N3;have HS0:=h_ s0;have HW0:=h_ hw0;have HRB:=h_ hrb;have HV:=h_ h;obtain ⟨L,hL⟩:=nm_ b.length;rw [<- hL] at hlen hsm;have HL:=h_ hL;subst hw0;obtain ⟨c0,c1⟩:=HX0.2.cells;obtain ⟨r0,r1⟩:=HX0.1.cells;have f0:=HX0.1.free 0;have f1:=HX0.1.free 1;clear s0 N1 N2 N3 hrb hL;by_cases h4:L < 4
 ·have HD:=h_ (zmR (b:=b) (.inl (by rw [<- HL.o];exact h4)));clear h;go_enter func80,ntmps80;go_wp2;refine bodyPost_ret (by simp [results,results80,go_sem,r0,r1];try rfl) rfl ?_;exact zfN.no HD.o rfl HB0.o
 have hb4:4<=b.length:=by rw [<- HL.o];omega
 obtain ⟨v4,hs4,hd4⟩:=h.upto 4 hb4;have hs4:∀ u,(Instr.slice 22 v none (some (.int .i64 4)) none).run prog u=.ok v4 u:=hs4;have hcv:=(hd4 _ (h.later HB0.o l_)).str;by_cases hmg:b.take 4=magicL
 ·rw [hmg] at hcv;obtain ⟨v1,hs1,hd1⟩:=h.from 4 hb4;have hs1:∀ u,(Instr.slice 22 v (some (.int .i64 4)) none none).run prog u=.ok v1 u:=hs1;have FN:=h_ (zlK v1 (b.drop 4) _ (hd1 _ (h.later HB0.o l_)));obtain ⟨K,p,m,y,hn⟩:∃ K p m y,nxF (b.drop 4)=(K,p,m,y):=⟨_,_,_,_,rfl⟩;rw [hn] at FN;have HN:=h_ hn;have H0:=h_ (show ¬ (b.length < 4∨b.take 4≠magicL) from fun h9=>by rcases h9 with h9 | h9;omega;exact h9 hmg);have hcv:(convert 22 9 v4).run prog ((w.alloc (.cells #[.slice none 0 0,.slice none 0 0] 27)).alloc (.cells #[.slice none 0 0,.slice none 0 0] 27))=.ok (.string ⟨#[68,75,76,49]⟩) _:=hcv;have hq:(!magicL == [68,75,76,49])=false:=by decide
  have d4:decide ((L:Int) < 4)=false:=decide_eq_false (by omega);clear h hd4 hd1 hn hmg;go_enter func80,ntmps80;go_wp2_with fail;refine FN.mono ?_;rintro e w2 ⟨pv,rfl,ho,hb⟩;replace ho:Own w2 _ pv p:=ho;have HX2:=h_ (show Tbox w2 rb (.slice none 0 0) (.slice none 0 0)/\Tbox w2 (rb + 1) (.slice none 0 0) (.slice none 0 0) from by rw [HRB.o];exact ⟨HX0.1.later hb,HX0.2.later hb⟩);have HB2:=bT HB0 hb
  have HW2:=h_ (show Below (w.alloc (.cells #[.slice none 0 0,.slice none 0 0] 27)).heap.size (w.alloc (.cells #[.slice none 0 0,.slice none 0 0] 27)) w2 from
   ((Below.refl _ _).alloc l_ _).trans (hb.mono (by simp)))
  have HS2:=h_ (show rb + 2<=w2.heap.size from by have:=hb.size;have:=HS0.o;have:=HRB.o;omega);have HSW:=h_ (show (w.alloc (.cells #[.slice none 0 0,.slice none 0 0] 27)).heap.size=rb + 1 from by rw [HRB.o];simp);have HP2:=h_ ho;rw [<- HRB.o];clear hb ho FN HX0 HB0 HS0 c0 c1 r0 r1 f0 f1 hcv hq d4 hs4 HW0;obtain ⟨WW,hWW⟩:=nm_ (w.alloc (.cells #[.slice none 0 0,.slice none 0 0] 27));rw [<- hWW] at HW2 HSW;clear hWW;obtain ⟨c0,c1⟩:=HX2.2.cells;obtain ⟨r0,r1⟩:=HX2.1.cells;have f0:=HX2.1.free 0;have f1:=HX2.1.free 1;have f2:=HX2.2.free 0;dsimp only;by_cases hy:y=0
  ·subst hy
   obtain ⟨_,_,hK,hpl⟩:=zfW (b:=b.drop 4) (a:=0) (by rw [List.drop_zero];exact HN.o) (by
    apply Decidable.of_not_not
    intro h9
    have:=zcN (b:=b.drop 4) (by rw [HN.o])
    rw [HN.o] at this
    have hp:=zb8 K p
    have h1:=this.2.1
    have h2:=this.2.2.1
    dsimp only at h1 h2
    omega)
   by_cases hk0:K=0
   ·subst hk0;have SP:=h_ (zuT pv p w2 (HP2.rd (by omega)))
    have HM:=h_ (show 4 + m<=L from by
     rw [HL.o]
     have:=(zcN (b:=b.drop 4) (by rw [HN.o])).2.2.1
     rw [HN.o,List.length_drop] at this
     dsimp only at this;omega)
    clear hpl hK HP2;go_wp2_with fail;refine SP.mono ?_;rintro e w3 ⟨hb,sv,cs,rfl,hC,hCS,hc8,hcl⟩;have HX3:=h_ (And.intro (HX2.1.later hb) (HX2.2.later hb));have HB3:=bT HB2 hb;have HW3:=bT HW2 hb;have HC3:=h_ (show OwnC w3 (rb + 2) sv cs from OwnG.base hC HS2.o);have HS3:=h_ (Nat.le_trans HS2.o hb.size);have HCS:=h_ hCS;have HCL:=h_ (show cs=colsB (readC p) from by rw [<- hcl,zcR]);obtain ⟨E,hE⟩:=nm_ (readE p);rw [<- hE];obtain ⟨ac,nc,cc,rfl⟩:=hC.lit13;clear hb hC hCS hcl SP HX2 HB2 HW2 HS2 c0 c1 r0 r1 f0 f1 f2;obtain ⟨c0,c1⟩:=HX3.2.cells;obtain ⟨r0,r1⟩:=HX3.1.cells;have f0:=HX3.1.free 0;have f1:=HX3.1.free 1;have f2:=HX3.2.free 0;by_cases hE0:E=0
    ·subst hE0;have HD:=h_ (zsQ H0.o HN.o hE.symm);have HER:=h_ (show errS (colsL cs)=0 from by rw [HCL.o,zc1];exact (ziG hE.symm).1);rw [<- HCL.o] at HD;obtain ⟨a0,ha0⟩:=nm_ (4 + m);rw [<- ha0] at HD HM;obtain ⟨T0,hT0⟩:=nm_ (trR cs b b.length a0 0 0 []);rw [<- hT0] at HD;have ha09:a0<=L:=HM.o;have ham:(4:Int) + (m:Int)=(a0:Int):=(by omega);have ham2:4 + m<=140737488351232:=(by have:=HM.o;omega);have HAM:=h_ ham;have HI:=h_ (show Loop13 b cs a0 T0 [] [] b.length a0 0 0 [] from ⟨by rw [hT0],by omega,rfl,rfl,fun p hp=>absurd hp (by simp),⟨by omega,by omega⟩,by omega⟩);have hO3:Only (fun j=>j=rb + 1) w3 (w3.setCell ⟨rb + 1,0,none⟩ (.slice ac nc cc)):=(Only.refl (fun j=>j=rb + 1) _).setCell (p:=⟨rb + 1,0,none⟩) rfl _;obtain ⟨w4,hw4⟩:=nm_ (w3.setCell ⟨rb + 1,0,none⟩ (.slice ac nc cc));rw [<- hw4] at hO3
     have HX4:=h_ (show Tbox w4 rb (.slice none 0 0) (.slice none 0 0)/\Tbox w4 (rb + 1) (.slice ac nc cc) (.slice none 0 0) from ⟨hO3.keep HX3.1 (by omega),by
      have:=block_setCell (k:=0) HX3.2 (.slice ac nc cc)
      rw [hw4];unfold Tbox;simpa using this⟩)
     have HB4:=h_ (HB3.trans (hO3.toBelow (fun j e=>by have:=HRB.o;omega) HB3.size));have HW4:=h_ (HW3.trans (hO3.toBelow (fun j e=>by have:=HSW.o;omega) HW3.size));have HC4:=h_ (HC3.stay hO3 (fun q hq e=>by have:=(World.ownsRow.lt HC3.1 q hq).1;omega));have HS4:=h_ (Nat.le_trans HS3.o hO3.size);have hc9:cs.length<=140737488351232:=(by omega);have SPr:=h_ (zrA (.slice ac nc cc) cs w4 (OwnC.rd HC4.o hc9) HCS.o HER.o);obtain ⟨u,hu⟩:=nm_ (((Crc.sum (wrS (colsL cs)):Nat):Int):Int);rw [<- hu] at SPr;have HU:=h_ hu;have HW4':=h_ hw4;clear hE hT0 hO3 hw4 hu HX3 HB3 HW3 HC3 HS3 ha0 hc8;go_wp2_with fail;rw [<- HW4'.o];refine SPr.mono ?_;rintro e w5 ⟨rfl,hb⟩;have HX5:=h_ (And.intro (HX4.1.later hb) (HX4.2.later hb));have HB5:=bT HB4 hb;have HW5:=bT HW4 hb;have HC5:=h_ (HC4.later hb l_);have HS5:=h_ (Nat.le_trans HS4.o hb.size);clear hb SPr HX4 HB4 HW4 HC4 HS4 c0 c1 r0 r1 f0 f1 f2;have M2:Below w5.heap.size w5 (w5.alloc (.cells #[.int .i64 0,.int .i64 (a0:Int),.int .u32 u] 117)):=(Below.refl _ _).alloc l_ _;have hM0:OwnG zc9 (w5.alloc (.cells #[.int .i64 0,.int .i64 (a0:Int),.int .u32 u] 117)) WW.heap.size (.slice (some ⟨w5.heap.size,0,none⟩) 1 1) ((zcP cs ((0,a0) :: [])).map cuV):=by
      have e:zcP cs [(0,a0)]=[(0,(a0:Int),u)]:=(by rw [HU.o];rfl);rw [e];exact zd7 zc9 w5 WW.heap.size (by have:=HSW.o;have:=HS5.o;omega) [cuV (0,(a0:Int),u)] (by intro x hx;rw [List.mem_singleton.1 hx];rfl) (by intro x hx z hz;rw [List.mem_singleton.1 hx] at hz;simp [cuV] at hz;rcases hz with rfl | rfl | rfl <;> rfl) (by simp)
     have HVR:=h_ (show Vars13 zc9 WW (w5.alloc (.cells #[.int .i64 0,.int .i64 (a0:Int),.int .u32 u] 117)) (rb + 2) rb (rb + 1) (.slice ac nc cc) (.slice none 0 0) (.slice none 0 0) (.slice (some ⟨w5.heap.size,0,none⟩) 1 1) (.slice none 0 0) ((zcP cs ((0,a0) :: [])).map cuV) [] []/\OwnC (w5.alloc (.cells #[.int .i64 0,.int .i64 (a0:Int),.int .u32 u] 117)) (rb + 2) (.slice ac nc cc) cs/\Below w.heap.size w (w5.alloc (.cells #[.int .i64 0,.int .i64 (a0:Int),.int .u32 u] 117)) from
      ⟨⟨HX5.1.later M2,HX5.2.later M2,OwnG.nil zcB _ _,hM0,⟨OffS.nil _ _,by simp⟩,Nat.le_trans HS5.o M2.size,HW5.trans (M2.mono HW5.size)⟩,HC5.later M2 l_,HB5.trans (M2.mono HB5.size)⟩)
     have HAM':=h_ ham2;clear M2 hM0 HX5 HB5 HW5 HC5 HS5;go_wp2
     go_loopw [14,15,16,17] (fun n sq vv x wr=>∃ (a k f:Nat) (es:List EntB) (ms:List (Int × Nat)) (s:Int) (vw:List PairB) (ae:Option Addr) (ne ce:Nat) (ts:List EntV),a<=L/\n=.int .i64 a/\sq=.int .i64 s/\Hid (Loop13 b cs a0 T0 es ms f a k s vw/\es=ts.map (·.2)) /\
      Hid (Vars13 zc9 WW wr (rb + 2) rb (rb + 1) (.slice ac nc cc) (.slice ae ne ce) (.slice ae ne ce) x vv ((zcP cs ((0,a0) :: ms)).map cuV) vw ts/\OwnC wr (rb + 2) (.slice ac nc cc) cs/\Below w.heap.size w wr)) (fun n _ _ _ _=>L - (intOf n).toNat)
     case atStart=>exact ⟨a0,0,b.length,[],[],0,[],none,0,0,[],HM.o,rfl,rfl,h_ ⟨HI.o,rfl⟩,HVR⟩
     clear HVR HI HM;obtain ⟨a,k,f,es,ms,s,vw,ae,ne,ce,ts,haL,rfl,rfl,HI,HR⟩:=hrel;have hks:=HI.1.len;have hk4:=HI.1.most;have htl:ts.length=k:=(by have:=hks;rw [HI.2,List.length_map] at this;exact this);have hlz:=(HR.1.held.entries HR.1.ownE (by omega)).len;rw [List.length_map,htl] at hlz;obtain ⟨c0,c1⟩:=HR.1.tb.cells;have HTL:=h_ htl;obtain ⟨r0,r1⟩:=HR.1.rb.cells;have f0:=HR.1.rb.free 0;have f1:=HR.1.rb.free 1;clear hks htl;by_cases hlt:a < L
     ·have hab:a < b.length:=(by rw [<- HL.o];exact hlt);by_cases hlim:4096<=k
      ·have HT9:=h_ (show trD b=([],[],[],a,13) from by rw [HD.o,HI.1.run];exact zhF (zoF hab HI.1.fuel hlim) (by decide));clear hab;go_wp2;obtain ⟨w9,hw9⟩:=nm_ ((wr.setCell ⟨rb,0,none⟩ (.slice none 0 0)).setCell ⟨rb,1,none⟩ (.slice none 0 0));rw [<- hw9];obtain ⟨e0,e1⟩:=(show Tbox w9 rb (.slice none 0 0) (.slice none 0 0) from by rw [hw9];exact HR.1.rb.both _ _).cells;have HB9:Below w.heap.size w w9:=(by rw [hw9];exact (HR.2.2.setCell (p:=⟨rb,0,none⟩) (by rw [<- HRB.o];exact l_) _).setCell (p:=⟨rb,1,none⟩) (by rw [<- HRB.o];exact l_) _);refine bodyPost_ret (by simp [results,results80,go_sem,e0,e1];try rfl) rfl ?_;exact zfN.no HT9.o rfl HB9
      have hk5:k < 4096:=(by omega);have hd:decide ((k:Int) ≥ 4096)=false:=decide_eq_false (by omega);obtain ⟨v2,hs2,hd2⟩:=HV.from a (by omega);have FN1:=h_ (zlK v2 (b.drop a) wr (hd2 wr (HV.later HR.2.2 l_)));obtain ⟨K,p,mm,y,hn⟩:∃ K p m y,nxF (b.drop a)=(K,p,m,y):=⟨_,_,_,_,rfl⟩;rw [hn] at FN1;have HNN:=h_ hn;have HAB:=h_ (And.intro hab hk5);clear hd2 hlim hab hn;go_wp2_with fail;refine FN1.mono ?_;rintro e w5 ⟨qv,rfl,ho,hb5⟩;replace ho:Own w5 wr.heap.size qv p:=ho;have HR5:=h_ (And.intro (HR.1.later hb5) (And.intro (HR.2.1.later hb5 l_) (HR.2.2.trans (hb5.mono HR.2.2.size))));have HP5:=h_ ho;have HS5:=h_ hb5.size;clear FN1 hb5 ho c0 c1 r0 r1 f0 f1 hd hk5;dsimp only;by_cases hy:y=0
      ·subst hy;obtain ⟨hfa,hfm,hK2,hpl⟩:=zfW HNN.o HAB.1;rw [<- HL.o] at hfa;have RE1:=h_ (zuS (.slice ac nc cc) qv cs (K:Int) p w5 (OwnC.rd HR5.2.1 hc9) (HP5.rd (by omega)) HCS.o ⟨by omega,by omega⟩);clear HP5 hK2;go_wp2_with fail;refine RE1.mono ?_;rintro e w6 ⟨hb6,ap,np,cp,ps,rfl,hNP,hPO,hpL⟩;have HX:=h_ (zz4 hPO hpL);obtain ⟨E,hE⟩:=nm_ (entRE cs (K:Int) p);rw [<- hE];have HE:=h_ hE;generalize entRV cs (K:Int) p=V at *;obtain ⟨kd,s2,tl⟩:=V;dsimp only at HX;dsimp only;have hNQ:=hNP.heldQ (Nat.le_trans HR.1.top HS5.o) HR5.1.lts.1 HR5.1.lts.2;have HR6:=h_ (And.intro (HR5.1.later hb6) (And.intro (HR5.2.1.later hb6 l_) (HR5.2.2.trans (hb6.mono HR5.2.2.size))));obtain ⟨M1,M2⟩:=za7 w6 (.cells #[.int .i64 kd,.int .i64 s2,.slice ap np cp] 92);have HR7:=h_ (And.intro (HR6.1.later M2) (And.intro (HR6.2.1.later M2 l_) (HR6.2.2.trans (M2.mono HR6.2.2.size))));have HQ7:=h_ (hNQ.later M2);have HE7:=h_ (show Ebox _ w6.heap.size kd s2 (.slice ap np cp) from M1);clear RE1 hb6 hNP hPO hpL hE hNQ M1 M2 HR5 HR6;by_cases hE0:E=0
       ·subst hE0;have hre:entRE cs (K:Int) p=0:=HE.symm;have hXO:EnO ((kd,s2,ps):EntB):=(by rw [<- HX.o];exact (zgB hpl hre).1);have TK:=h_ (zoW (.slice ac nc cc) u16 (.agg #[.int .i64 kd,.int .i64 s2,.slice ap np cp]) cs s vw (kd,s2,ps) _ (OwnC.rd HR7.2.1 hc9) HR7.1.held.1.rd ⟨_,rfl,HQ7.rd⟩ HCS.o HI.1.pso hXO HI.1.inw);obtain ⟨x0,x1,x2⟩:=HE7.cells;have HRE:=h_ hre;clear hXO hre hpl;go_wp2_with fail;refine TK.mono ?_;rintro e w8 ⟨vn,rfl,hvr,hvq,hb8⟩;have HR8:=h_ (And.intro (HR7.1.later hb8) (And.intro (HR7.2.1.later hb8 l_) (HR7.2.2.trans (hb8.mono HR7.2.2.size))));have HE8:=h_ (HE7.later hb8);have HQ8:=h_ (HQ7.later hb8);have hvo:OffS w8 vn (apV cs s vw (kd,s2,ps)) (zh8 (rb + 2) (.slice ae ne ce) u17):=by
         rcases hvq with ⟨e1,e2⟩ | hvn
         ·rw [e1,e2];exact HR8.1.held.1
         exact hvn.heldQ HR7.1.top HR7.1.lts.1 HR7.1.lts.2
        obtain ⟨E,hEd⟩:=nm_ (apE cs s vw (kd,s2,ps));obtain ⟨s',hs'⟩:=nm_ (apN cs s vw (kd,s2,ps));obtain ⟨V,hV⟩:=nm_ (apV cs s vw (kd,s2,ps));rw [<- hV] at hvo;rw [<- hEd,<- hs'];clear hvr hvq hb8 TK x0 x1 x2 HR7 HE7 HQ7;by_cases hE0:E=0
        ·subst hE0;obtain ⟨f',hI'⟩:=HI.1.next HAB.1 HAB.2 HNN.o HRE.o (by rw [HX.o];exact hEd.symm);rw [HX.o,<- hs',<- hV] at hI';have HI':=h_ hI';have HV8:=h_ (HR8.1.seen hvo);obtain ⟨c0,c1⟩:=HV8.tb.cells;obtain ⟨x0,x1,x2⟩:=HE8.cells;have hamm:(a:Int) + (mm:Int)<=140737488351232:=(by omega);obtain ⟨M1,M2⟩:=za7 w8 (.cells #[.int .i64 kd,.int .i64 s2,.slice ap np cp] 92);have HV9:=h_ (And.intro (HV8.later M2) (And.intro (HR8.2.1.later M2 l_) (HR8.2.2.trans (M2.mono HR8.2.2.size))));have HQ9:=h_ (HQ8.later M2);have hoE:=HV9.1.ownE;have hb9:=HV9.1.below;clear hEd hI' hs' hV hvo HR8 HV8 HQ8 HE8;go_wp2_with (with_reducible refine zhB WW.heap.size _ ?hs hoE w8.heap.size (.slice ap np cp) (kd,s2,ps) ?hx M1 HQ9.o.rd ?hn ?hbase WW.heap.size WW hb9 l_ ?_)
         case hs=>rfl
         case hx=>rfl
         case hn=>have:=HTL.o;omega
         case hbase=>exact hb9.size
         intro v10 w10 o10 b10 g10 p10;obtain ⟨ag,ng,cg,rfl⟩:=o10.lit13;have HV10:=h_ (And.intro (HV9.1.pushE (by decide) HQ9.o o10 b10 g10 p10) (OwnG.beside HV9.2.1 HV9.1.ownE (by decide) g10));have HBB:=h_ (show Below w.heap.size w w10 from HV9.2.2.grown g10 HV9.2.2.size (fun q hq=>by have:=(World.ownsRow.lt HV9.1.ownE.1 q hq).1;have:=HSW.o;have:=HRB.o;omega));obtain ⟨d0,d1⟩:=HV10.1.tb.cells;have f1:=HV10.1.tb.free 1;have hO:Only (fun j=>j=rb + 1) w10 (w10.setCell ⟨rb + 1,1,none⟩ (.slice ag ng cg)):=(Only.refl (fun j=>j=rb + 1) _).setCell (p:=⟨rb + 1,1,none⟩) rfl _;obtain ⟨w11,hw11⟩:=nm_ (w10.setCell ⟨rb + 1,1,none⟩ (.slice ag ng cg))
         have HV11:=h_ (show Vars13 zc9 WW w11 (rb + 2) rb (rb + 1) (.slice ac nc cc) (.slice ag ng cg) (.slice ag ng cg) u17 vn ((zcP cs ((0,a0) :: ms)).map cuV) V (ts ++ [(.slice ap np cp,(kd,s2,ps))])/\OwnC w11 (rb + 2) (.slice ac nc cc) cs/\Below w.heap.size w w11 from by
          rw [hw11]
          exact ⟨HV10.1.store (by decide) (by omega) (by rw [HSW.o];exact l_) (by omega) _,OwnG.stay HV10.2 hO (fun q hq e=>by have:=(World.ownsRow.lt HV10.2.1 q hq).1;omega),HBB.trans (hO.toBelow (fun j e=>by have:=HRB.o;omega) HBB.size)⟩)
         have HW11:=h_ hw11;obtain ⟨bc,oc,hic,k0,k1,k2⟩:=zFK (HV11.1.ownX.rd (by have h1:=congrArg List.length HI.1.marks;have h2:=HI.1.len;simp [zcP] at h1 ⊢;omega)) (i:=0) (by simp [zcP]);have hic:∀ u,(Instr.indexAt 112 u17 (.int .i64 0)).run prog u=.ok (.pointer (some ⟨bc,oc,none⟩)) u:=hic;have k2:w11.cell? ⟨bc,oc + 2,none⟩=some (.int .u32 u):=(by rw [HU.o];exact k2);have K2:=h_ k2;have HLN:=h_ (show ((zcP cs ((0,a0) :: ms)).length + 1) * 24<=140737488355328 from by have h1:=congrArg List.length HI.1.marks;have h2:=HI.1.len;simp [zcP] at h1 ⊢;omega);clear o10 b10 g10 p10 hoE hb9 HV9 HQ9 HV10 HBB M1 M2 c0 c1 x0 x1 x2 hO k0 k1 d0 hw11;rw [HW11.o] at k2;obtain ⟨M3,M4⟩:=za7 w11 (.cells #[.int .i64 s',.int .i64 ((a:Int) + (mm:Int)),.int .u32 u] 117);have HV12:=h_ (And.intro (HV11.1.later M4) (And.intro (HV11.2.1.later M4 l_) (HV11.2.2.trans (M4.mono HV11.2.2.size))));have hoX:=HV12.1.ownX;have hb12:=HV12.1.below;rw [HW11.o] at M3 hoX hb12;rw [show (w10.setCell ⟨rb + 1,1,none⟩ (.slice ag ng cg)).heap.size=w10.heap.size from by simp [World.setCell]] at M3;clear M4;go_wp2_with (with_reducible refine zqT WW.heap.size _ ?hs1 hoX w10.heap.size (s',(a:Int) + (mm:Int),u) ?hx1 M3 HLN.o ?hbase1 WW.heap.size WW hb12 l_ ?_)
         case hs1=>rfl
         case hx1=>rfl
         case hbase1=>exact hb12.size
         intro v12 w12 o12 b12 g12 p12;rw [<- HW11.o] at g12 p12
         have HV13:=h_ (show Vars13 zc9 WW w12 (rb + 2) rb (rb + 1) (.slice ac nc cc) (.slice ag ng cg) (.slice ag ng cg) v12 vn ((zcP cs ((0,a0) :: (ms ++ [(s',a + mm)]))).map cuV) V (ts ++ [(.slice ap np cp,(kd,s2,ps))])/\OwnC w12 (rb + 2) (.slice ac nc cc) cs/\Below w.heap.size w w12 from
          ⟨HV12.1.pushX (by decide) (by decide) (by
           have e:zcP cs ((0,a0) :: (ms ++ [(s',a + mm)]))=zcP cs ((0,a0) :: ms) ++ [(s',(a:Int) + (mm:Int),u)]:=by rw [HU.o];simp [zcP]
           rw [e];exact o12) b12 g12 p12,OwnG.beside HV12.2.1 HV12.1.ownX (by decide) g12,
           HV12.2.2.grown g12 HV12.2.2.size (fun q hq=>by have:=(World.ownsRow.lt HV12.1.ownX.1 q hq).1;have:=HSW.o;have:=HRB.o;omega)⟩)
         clear o12 b12 g12 p12 hoX hb12 HV12 HV11 M3 k2 f1 d1;go_wp2;go_roundw
         case rel=>exact ⟨a + mm,k + 1,f',es ++ [(kd,s2,ps)],ms ++ [(s',a + mm)],s',V,ag,ng,cg,ts ++ [(.slice ap np cp,(kd,s2,ps))],hfa,by go_num,by go_num,h_ ⟨HI'.o,by rw [List.map_append,<- HI.2];rfl⟩,HV13⟩
         simp [intOf];omega
        have HT9:=h_ (show trD b=([],[],[],a,E) from by rw [HD.o,HI.1.run];exact zhF (zoI HAB.1 HI.1.fuel HAB.2 HNN.o HRE.o (by rw [HX.o];exact hEd) hE0) hE0);have q2:((E:Int) != 0)=true:=(by rw [bne_iff_ne];omega);obtain ⟨r0,r1⟩:=HR8.1.rb.cells;have f0:=HR8.1.rb.free 0;have f1:=HR8.1.rb.free 1;clear hEd hE0 hvo;go_wp2;obtain ⟨w9,hw9⟩:=nm_ ((w8.setCell ⟨rb,0,none⟩ (.slice none 0 0)).setCell ⟨rb,1,none⟩ (.slice none 0 0));rw [<- hw9];obtain ⟨e0,e1⟩:=(show Tbox w9 rb (.slice none 0 0) (.slice none 0 0) from by rw [hw9];exact HR8.1.rb.both _ _).cells;have HB9:Below w.heap.size w w9:=(by rw [hw9];exact (HR8.2.2.setCell (p:=⟨rb,0,none⟩) (by rw [<- HRB.o];exact l_) _).setCell (p:=⟨rb,1,none⟩) (by rw [<- HRB.o];exact l_) _);refine bodyPost_ret (by simp [results,results80,go_sem,e0,e1];try rfl) rfl ?_;exact zfN.no HT9.o rfl HB9
       have HT9:=h_ (show trD b=([],[],[],a,E) from by rw [HD.o,HI.1.run];exact zhF (zoH HAB.1 HI.1.fuel HAB.2 HNN.o HE.o hE0) hE0);have q2:((E:Int) != 0)=true:=(by rw [bne_iff_ne];omega);obtain ⟨r0,r1⟩:=HR7.1.rb.cells;have f0:=HR7.1.rb.free 0;have f1:=HR7.1.rb.free 1;clear hE0 hpl;go_wp2;obtain ⟨w9,hw9⟩:=nm_ (((w6.alloc (.cells #[.int .i64 kd,.int .i64 s2,.slice ap np cp] 92)).setCell ⟨rb,0,none⟩ (.slice none 0 0)).setCell ⟨rb,1,none⟩ (.slice none 0 0));rw [<- hw9];obtain ⟨e0,e1⟩:=(show Tbox w9 rb (.slice none 0 0) (.slice none 0 0) from by rw [hw9];exact HR7.1.rb.both _ _).cells;have HB9:Below w.heap.size w w9:=(by rw [hw9];exact (HR7.2.2.setCell (p:=⟨rb,0,none⟩) (by rw [<- HRB.o];exact l_) _).setCell (p:=⟨rb,1,none⟩) (by rw [<- HRB.o];exact l_) _);refine bodyPost_ret (by simp [results,results80,go_sem,e0,e1];try rfl) rfl ?_;exact zfN.no HT9.o rfl HB9
      have HT9:=h_ (show trD b=([],[],[],a,y) from by rw [HD.o,HI.1.run];exact zhF (zoG HAB.1 HI.1.fuel HAB.2 HNN.o hy) hy);have q2:((y:Int) != 0)=true:=(by rw [bne_iff_ne];omega);obtain ⟨r0,r1⟩:=HR5.1.rb.cells;have f0:=HR5.1.rb.free 0;have f1:=HR5.1.rb.free 1;clear hy HP5;go_wp2;obtain ⟨w9,hw9⟩:=nm_ ((w5.setCell ⟨rb,0,none⟩ (.slice none 0 0)).setCell ⟨rb,1,none⟩ (.slice none 0 0));rw [<- hw9];obtain ⟨e0,e1⟩:=(show Tbox w9 rb (.slice none 0 0) (.slice none 0 0) from by rw [hw9];exact HR5.1.rb.both _ _).cells;have HB9:Below w.heap.size w w9:=(by rw [hw9];exact (HR5.2.2.setCell (p:=⟨rb,0,none⟩) (by rw [<- HRB.o];exact l_) _).setCell (p:=⟨rb,1,none⟩) (by rw [<- HRB.o];exact l_) _);refine bodyPost_ret (by simp [results,results80,go_sem,e0,e1];try rfl) rfl ?_;exact zfN.no HT9.o rfl HB9
     obtain rfl:a=L:=(by omega);have HT9:=h_ (show trD b=(cs,es,(0,a0) :: ms,a,0) from by rw [HD.o,HI.1.run];exact zwJ (zwL (by have:=HL.o;omega)));clear hlt;go_wp2;obtain ⟨w9,hw9⟩:=nm_ ((wr.setCell ⟨rb,0,none⟩ (.slice ac nc cc)).setCell ⟨rb,1,none⟩ (.slice ae ne ce));rw [<- hw9];obtain ⟨k1,k2,k3,k4⟩:=HR.1.answer (by decide) (by omega) (.slice ac nc cc) (.slice ae ne ce);rw [<- hw9] at k1 k2 k3 k4;obtain ⟨e0,e1⟩:=k4.cells;have HB9:Below w.heap.size w w9:=(by rw [hw9];exact (HR.2.2.setCell (p:=⟨rb,0,none⟩) (by rw [<- HRB.o];exact l_) _).setCell (p:=⟨rb,1,none⟩) (by rw [<- HRB.o];exact l_) _);have hO9:Only (fun j=>j=rb) wr w9:=(by rw [hw9];exact ((Only.refl (fun j=>j=rb) _).setCell (p:=⟨rb,0,none⟩) rfl _).setCell (p:=⟨rb,1,none⟩) rfl _);refine bodyPost_ret (by simp [results,results80,go_sem,e0,e1];try rfl) rfl ?_;unfold zfN;rw [HT9.o];refine ⟨HB9,_,_,rfl,fun w2 hO2=>⟨_,_,rfl,OwnC.rd ((OwnG.stay HR.2.1 hO9 (fun q hq e=>?_)).stay hO2 (fun q hq e=>?_)) hc9,?_⟩,HCS.o,?_⟩
     ·have:=(World.ownsRow.lt HR.2.1.1 q hq).1;omega
     ·have:=(World.ownsRow.lt HR.2.1.1 q hq).1;have:=HRB.o;omega
     ·have h2:=HRB.o;have h3:=(k3.only hO2 (fun j e=>.inl (by omega))).entries (k1.stay hO2 (fun q hq e=>by have:=(World.ownsRow.lt k1.1 q hq).1;have:=HSW.o;omega)) (by have:=HTL.o;omega);rw [HI.2];exact h3
     exact k2.rd (by have h1:=congrArg List.length HI.1.marks;have h2:=HI.1.len;simp [zcP] at h1 ⊢;omega)
    have HD:=h_ (show trD b=([],[],[],4,E) from by rw [hE];exact zlD H0.o HN.o (by rw [<- hE];exact hE0));have q:((E:Int) != 0)=true:=(by rw [bne_iff_ne];omega);clear hE hE0;go_wp2;obtain ⟨w9,hw9⟩:=nm_ ((w3.setCell ⟨rb,0,none⟩ (.slice none 0 0)).setCell ⟨rb,1,none⟩ (.slice none 0 0));rw [<- hw9];obtain ⟨e0,e1⟩:=(show Tbox w9 rb (.slice none 0 0) (.slice none 0 0) from by rw [hw9];exact HX3.1.both _ _).cells;have HB9:Below w.heap.size w w9:=(by rw [hw9];exact (HB3.setCell (p:=⟨rb,0,none⟩) (by rw [<- HRB.o];exact l_) _).setCell (p:=⟨rb,1,none⟩) (by rw [<- HRB.o];exact l_) _);refine bodyPost_ret (by simp [results,results80,go_sem,e0,e1];try rfl) rfl ?_;exact zfN.no HD.o rfl HB9
   have HD:=h_ (zsR H0.o HN.o hk0);have q:((K:Int) != 0)=true:=(by rw [bne_iff_ne];omega);clear hk0 hpl hK HP2;go_wp2;obtain ⟨w9,hw9⟩:=nm_ ((w2.setCell ⟨rb,0,none⟩ (.slice none 0 0)).setCell ⟨rb,1,none⟩ (.slice none 0 0));rw [<- hw9];obtain ⟨e0,e1⟩:=(show Tbox w9 rb (.slice none 0 0) (.slice none 0 0) from by rw [hw9];exact HX2.1.both _ _).cells;have HB9:Below w.heap.size w w9:=(by rw [hw9];exact (HB2.setCell (p:=⟨rb,0,none⟩) (by rw [<- HRB.o];exact l_) _).setCell (p:=⟨rb,1,none⟩) (by rw [<- HRB.o];exact l_) _);refine bodyPost_ret (by simp [results,results80,go_sem,e0,e1];try rfl) rfl ?_;exact zfN.no HD.o rfl HB9
  have HD:=h_ (zoK H0.o HN.o hy);have q:((y:Int) != 0)=true:=by rw [bne_iff_ne];omega
  have q1:((y:Int) == 0)=false:=by rw [beq_eq_false_iff_ne];omega
  clear hy HP2;go_wp2;obtain ⟨w9,hw9⟩:=nm_ ((w2.setCell ⟨rb,0,none⟩ (.slice none 0 0)).setCell ⟨rb,1,none⟩ (.slice none 0 0));rw [<- hw9];obtain ⟨e0,e1⟩:=(show Tbox w9 rb (.slice none 0 0) (.slice none 0 0) from by rw [hw9];exact HX2.1.both _ _).cells;have HB9:Below w.heap.size w w9:=by rw [hw9];exact (HB2.setCell (p:=⟨rb,0,none⟩) (by rw [<- HRB.o];exact l_) _).setCell (p:=⟨rb,1,none⟩) (by rw [<- HRB.o];exact l_) _
  refine bodyPost_ret (by simp [results,results80,go_sem,e0,e1];try rfl) rfl ?_;exact zfN.no HD.o rfl HB9
 have HD:=h_ (zmR (b:=b) (.inr hmg));have hq:(!b.take 4 == [68,75,76,49])=true:=by simp;exact hmg
 have d4:decide ((L:Int) < 4)=false:=decide_eq_false (by omega);clear h hd4 hmg;go_enter func80,ntmps80;go_wp2;refine bodyPost_ret (by simp [results,results80,go_sem,r0,r1];try rfl) rfl ?_;exact zfN.no HD.o rfl HB0.o
theorem zg4 (v:Value) (b:Bs) (w:World) (h:Rd w v b) :
  Calls prog 45 #[v] w (znW w b):=by
 obtain ⟨N1,N2⟩:=za7 w (.cells #[.slice none 0 0,.slice none 0 0] 27);obtain ⟨w0,hw0⟩:=nm_ (w.alloc (.cells #[.slice none 0 0,.slice none 0 0] 27));rw [<- hw0] at N1 N2;obtain ⟨rb,hrb⟩:=nm_ w.heap.size;rw [<- hrb] at N1;have HR0:=h_ (show Tbox w0 rb (.slice none 0 0) (.slice none 0 0) from N1);have HB0:=h_ N2;have HW0:=h_ hw0;have HRB:=h_ hrb;have RD:=h_ (zuF v b w0 (h.later N2 l_));clear N1 N2 hw0 hrb h;unfold zfN at RD;unfold znW;generalize trD b=D at RD ⊢;obtain ⟨cs,es,ms,p,y⟩:=D;dsimp only at RD ⊢;go_enter func45,ntmps45;go_wp2_with fail;rw [<- HW0.o,<- HRB.o];refine RD.mono ?_;rintro e w1 ⟨hb,tv,xv,rfl,hT,hC,_⟩;obtain ⟨sv,ev,rfl,hR,hZ⟩:=hT w1 (Only.refl _ _);obtain ⟨ae,ne,ce,rfl⟩:=hZ.lit;obtain ⟨ac,nc,cc,rfl⟩:=hR.lit12;have M2:Below w1.heap.size w1 (w1.alloc (.cells #[.slice ac nc cc,.slice ae ne ce] 27)):=(Below.refl _ _).alloc l_ _;have HR2:=h_ ((HR0.later hb).later M2);have HB2:=h_ (HB0.trans ((hb.trans (M2.mono hb.size)).mono HB0.size));have HM2:=h_ M2;have HT:=h_ hT;have HC:=h_ hC;have HLT:=h_ HR0.lt;obtain ⟨r0,r1⟩:=HR2.cells;have f0:=HR2.free 0;have f1:=HR2.free 1;clear hb hR hZ hT hC RD M2 HR0;go_wp2;obtain ⟨w9,hw9⟩:=nm_ (((w1.alloc (.cells #[.slice ac nc cc,.slice ae ne ce] 27)).setCell ⟨rb,0,none⟩ (.slice ac nc cc)).setCell ⟨rb,1,none⟩ (.slice ae ne ce));rw [<- hw9];obtain ⟨e0,e1⟩:=(show Tbox w9 rb (.slice ac nc cc) (.slice ae ne ce) from by rw [hw9];exact HR2.both _ _).cells;have HB9:Below w.heap.size w w9:=by rw [hw9];exact (HB2.setCell (p:=⟨rb,0,none⟩) (by rw [<- HRB.o];exact l_) _).setCell (p:=⟨rb,1,none⟩) (by rw [<- HRB.o];exact l_) _
 have hO9:Only (fun j=>j < w0.heap.size) w1 w9:=by rw [hw9];exact (((Only.refl _ _).below HM2.o l_).setCell (p:=⟨rb,0,none⟩) HLT.o _).setCell (p:=⟨rb,1,none⟩) HLT.o _
 refine bodyPost_ret (by simp [results,results45,go_sem,e0,e1];try rfl) rfl ?_;exact ⟨_,rfl,fun wz hz=>HT.o wz (hO9.trans (hz.mono fun j h=>Nat.lt_of_lt_of_le h HB0.size)),HC.o,HB9⟩
/- -/
/- -/
