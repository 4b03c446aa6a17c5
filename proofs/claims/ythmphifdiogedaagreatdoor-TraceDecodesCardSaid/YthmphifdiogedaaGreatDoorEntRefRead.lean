/- -/
import Derived.Test.YthmphifdiogedaaGreatDoorDBatR
import Derived.Test.YthmphifdiogedaaGreatDoorDBatRef
set_option maxHeartbeats 16000000
set_option linter.unusedVariables false
set_option linter.unusedSimpArgs false
set_option maxRecDepth 1000000
namespace Go.Proofs.YthmphifdiogedaaGreatDoor
open Go.RowKit Go.Shelf
theorem ref_Take10F (sv v:Value) (m:Nat) (l:List UInt8) (k:Nat) (cs:List ColB) (wz:World) (hM:Mdl wz m v l k 0) (hz:RdC wz sv cs) (hC:CS cs) :
  Calls Tryz.prog 48 #[.pointer (some ⟨m,0,none⟩),sv] wz (TakeR10 wz m v l (batS cs l k)) :=
 ref_Take10 sv cs m v l k wz hM hC (errS (colsL cs)) (cmpE cs) (fun w9 hg=>RdC.aside hM hz hg) (zbQ sv cs wz hz hC)
  (fun hE=>by have:=(zaL hE).2.1;rw [za5] at this;exact this)
  (fun w9 va vb a b hg ha hb' hA hB=>by
   have:=zdB sv va vb cs a b w9 (RdC.aside hM hz hg) ha hb' hC hA hB
   unfold cmpE
   rw [ze3,ze3]
   exact this)
  (fun w9 k kd n hM9=>ref_Take09 m v l k w9 hM9 kd n)
theorem Mdl.aside12 {w:World} {m:Nat} {v:Value} {l:List UInt8} {k x:Nat} (h:Mdl w m v l k x) {p:Addr} (hp:p.block≠m) (hv:∀ i,i < l.length→(adr v i).block≠p.block) (u:Value):Mdl (w.setCell p u) m v l k x :=
 h.only (S:=fun j=>j=p.block) ((Only.refl (fun j=>j=p.block) w).setCell (p:=p) rfl _) (fun e=>hp e.symm) (fun i hi e=>hv i hi e)
theorem ref_Read12 (sv v:Value) (cs:List ColB) (kind:Int) (l:List UInt8) (w:World) (hsv:RdC w sv cs) (h:Rd w v l) (hC:CS cs) (hk:inW kind) :
  Calls Tryz.prog 27 #[sv,.int .i64 kind,v] w (RdEO w cs kind l):=by
 obtain ⟨ao,cap,hv,_⟩:=id h.shape
 subst hv
 obtain ⟨N1,N4⟩:=za9 w (.cells #[.int .i64 0,.int .i64 0,.slice none 0 0] 57)
 obtain ⟨w0,hw0⟩:∃ w0,w0=w.alloc (.cells #[.int .i64 0,.int .i64 0,.slice none 0 0] 57):=⟨_,rfl⟩
 have N0:w0.heap.size=w.heap.size + 1:=by rw [hw0];simp
 rw [← hw0] at N1 N4
 have HB0:=h_ N4
 have SC:=h_ (zbQ sv cs w0 (hsv.later N4 l_) hC)
 have HSV:=h_ (fun wz (hz:Below w.heap.size w wz)=>hsv.later hz l_)
 have HH:=h_ (fun wz (hz:Below w.heap.size w wz)=>h.later hz l_)
 have hvb:=fun i (hi:i < l.length)=>h.block hi
 have HVB:=h_ hvb
 have hE:entRE cs kind l=if errS (colsL cs)≠0 then errS (colsL cs) else if kind≠1∧kind≠2 then 10 else told l (entT cs l).2.1 (entT cs l).2.2:=rfl
 have hV:entRE cs kind l=0→entRV cs kind l=(2 - kind,((entT cs l).1.1:Int),(entT cs l).1.2):=fun h=>by unfold entRV;rw [if_pos h]
 obtain ⟨E,hEe⟩:∃ E,E=errS (colsL cs):=⟨_,rfl⟩
 rw [← hEe] at SC hE
 obtain ⟨cb,hcb⟩:∃ cb,cb=w.heap.size:=⟨_,rfl⟩
 rw [← hcb] at N0 N1
 have HCB:=h_ hcb
 have HW0:=h_ hw0
 have HR0:=h_ (show Ebox w0 cb 0 0 (.slice none 0 0) from N1)
 have HN0:=h_ N0
 clear hw0 N1 N4 h hsv hcb hEe N0 hvb
 by_cases hE0:E=0
 ·subst hE0
  rw [if_neg (by simp)] at hE
  by_cases hkd:kind≠1∧kind≠2
  ·rw [if_pos hkd] at hE
   have HE:=h_ hE
   have d1:(kind != 1)=true:=by rw [bne_iff_ne];exact hkd.1
   have d2:(kind != 2)=true:=by rw [bne_iff_ne];exact hkd.2
   clear hE hV hk hkd
   go_enter Tryz.func27,Tryz.ntmps27
   go_wp2_with fail
   rw [← HW0.out,← HCB.out]
   refine SC.out.mono ?_
   rintro e w1 ⟨rfl,hb⟩
   have HB1:=h_ (HB0.out.trans (hb.mono HB0.out.size))
   have HR1:=h_ (HR0.out.later hb)
   obtain ⟨c0,c1,c2⟩:=HR1.out.cells
   have f0:=HR1.out.free 0
   have f1:=HR1.out.free 1
   have f2:=HR1.out.free 2
   clear hb SC HR0
   go_wp2
   obtain ⟨w9,hw9⟩:∃ w9,w9=((w1.setCell ⟨cb,0,none⟩ (.int .i64 0)).setCell ⟨cb,1,none⟩ (.int .i64 0)).setCell ⟨cb,2,none⟩ (.slice none 0 0):=⟨_,rfl⟩
   rw [← hw9]
   obtain ⟨e0,e1,e2⟩:=(show Ebox w9 cb 0 0 (.slice none 0 0) from by rw [hw9];exact HR1.out.reset 0 0 _).cells
   have HO9:Only (fun j=>j=cb) w1 w9:=by rw [hw9];exact (((Only.refl (fun j=>j=cb) w1).setCell (p:=⟨cb,0,none⟩) rfl _).setCell (p:=⟨cb,1,none⟩) rfl _).setCell (p:=⟨cb,2,none⟩) rfl _
   have HB9:Below w.heap.size w w9:=HB1.out.trans (HO9.toBelow (fun j hj=>by have:=HCB.out;omega) HB1.out.size)
   refine bodyPost_ret (by simp [results,Tryz.results27,go_sem,e0,e1,e2];try rfl) rfl ?_
   exact RdEO.no HE.out (by decide) HB9
  ·rw [if_neg hkd] at hE
   have hk2:kind=1∨kind=2:=by omega
   obtain ⟨kd,hkd2⟩:∃ kd,kd=2 - kind:=⟨_,rfl⟩
   obtain ⟨R,hRR⟩:∃ R,R=entT cs l:=⟨_,rfl⟩
   have hno:=entT_no (cs:=cs) (l:=l)
   have hok:=entT_ok (cs:=cs) (l:=l)
   have hmost:=zbV (l:=l) (k:=0) (most:=281474976710656) (Nat.zero_le _)
   have hno9:=rdU_no (l:=l) (k:=0) (most:=281474976710656)
   obtain ⟨R1,hR1⟩:∃ R1,R1=rdU l 0 281474976710656:=⟨_,rfl⟩
   rw [← hRR] at hE hV hno hok
   rw [← hR1] at hno hok hmost hno9
   obtain ⟨n,hn⟩:∃ n,n=R1.1:=⟨_,rfl⟩
   obtain ⟨k1,hk1⟩:∃ k1,k1=R1.2.1:=⟨_,rfl⟩
   obtain ⟨x1,hx1⟩:∃ x1,x1=R1.2.2:=⟨_,rfl⟩
   rw [← hn,← hk1,← hx1] at hok hno9
   rw [← hk1,← hx1] at hno
   rw [← hn,← hx1] at hmost
   have hn9:n≤281474976710656:=by
    by_cases h9:x1=0
    ·exact (hmost h9).2.2
    ·rw [(hno9 h9).1];exact Nat.zero_le _
   have MU:=h_ (fun m v w hM=>show Calls Tryz.prog 47 #[.pointer (some ⟨m,0,none⟩),.int .u64 (281474976710656:Nat)] w (Does w m v l (.int .u64 (n:Int)) k1 x1) from by
    have:=zbU m v l 0 w hM 281474976710656 (by decide)
    rw [← hR1,← hn,← hk1,← hx1] at this
    exact this)
   obtain ⟨B,hB⟩:∃ B,B=batS cs l k1:=⟨_,rfl⟩
   have TK:=h_ (fun sv v m wz hM hz=>show Calls Tryz.prog 48 #[.pointer (some ⟨m,0,none⟩),sv] wz (TakeR10 wz m v l B) from by rw [hB];exact ref_Take10F sv v m l k1 cs wz hM hz hC)
   rw [← hB] at hok
   rw [hkd2.symm] at hV
   have HE:=h_ hE
   have HV:=h_ hV
   have HNo:=h_ hno
   have HOk:=h_ hok
   clear hE hV hk hkd hC hno hok hmost hno9 hn hk1 hx1 hR1 hB hRR
   rcases hk2 with rfl | rfl
   ·go_enter Tryz.func27,Tryz.ntmps27
    go_wp2_with fail
    rw [← HW0.out,← HCB.out]
    refine SC.out.mono ?_
    rintro e w1 ⟨rfl,hb⟩
    have HB1:=h_ (HB0.out.trans (hb.mono HB0.out.size))
    have HR1:=h_ (HR0.out.later hb)
    obtain ⟨M0,M1,M2,M4⟩:=new2 w1 (.cells #[.slice ao l.length cap,.int .i64 0,.int .i64 0] 103) (.cells #[.int .i64 1,.int .i64 0,.slice none 0 0] 57)
    obtain ⟨w2,hw2⟩:∃ w2,w2=(w1.alloc (.cells #[.slice ao l.length cap,.int .i64 0,.int .i64 0] 103)).alloc (.cells #[.int .i64 1,.int .i64 0,.slice none 0 0] 57):=⟨_,rfl⟩
    rw [← hw2] at M0 M1 M2 M4
    obtain ⟨m,hm⟩:∃ m,m=w1.heap.size:=⟨_,rfl⟩
    rw [← hm] at M0 M1 M2
    have hcm:cb < m:=by rw [hm];exact HR1.out.lt
    have hwc:w.heap.size≤cb:=by rw [HCB.out];exact l_
    have hE2:Ebox w2 (m + 1) 1 0 (.slice none 0 0):=M2
    have HB2:=h_ (HB1.out.trans (M4.mono HB1.out.size))
    have HR2:=h_ (HR1.out.later M4)
    have hM2:Mdl w2 m (.slice ao l.length cap) l 0 0:=⟨M1,Nat.zero_le _,HH.out w2 HB2.out,fun i hi=>by have:=HVB.out i hi;omega⟩
    have HE2:=h_ hE2
    have HM2:=h_ hM2
    have HS2:=h_ M0
    have HI:=h_ (And.intro hcm hwc)
    have HW2:=h_ hw2
    have HMm:=h_ hm
    have U:=h_ (MU.out m _ w2 hM2)
    clear hb SC HR0 HR1 HB1 M0 M1 M2 M4 hm hcm hwc hE2 hM2 hw2 MU
    go_wp2_with fail
    rw [← HW2.out,← HMm.out]
    refine U.out.mono ?_
    rintro e w3 ⟨rfl,hG,hM3⟩
    have hO3:Only (fun j=>j=m) w2 w3:=(Only.refl _ w2).grown hG rfl
    have hE3:Ebox w3 (m + 1) 1 0 (.slice none 0 0):=hO3.keep HE2.out (by omega)
    have hR3:Ebox w3 cb 0 0 (.slice none 0 0):=hO3.keep HR2.out (by have:=HI.out;omega)
    have hM4:=hM3.aside12 (p:=⟨m + 1,1,none⟩) (by simp) (fun i hi=>by have:=HVB.out i hi;have:=HI.out;dsimp only;omega) (.int .i64 (n:Int))
    have hE4:=hE3.seq (n:Int)
    have hO4:Only (fun j=>j=m + 1) w3 (w3.setCell ⟨m + 1,1,none⟩ (.int .i64 (n:Int))):=(Only.refl (fun j=>j=m + 1) w3).setCell (p:=⟨m + 1,1,none⟩) rfl _
    have hR4:Ebox (w3.setCell ⟨m + 1,1,none⟩ (.int .i64 (n:Int))) cb 0 0 (.slice none 0 0):=hO4.keep hR3 (by have:=HI.out;omega)
    have hB4:Below w.heap.size w (w3.setCell ⟨m + 1,1,none⟩ (.int .i64 (n:Int))):=HB2.out.trans ((hO3.toBelow (B:=w.heap.size) (fun j hj=>by have:=HI.out;omega) HB2.out.size).trans (hO4.toBelow (fun j hj=>by have:=HI.out;omega) (Nat.le_trans HB2.out.size hO3.size)))
    have z4:=hM4.cell2
    have z5:w3.cell? ⟨m + 1,1,none⟩=some (.int .i64 0):=hE3.cells.2.1
    have z6:=hE3.free 1
    obtain ⟨w4,hw4⟩:∃ w4,w4=w3.setCell ⟨m + 1,1,none⟩ (.int .i64 (n:Int)):=⟨_,rfl⟩
    rw [← hw4] at hM4 hE4 hR4 hB4
    have HM4:=h_ hM4
    have HE4:=h_ hE4
    have HR4:=h_ hR4
    have HB4:=h_ hB4
    have HW4:=h_ hw4
    clear hO3 hE3 hR3 hM4 hE4 hO4 hR4 hB4 hw4 hG hM3 U HM2 HE2 HR2 HB2 HW2
    by_cases hx:x1=0
    ·subst hx
     obtain ⟨q1,q2,q3⟩:=HOk.out rfl
     have HQ:=h_ (And.intro q1 (And.intro q2 q3))
     have TK1:=h_ (TK.out sv _ m w4 HM4.out (HSV.out w4 HB4.out))
     clear q1 q2 q3 HNo HOk TK
     go_wp2_with fail
     rw [← HW4.out]
     refine TK1.out.mono ?_
     clear z4 z5 z6
     rintro e w5 ⟨tv,rfl,⟨a2,n2,c2,rfl⟩,hG,hM5,hrc⟩
     have hO5:Only (fun j=>j=m) w4 w5:=(Only.refl _ w4).grown hG rfl
     have hE5:Ebox w5 (m + 1) 1 (n:Int) (.slice none 0 0):=hO5.keep HE4.out (by omega)
     have hR5:Ebox w5 cb 0 0 (.slice none 0 0):=hO5.keep HR4.out (by have:=HI.out;omega)
     have hM6:=hM5.aside12 (p:=⟨m + 1,2,none⟩) (by simp) (fun i hi=>by have:=HVB.out i hi;have:=HI.out;dsimp only;omega) (.slice a2 n2 c2)
     have hE6:=hE5.pairs (.slice a2 n2 c2)
     have hO6:Only (fun j=>j=m + 1) w5 (w5.setCell ⟨m + 1,2,none⟩ (.slice a2 n2 c2)):=(Only.refl (fun j=>j=m + 1) w5).setCell (p:=⟨m + 1,2,none⟩) rfl _
     have hR6:Ebox (w5.setCell ⟨m + 1,2,none⟩ (.slice a2 n2 c2)) cb 0 0 (.slice none 0 0):=hO6.keep hR5 (by have:=HI.out;omega)
     have hB6:Below w.heap.size w (w5.setCell ⟨m + 1,2,none⟩ (.slice a2 n2 c2)):=HB4.out.trans ((hO5.toBelow (B:=w.heap.size) (fun j hj=>by have:=HI.out;omega) HB4.out.size).trans (hO6.toBelow (fun j hj=>by have:=HI.out;omega) (Nat.le_trans HB4.out.size hO5.size)))
     have z5:=hE5.cells.2.2
     have z6:=hE5.free 2
     have hN6:=fun (h:B.2.2=0)=>show ∃ ps,NewP (w5.setCell ⟨m + 1,2,none⟩ (.slice a2 n2 c2)) w4.heap.size (.slice a2 n2 c2) ps∧PSO ps∧psL ps=B.1 from by
      obtain ⟨ps,p1,p2,p3⟩:=hrc h
      exact ⟨ps,p1.only hO6 (fun q hq=>by have:=HE4.out.lt;omega),p2,p3⟩
     obtain ⟨w6,hw6⟩:∃ w6,w6=w5.setCell ⟨m + 1,2,none⟩ (.slice a2 n2 c2):=⟨_,rfl⟩
     rw [← hw6] at hM6 hE6 hR6 hB6 hN6
     have HM6:=h_ hM6
     have HE6:=h_ hE6
     have HR6:=h_ hR6
     have HB6:=h_ hB6
     have HN6:=h_ hN6
     have HW6:=h_ hw6
     have HS4:=h_ HB4.out.size
     have HLt:=h_ HE4.out.lt
     clear hO5 hE5 hR5 hM6 hE6 hO6 hR6 hB6 hN6 hw6 hG hM5 hrc TK1 HM4 HE4 HR4 HB4 HW4
     go_wp2_with fail
     rw [← HW6.out]
     refine (zd0 m _ l B.2.1 B.2.2 w6 HM6.out).mono ?_
     rintro e w7 ⟨rfl,hb⟩
     clear z5 z6
     have HB7:=h_ (HB6.out.trans (hb.mono HB6.out.size))
     have HR7:=h_ (HR6.out.later hb)
     have HE7:=h_ (HE6.out.later hb)
     have HB67:=h_ hb
     have HT7:=h_ (show entRE cs 1 l=toldM l B.2.1 B.2.2 from by rw [HE.out,HQ.out.2.2];rfl)
     obtain ⟨c0,c1,c2'⟩:=HR7.out.cells
     have f0:=HR7.out.free 0
     have f1:=HR7.out.free 1
     have f2:=HR7.out.free 2
     obtain ⟨b0,b1,b2⟩:=HE7.out.cells
     obtain ⟨y,hy⟩:∃ y,y=toldM l B.2.1 B.2.2:=⟨_,rfl⟩
     rw [← hy] at HT7 ⊢
     clear hb HM6 HE6 HR6 HW6
     by_cases hy0:y=0
     ·subst hy0
      have hx:B.2.2=0:=by
       apply Decidable.of_not_not
       intro h9
       unfold toldM at hy
       rw [if_neg h9] at hy
       exact h9 hy.symm
      obtain ⟨ps,p1,p2,p3⟩:=HN6.out hx
      have HN:=h_ (p1.later HB67.out l_)
      have HPs:=h_ p2
      have HP3:=h_ p3
      clear hx p1 p2 p3 hy HN6
      go_wp2
      obtain ⟨w9,hw9⟩:∃ w9,w9=((w7.setCell ⟨cb,0,none⟩ (.int .i64 1)).setCell ⟨cb,1,none⟩ (.int .i64 (n:Int))).setCell ⟨cb,2,none⟩ (.slice a2 n2 c2):=⟨_,rfl⟩
      rw [← hw9]
      obtain ⟨e0,e1,e2⟩:=(show Ebox w9 cb 1 (n:Int) (.slice a2 n2 c2) from by rw [hw9];exact HR7.out.reset 1 (n:Int) _).cells
      have HO9:Only (fun j=>j=cb) w7 w9:=by rw [hw9];exact (((Only.refl (fun j=>j=cb) w7).setCell (p:=⟨cb,0,none⟩) rfl _).setCell (p:=⟨cb,1,none⟩) rfl _).setCell (p:=⟨cb,2,none⟩) rfl _
      have HB9:Below w.heap.size w w9:=HB7.out.trans (HO9.toBelow (fun j hj=>by have:=HCB.out;omega) HB7.out.size)
      refine bodyPost_ret (by simp [results,Tryz.results27,go_sem,e0,e1,e2];try rfl) rfl ?_
      refine ⟨HB9,a2,n2,c2,ps,?_,(HN.out.only HO9 (fun q hq=>by have:=HI.out;have:=HR7.out.lt;have:=HS4.out;have:=HCB.out;have:=HLt.out;omega)).lower (by have:=HS4.out;omega),HPs.out,?_⟩
      ·rw [HV.out HT7.out,HT7.out,HQ.out.1];subst hkd2;rfl
      ·rw [HV.out HT7.out,HP3.out,HQ.out.2.1]
     ·have q:((y:Int) != 0)=true:=by rw [bne_iff_ne];omega
      have HY:=h_ hy0
      clear hy hy0 HN6
      go_wp2
      obtain ⟨w9,hw9⟩:∃ w9,w9=((w7.setCell ⟨cb,0,none⟩ (.int .i64 0)).setCell ⟨cb,1,none⟩ (.int .i64 0)).setCell ⟨cb,2,none⟩ (.slice none 0 0):=⟨_,rfl⟩
      rw [← hw9]
      obtain ⟨e0,e1,e2⟩:=(show Ebox w9 cb 0 0 (.slice none 0 0) from by rw [hw9];exact HR7.out.reset 0 0 _).cells
      have HO9:Only (fun j=>j=cb) w7 w9:=by rw [hw9];exact (((Only.refl (fun j=>j=cb) w7).setCell (p:=⟨cb,0,none⟩) rfl _).setCell (p:=⟨cb,1,none⟩) rfl _).setCell (p:=⟨cb,2,none⟩) rfl _
      have HB9:Below w.heap.size w w9:=HB7.out.trans (HO9.toBelow (fun j hj=>by have:=HCB.out;omega) HB7.out.size)
      refine bodyPost_ret (by simp [results,Tryz.results27,go_sem,e0,e1,e2];try rfl) rfl ?_
      exact RdEO.no HT7.out HY.out HB9
    ·obtain ⟨q1,q2⟩:=HNo.out hx
     have q:((x1:Int) == 0)=false:=by rw [beq_eq_false_iff_ne];omega
     have HX:=h_ hx
     have HT7:=h_ (show entRE cs 1 l=x1 from by rw [HE.out,q2];unfold told;rw [if_neg hx])
     have HD:=h_ (zd0 m _ l k1 x1 w4 HM4.out)
     have hty:toldM l k1 x1=x1:=by unfold toldM;rw [if_neg hx]
     rw [hty] at HD
     clear q1 q2 HNo HOk TK hx hty
     go_wp2_with fail
     rw [← HW4.out]
     refine HD.out.mono ?_
     clear z4 z5 z6
     rintro e w7 ⟨rfl,hb⟩
     have HB7:=h_ (HB4.out.trans (hb.mono HB4.out.size))
     have HR7:=h_ (HR4.out.later hb)
     obtain ⟨c0,c1,c2'⟩:=HR7.out.cells
     have f0:=HR7.out.free 0
     have f1:=HR7.out.free 1
     have f2:=HR7.out.free 2
     have q9:((x1:Int) != 0)=true:=by rw [bne_iff_ne];have:=HX.out;omega
     clear hb HM4 HE4 HR4 HW4 HD
     go_wp2
     obtain ⟨w9,hw9⟩:∃ w9,w9=((w7.setCell ⟨cb,0,none⟩ (.int .i64 0)).setCell ⟨cb,1,none⟩ (.int .i64 0)).setCell ⟨cb,2,none⟩ (.slice none 0 0):=⟨_,rfl⟩
     rw [← hw9]
     obtain ⟨e0,e1,e2⟩:=(show Ebox w9 cb 0 0 (.slice none 0 0) from by rw [hw9];exact HR7.out.reset 0 0 _).cells
     have HO9:Only (fun j=>j=cb) w7 w9:=by rw [hw9];exact (((Only.refl (fun j=>j=cb) w7).setCell (p:=⟨cb,0,none⟩) rfl _).setCell (p:=⟨cb,1,none⟩) rfl _).setCell (p:=⟨cb,2,none⟩) rfl _
     have HB9:Below w.heap.size w w9:=HB7.out.trans (HO9.toBelow (fun j hj=>by have:=HCB.out;omega) HB7.out.size)
     refine bodyPost_ret (by simp [results,Tryz.results27,go_sem,e0,e1,e2];try rfl) rfl ?_
     exact RdEO.no HT7.out HX.out HB9
   ·go_enter Tryz.func27,Tryz.ntmps27
    go_wp2_with fail
    rw [← HW0.out,← HCB.out]
    refine SC.out.mono ?_
    rintro e w1 ⟨rfl,hb⟩
    have HB1:=h_ (HB0.out.trans (hb.mono HB0.out.size))
    have HR1:=h_ (HR0.out.later hb)
    obtain ⟨M0,M1,M2,M4⟩:=new2 w1 (.cells #[.slice ao l.length cap,.int .i64 0,.int .i64 0] 103) (.cells #[.int .i64 0,.int .i64 0,.slice none 0 0] 57)
    obtain ⟨w2,hw2⟩:∃ w2,w2=(w1.alloc (.cells #[.slice ao l.length cap,.int .i64 0,.int .i64 0] 103)).alloc (.cells #[.int .i64 0,.int .i64 0,.slice none 0 0] 57):=⟨_,rfl⟩
    rw [← hw2] at M0 M1 M2 M4
    obtain ⟨m,hm⟩:∃ m,m=w1.heap.size:=⟨_,rfl⟩
    rw [← hm] at M0 M1 M2
    have hcm:cb < m:=by rw [hm];exact HR1.out.lt
    have hwc:w.heap.size≤cb:=by rw [HCB.out];exact l_
    have hE2:Ebox w2 (m + 1) 0 0 (.slice none 0 0):=M2
    have HB2:=h_ (HB1.out.trans (M4.mono HB1.out.size))
    have HR2:=h_ (HR1.out.later M4)
    have hM2:Mdl w2 m (.slice ao l.length cap) l 0 0:=⟨M1,Nat.zero_le _,HH.out w2 HB2.out,fun i hi=>by have:=HVB.out i hi;omega⟩
    have HE2:=h_ hE2
    have HM2:=h_ hM2
    have HS2:=h_ M0
    have HI:=h_ (And.intro hcm hwc)
    have HW2:=h_ hw2
    have HMm:=h_ hm
    have U:=h_ (MU.out m _ w2 hM2)
    clear hb SC HR0 HR1 HB1 M0 M1 M2 M4 hm hcm hwc hE2 hM2 hw2 MU
    go_wp2_with fail
    rw [← HW2.out,← HMm.out]
    refine U.out.mono ?_
    rintro e w3 ⟨rfl,hG,hM3⟩
    have hO3:Only (fun j=>j=m) w2 w3:=(Only.refl _ w2).grown hG rfl
    have hE3:Ebox w3 (m + 1) 0 0 (.slice none 0 0):=hO3.keep HE2.out (by omega)
    have hR3:Ebox w3 cb 0 0 (.slice none 0 0):=hO3.keep HR2.out (by have:=HI.out;omega)
    have hM4:=hM3.aside12 (p:=⟨m + 1,1,none⟩) (by simp) (fun i hi=>by have:=HVB.out i hi;have:=HI.out;dsimp only;omega) (.int .i64 (n:Int))
    have hE4:=hE3.seq (n:Int)
    have hO4:Only (fun j=>j=m + 1) w3 (w3.setCell ⟨m + 1,1,none⟩ (.int .i64 (n:Int))):=(Only.refl (fun j=>j=m + 1) w3).setCell (p:=⟨m + 1,1,none⟩) rfl _
    have hR4:Ebox (w3.setCell ⟨m + 1,1,none⟩ (.int .i64 (n:Int))) cb 0 0 (.slice none 0 0):=hO4.keep hR3 (by have:=HI.out;omega)
    have hB4:Below w.heap.size w (w3.setCell ⟨m + 1,1,none⟩ (.int .i64 (n:Int))):=HB2.out.trans ((hO3.toBelow (B:=w.heap.size) (fun j hj=>by have:=HI.out;omega) HB2.out.size).trans (hO4.toBelow (fun j hj=>by have:=HI.out;omega) (Nat.le_trans HB2.out.size hO3.size)))
    have z4:=hM4.cell2
    have z5:w3.cell? ⟨m + 1,1,none⟩=some (.int .i64 0):=hE3.cells.2.1
    have z6:=hE3.free 1
    obtain ⟨w4,hw4⟩:∃ w4,w4=w3.setCell ⟨m + 1,1,none⟩ (.int .i64 (n:Int)):=⟨_,rfl⟩
    rw [← hw4] at hM4 hE4 hR4 hB4
    have HM4:=h_ hM4
    have HE4:=h_ hE4
    have HR4:=h_ hR4
    have HB4:=h_ hB4
    have HW4:=h_ hw4
    clear hO3 hE3 hR3 hM4 hE4 hO4 hR4 hB4 hw4 hG hM3 U HM2 HE2 HR2 HB2 HW2
    by_cases hx:x1=0
    ·subst hx
     obtain ⟨q1,q2,q3⟩:=HOk.out rfl
     have HQ:=h_ (And.intro q1 (And.intro q2 q3))
     have TK1:=h_ (TK.out sv _ m w4 HM4.out (HSV.out w4 HB4.out))
     clear q1 q2 q3 HNo HOk TK
     go_wp2_with fail
     rw [← HW4.out]
     refine TK1.out.mono ?_
     clear z4 z5 z6
     rintro e w5 ⟨tv,rfl,⟨a2,n2,c2,rfl⟩,hG,hM5,hrc⟩
     have hO5:Only (fun j=>j=m) w4 w5:=(Only.refl _ w4).grown hG rfl
     have hE5:Ebox w5 (m + 1) 0 (n:Int) (.slice none 0 0):=hO5.keep HE4.out (by omega)
     have hR5:Ebox w5 cb 0 0 (.slice none 0 0):=hO5.keep HR4.out (by have:=HI.out;omega)
     have hM6:=hM5.aside12 (p:=⟨m + 1,2,none⟩) (by simp) (fun i hi=>by have:=HVB.out i hi;have:=HI.out;dsimp only;omega) (.slice a2 n2 c2)
     have hE6:=hE5.pairs (.slice a2 n2 c2)
     have hO6:Only (fun j=>j=m + 1) w5 (w5.setCell ⟨m + 1,2,none⟩ (.slice a2 n2 c2)):=(Only.refl (fun j=>j=m + 1) w5).setCell (p:=⟨m + 1,2,none⟩) rfl _
     have hR6:Ebox (w5.setCell ⟨m + 1,2,none⟩ (.slice a2 n2 c2)) cb 0 0 (.slice none 0 0):=hO6.keep hR5 (by have:=HI.out;omega)
     have hB6:Below w.heap.size w (w5.setCell ⟨m + 1,2,none⟩ (.slice a2 n2 c2)):=HB4.out.trans ((hO5.toBelow (B:=w.heap.size) (fun j hj=>by have:=HI.out;omega) HB4.out.size).trans (hO6.toBelow (fun j hj=>by have:=HI.out;omega) (Nat.le_trans HB4.out.size hO5.size)))
     have z5:=hE5.cells.2.2
     have z6:=hE5.free 2
     have hN6:=fun (h:B.2.2=0)=>show ∃ ps,NewP (w5.setCell ⟨m + 1,2,none⟩ (.slice a2 n2 c2)) w4.heap.size (.slice a2 n2 c2) ps∧PSO ps∧psL ps=B.1 from by
      obtain ⟨ps,p1,p2,p3⟩:=hrc h
      exact ⟨ps,p1.only hO6 (fun q hq=>by have:=HE4.out.lt;omega),p2,p3⟩
     obtain ⟨w6,hw6⟩:∃ w6,w6=w5.setCell ⟨m + 1,2,none⟩ (.slice a2 n2 c2):=⟨_,rfl⟩
     rw [← hw6] at hM6 hE6 hR6 hB6 hN6
     have HM6:=h_ hM6
     have HE6:=h_ hE6
     have HR6:=h_ hR6
     have HB6:=h_ hB6
     have HN6:=h_ hN6
     have HW6:=h_ hw6
     have HS4:=h_ HB4.out.size
     have HLt:=h_ HE4.out.lt
     clear hO5 hE5 hR5 hM6 hE6 hO6 hR6 hB6 hN6 hw6 hG hM5 hrc TK1 HM4 HE4 HR4 HB4 HW4
     go_wp2_with fail
     rw [← HW6.out]
     refine (zd0 m _ l B.2.1 B.2.2 w6 HM6.out).mono ?_
     rintro e w7 ⟨rfl,hb⟩
     clear z5 z6
     have HB7:=h_ (HB6.out.trans (hb.mono HB6.out.size))
     have HR7:=h_ (HR6.out.later hb)
     have HE7:=h_ (HE6.out.later hb)
     have HB67:=h_ hb
     have HT7:=h_ (show entRE cs 2 l=toldM l B.2.1 B.2.2 from by rw [HE.out,HQ.out.2.2];rfl)
     obtain ⟨c0,c1,c2'⟩:=HR7.out.cells
     have f0:=HR7.out.free 0
     have f1:=HR7.out.free 1
     have f2:=HR7.out.free 2
     obtain ⟨b0,b1,b2⟩:=HE7.out.cells
     obtain ⟨y,hy⟩:∃ y,y=toldM l B.2.1 B.2.2:=⟨_,rfl⟩
     rw [← hy] at HT7 ⊢
     clear hb HM6 HE6 HR6 HW6
     by_cases hy0:y=0
     ·subst hy0
      have hx:B.2.2=0:=by
       apply Decidable.of_not_not
       intro h9
       unfold toldM at hy
       rw [if_neg h9] at hy
       exact h9 hy.symm
      obtain ⟨ps,p1,p2,p3⟩:=HN6.out hx
      have HN:=h_ (p1.later HB67.out l_)
      have HPs:=h_ p2
      have HP3:=h_ p3
      clear hx p1 p2 p3 hy HN6
      go_wp2
      obtain ⟨w9,hw9⟩:∃ w9,w9=((w7.setCell ⟨cb,0,none⟩ (.int .i64 0)).setCell ⟨cb,1,none⟩ (.int .i64 (n:Int))).setCell ⟨cb,2,none⟩ (.slice a2 n2 c2):=⟨_,rfl⟩
      rw [← hw9]
      obtain ⟨e0,e1,e2⟩:=(show Ebox w9 cb 0 (n:Int) (.slice a2 n2 c2) from by rw [hw9];exact HR7.out.reset 0 (n:Int) _).cells
      have HO9:Only (fun j=>j=cb) w7 w9:=by rw [hw9];exact (((Only.refl (fun j=>j=cb) w7).setCell (p:=⟨cb,0,none⟩) rfl _).setCell (p:=⟨cb,1,none⟩) rfl _).setCell (p:=⟨cb,2,none⟩) rfl _
      have HB9:Below w.heap.size w w9:=HB7.out.trans (HO9.toBelow (fun j hj=>by have:=HCB.out;omega) HB7.out.size)
      refine bodyPost_ret (by simp [results,Tryz.results27,go_sem,e0,e1,e2];try rfl) rfl ?_
      refine ⟨HB9,a2,n2,c2,ps,?_,(HN.out.only HO9 (fun q hq=>by have:=HI.out;have:=HR7.out.lt;have:=HS4.out;have:=HCB.out;have:=HLt.out;omega)).lower (by have:=HS4.out;omega),HPs.out,?_⟩
      ·rw [HV.out HT7.out,HT7.out,HQ.out.1];subst hkd2;rfl
      ·rw [HV.out HT7.out,HP3.out,HQ.out.2.1]
     ·have q:((y:Int) != 0)=true:=by rw [bne_iff_ne];omega
      have HY:=h_ hy0
      clear hy hy0 HN6
      go_wp2
      obtain ⟨w9,hw9⟩:∃ w9,w9=((w7.setCell ⟨cb,0,none⟩ (.int .i64 0)).setCell ⟨cb,1,none⟩ (.int .i64 0)).setCell ⟨cb,2,none⟩ (.slice none 0 0):=⟨_,rfl⟩
      rw [← hw9]
      obtain ⟨e0,e1,e2⟩:=(show Ebox w9 cb 0 0 (.slice none 0 0) from by rw [hw9];exact HR7.out.reset 0 0 _).cells
      have HO9:Only (fun j=>j=cb) w7 w9:=by rw [hw9];exact (((Only.refl (fun j=>j=cb) w7).setCell (p:=⟨cb,0,none⟩) rfl _).setCell (p:=⟨cb,1,none⟩) rfl _).setCell (p:=⟨cb,2,none⟩) rfl _
      have HB9:Below w.heap.size w w9:=HB7.out.trans (HO9.toBelow (fun j hj=>by have:=HCB.out;omega) HB7.out.size)
      refine bodyPost_ret (by simp [results,Tryz.results27,go_sem,e0,e1,e2];try rfl) rfl ?_
      exact RdEO.no HT7.out HY.out HB9
    ·obtain ⟨q1,q2⟩:=HNo.out hx
     have q:((x1:Int) == 0)=false:=by rw [beq_eq_false_iff_ne];omega
     have HX:=h_ hx
     have HT7:=h_ (show entRE cs 2 l=x1 from by rw [HE.out,q2];unfold told;rw [if_neg hx])
     have HD:=h_ (zd0 m _ l k1 x1 w4 HM4.out)
     have hty:toldM l k1 x1=x1:=by unfold toldM;rw [if_neg hx]
     rw [hty] at HD
     clear q1 q2 HNo HOk TK hx hty
     go_wp2_with fail
     rw [← HW4.out]
     refine HD.out.mono ?_
     clear z4 z5 z6
     rintro e w7 ⟨rfl,hb⟩
     have HB7:=h_ (HB4.out.trans (hb.mono HB4.out.size))
     have HR7:=h_ (HR4.out.later hb)
     obtain ⟨c0,c1,c2'⟩:=HR7.out.cells
     have f0:=HR7.out.free 0
     have f1:=HR7.out.free 1
     have f2:=HR7.out.free 2
     have q9:((x1:Int) != 0)=true:=by rw [bne_iff_ne];have:=HX.out;omega
     clear hb HM4 HE4 HR4 HW4 HD
     go_wp2
     obtain ⟨w9,hw9⟩:∃ w9,w9=((w7.setCell ⟨cb,0,none⟩ (.int .i64 0)).setCell ⟨cb,1,none⟩ (.int .i64 0)).setCell ⟨cb,2,none⟩ (.slice none 0 0):=⟨_,rfl⟩
     rw [← hw9]
     obtain ⟨e0,e1,e2⟩:=(show Ebox w9 cb 0 0 (.slice none 0 0) from by rw [hw9];exact HR7.out.reset 0 0 _).cells
     have HO9:Only (fun j=>j=cb) w7 w9:=by rw [hw9];exact (((Only.refl (fun j=>j=cb) w7).setCell (p:=⟨cb,0,none⟩) rfl _).setCell (p:=⟨cb,1,none⟩) rfl _).setCell (p:=⟨cb,2,none⟩) rfl _
     have HB9:Below w.heap.size w w9:=HB7.out.trans (HO9.toBelow (fun j hj=>by have:=HCB.out;omega) HB7.out.size)
     refine bodyPost_ret (by simp [results,Tryz.results27,go_sem,e0,e1,e2];try rfl) rfl ?_
     exact RdEO.no HT7.out HX.out HB9
 ·rw [if_pos hE0] at hE
  have HE:=h_ hE
  have HE0:=h_ hE0
  have q:((E:Int) != 0)=true:=by rw [bne_iff_ne];omega
  clear hE hV hk hE0
  go_enter Tryz.func27,Tryz.ntmps27
  go_wp2_with fail
  rw [← HW0.out,← HCB.out]
  refine SC.out.mono ?_
  rintro e w1 ⟨rfl,hb⟩
  have HB1:=h_ (HB0.out.trans (hb.mono HB0.out.size))
  have HR1:=h_ (HR0.out.later hb)
  obtain ⟨c0,c1,c2⟩:=HR1.out.cells
  have f0:=HR1.out.free 0
  have f1:=HR1.out.free 1
  have f2:=HR1.out.free 2
  clear hb SC HR0
  go_wp2
  obtain ⟨w9,hw9⟩:∃ w9,w9=((w1.setCell ⟨cb,0,none⟩ (.int .i64 0)).setCell ⟨cb,1,none⟩ (.int .i64 0)).setCell ⟨cb,2,none⟩ (.slice none 0 0):=⟨_,rfl⟩
  rw [← hw9]
  obtain ⟨e0,e1,e2⟩:=(show Ebox w9 cb 0 0 (.slice none 0 0) from by rw [hw9];exact HR1.out.reset 0 0 _).cells
  have HO9:Only (fun j=>j=cb) w1 w9:=by rw [hw9];exact (((Only.refl (fun j=>j=cb) w1).setCell (p:=⟨cb,0,none⟩) rfl _).setCell (p:=⟨cb,1,none⟩) rfl _).setCell (p:=⟨cb,2,none⟩) rfl _
  have HB9:Below w.heap.size w w9:=HB1.out.trans (HO9.toBelow (fun j hj=>by have:=HCB.out;omega) HB1.out.size)
  refine bodyPost_ret (by simp [results,Tryz.results27,go_sem,e0,e1,e2];try rfl) rfl ?_
  exact RdEO.no HE.out HE0.out HB9
end Go.Proofs.YthmphifdiogedaaGreatDoor
