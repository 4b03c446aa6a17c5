/- -/
import Derived.Test.YthmphifdiogedaaGreatDoorDTrcR
import Derived.Test.YthmphifdiogedaaGreatDoorEntRefRead
import Derived.Test.YthmphifdiogedaaGreatDoorSchRefRead
set_option maxHeartbeats 32000000
set_option linter.unusedVariables false
set_option linter.unusedSimpArgs false
set_option maxRecDepth 1000000
namespace Go.Proofs.YthmphifdiogedaaGreatDoor
open Go.RowKit Go.Shelf
def zeJ (w:World) (b:List UInt8) (e:Ending) (w':World):Prop :=
 Below w.heap.size w w'∧∃ tv xv,e=.returned (.tuple #[tv,xv,.int .i64 ((trD b).2.2.2.1:Nat),.int .i64 ((trD b).2.2.2.2:Nat)])∧(∀ w2,Only (fun j=>j < w.heap.size) w' w2→RdT13 w2 tv (trD b).1 (trD b).2.1)∧CS (trD b).1∧RdG zaM w' xv ((curs13 (trD b).1 (trD b).2.2.1).map cuV)
theorem zeJ.no {w w':World} {b:List UInt8} {x y:Nat} {z:Int} (h:trD b=([],[],[],x,y)) (hz:z=(x:Int)) (hb:Below w.heap.size w w') :
  zeJ w b (.returned (.tuple #[.agg #[.slice none 0 0,.slice none 0 0],.slice none 0 0,.int .i64 z,.int .i64 (y:Int)])) w':=by
 subst hz
 unfold zeJ
 rw [h]
 exact ⟨hb,_,_,rfl,fun w2 _=>⟨_,_,rfl,RdG.nil colE w2,RdZ.nil w2⟩,fun c hc=>absurd hc (by simp),RdG.nil zaM w'⟩
theorem zkC (v:Value) (b:List UInt8) (w:World) (h:Rd w v b) :
  Calls Tryz.prog 13 #[v] w (zeJ w b):=by
 have hlen:=h.len
 have hsm:=h.small
 obtain ⟨s0,N1,N2,N3⟩:=new2 w (.cells #[.slice none 0 0,.slice none 0 0] 27) (.cells #[.slice none 0 0,.slice none 0 0] 27)
 obtain ⟨w0,hw0⟩:∃ w0,w0=(w.alloc (.cells #[.slice none 0 0,.slice none 0 0] 27)).alloc (.cells #[.slice none 0 0,.slice none 0 0] 27):=⟨_,rfl⟩
 rw [← hw0] at s0 N1 N2 N3
 obtain ⟨rb,hrb⟩:∃ rb,rb=w.heap.size:=⟨_,rfl⟩
 have HX0:=h_ (show Tbox w0 w.heap.size (.slice none 0 0) (.slice none 0 0)∧Tbox w0 (w.heap.size + 1) (.slice none 0 0) (.slice none 0 0) from ⟨N1,N2⟩)
 have HB0:=h_ N3
 have HS0:=h_ s0
 have HW0:=h_ hw0
 have HRB:=h_ hrb
 have HV:=h_ h
 obtain ⟨L,hL⟩:∃ L,L=b.length:=⟨_,rfl⟩
 rw [← hL] at hlen hsm
 have HL:=h_ hL
 subst hw0
 obtain ⟨c0,c1⟩:=HX0.out.2.cells
 obtain ⟨r0,r1⟩:=HX0.out.1.cells
 have f0:=HX0.out.1.free 0
 have f1:=HX0.out.1.free 1
 clear s0 N1 N2 N3 hrb hL
 by_cases h4:L < 4
 ·have HD:=h_ (trD_form (b:=b) (.inl (by rw [← HL.out];exact h4)))
  clear h
  go_enter Tryz.func13,Tryz.ntmps13
  go_wp2
  refine bodyPost_ret (by simp [results,Tryz.results13,go_sem,r0,r1];try rfl) rfl ?_
  exact zeJ.no HD.out rfl HB0.out
 ·have hb4:4≤b.length:=by rw [← HL.out];omega
  obtain ⟨v4,hs4,hd4⟩:=h.upto 4 hb4
  have hs4:∀ u,(Instr.slice 22 v none (some (.int .i64 4)) none).run Tryz.prog u=.ok v4 u:=hs4
  have hcv:=(hd4 _ (h.later HB0.out l_)).str
  by_cases hmg:b.take 4=zcK
  ·rw [hmg] at hcv
   obtain ⟨v1,hs1,hd1⟩:=h.from 4 hb4
   have hs1:∀ u,(Instr.slice 22 v (some (.int .i64 4)) none none).run Tryz.prog u=.ok v1 u:=hs1
   have FN:=h_ (zkG v1 (b.drop 4) _ (hd1 _ (h.later HB0.out l_)))
   obtain ⟨K,p,m,y,hn⟩:∃ K p m y,nxF (b.drop 4)=(K,p,m,y):=⟨_,_,_,_,rfl⟩
   rw [hn] at FN
   have HN:=h_ hn
   have H0:=h_ (show ¬ (b.length < 4∨b.take 4≠zcK) from fun h9=>by rcases h9 with h9 | h9;omega;exact h9 hmg)
   have hcv:(convert 22 9 v4).run Tryz.prog ((w.alloc (.cells #[.slice none 0 0,.slice none 0 0] 27)).alloc (.cells #[.slice none 0 0,.slice none 0 0] 27))=.ok (.string ⟨#[68,75,76,49]⟩) _:=hcv
   have hq:(!zcK == [68,75,76,49])=false:=by decide
   have d4:decide ((L:Int) < 4)=false:=decide_eq_false (by omega)
   clear h hd4 hd1 hn hmg
   go_enter Tryz.func13,Tryz.ntmps13
   go_wp2_with fail
   refine FN.out.mono ?_
   rintro e w2 ⟨pv,rfl,ho,hb⟩
   replace ho:Own w2 _ pv p:=ho
   have HX2:=h_ (show Tbox w2 rb (.slice none 0 0) (.slice none 0 0)∧Tbox w2 (rb + 1) (.slice none 0 0) (.slice none 0 0) from by rw [HRB.out];exact ⟨HX0.out.1.later hb,HX0.out.2.later hb⟩)
   have HB2:=h_ (HB0.out.trans (hb.mono HB0.out.size))
   have HW2:=h_ (show Below (w.alloc (.cells #[.slice none 0 0,.slice none 0 0] 27)).heap.size (w.alloc (.cells #[.slice none 0 0,.slice none 0 0] 27)) w2 from
    ((Below.refl _ _).alloc l_ _).trans (hb.mono (by simp)))
   have HS2:=h_ (show rb + 2≤w2.heap.size from by have:=hb.size;have:=HS0.out;have:=HRB.out;omega)
   have HSW:=h_ (show (w.alloc (.cells #[.slice none 0 0,.slice none 0 0] 27)).heap.size=rb + 1 from by rw [HRB.out];simp)
   have HP2:=h_ ho
   rw [← HRB.out]
   clear hb ho FN HX0 HB0 HS0 c0 c1 r0 r1 f0 f1 hcv hq d4 hs4 HW0
   obtain ⟨WW,hWW⟩:∃ WW,WW=w.alloc (.cells #[.slice none 0 0,.slice none 0 0] 27):=⟨_,rfl⟩
   rw [← hWW] at HW2 HSW
   clear hWW
   obtain ⟨c0,c1⟩:=HX2.out.2.cells
   obtain ⟨r0,r1⟩:=HX2.out.1.cells
   have f0:=HX2.out.1.free 0
   have f1:=HX2.out.1.free 1
   have f2:=HX2.out.2.free 0
   dsimp only
   by_cases hy:y=0
   ·subst hy
    obtain ⟨_,_,hK,hpl⟩:=zfI (b:=b.drop 4) (a:=0) (by rw [List.drop_zero];exact HN.out) (by
     apply Decidable.of_not_not
     intro h9
     have:=zf2 (b:=b.drop 4) (by rw [HN.out])
     rw [HN.out] at this
     have hp:=zdY K p
     have h1:=this.2.1
     have h2:=this.2.2.1
     dsimp only at h1 h2
     omega)
    by_cases hk0:K=0
    ·subst hk0
     have SP:=h_ (ref_Read05 pv p w2 (HP2.out.rd (by omega)))
     have HM:=h_ (show 4 + m≤L from by
      rw [HL.out]
      have:=(zf2 (b:=b.drop 4) (by rw [HN.out])).2.2.1
      rw [HN.out,List.length_drop] at this
      dsimp only at this;omega)
     clear hpl hK HP2
     go_wp2_with fail
     refine SP.out.mono ?_
     rintro e w3 ⟨hb,sv,cs,rfl,hC,hCS,hc8,hcl⟩
     have HX3:=h_ (And.intro (HX2.out.1.later hb) (HX2.out.2.later hb))
     have HB3:=h_ (HB2.out.trans (hb.mono HB2.out.size))
     have HW3:=h_ (HW2.out.trans (hb.mono HW2.out.size))
     have HC3:=h_ (show OwnC w3 (rb + 2) sv cs from OwnG.base hC HS2.out)
     have HS3:=h_ (Nat.le_trans HS2.out hb.size)
     have HCS:=h_ hCS
     have HCL:=h_ (show cs=colsB (readC p) from by rw [← hcl,zf8])
     obtain ⟨E,hE⟩:∃ E,E=readE p:=⟨_,rfl⟩
     rw [← hE]
     obtain ⟨ac,nc,cc,rfl⟩:=hC.lit13
     clear hb hC hCS hcl SP HX2 HB2 HW2 HS2 c0 c1 r0 r1 f0 f1 f2
     obtain ⟨c0,c1⟩:=HX3.out.2.cells
     obtain ⟨r0,r1⟩:=HX3.out.1.cells
     have f0:=HX3.out.1.free 0
     have f1:=HX3.out.1.free 1
     have f2:=HX3.out.2.free 0
     by_cases hE0:E=0
     ·subst hE0
      have HD:=h_ (trD_rest H0.out HN.out hE.symm)
      have HER:=h_ (show errS (colsL cs)=0 from by rw [HCL.out,zjC];exact (read_one hE.symm).1)
      rw [← HCL.out] at HD
      obtain ⟨a0,ha0⟩:∃ a0,a0=4 + m:=⟨_,rfl⟩
      rw [← ha0] at HD HM
      obtain ⟨T0,hT0⟩:∃ T0,T0=trR cs b b.length a0 0 0 []:=⟨_,rfl⟩
      rw [← hT0] at HD
      have ha09:a0≤L:=HM.out
      have ham:(4:Int) + (m:Int)=(a0:Int):=by omega
      have ham2:4 + m≤140737488351232:=by have:=HM.out;omega
      have HAM:=h_ ham
      have HI:=h_ (show Loop13 b cs a0 T0 [] [] b.length a0 0 0 [] from ⟨by rw [hT0],by omega,rfl,rfl,fun p hp=>absurd hp (by simp),⟨by omega,by omega⟩,by omega⟩)
      have hO3:Only (fun j=>j=rb + 1) w3 (w3.setCell ⟨rb + 1,0,none⟩ (.slice ac nc cc)):=(Only.refl (fun j=>j=rb + 1) _).setCell (p:=⟨rb + 1,0,none⟩) rfl _
      obtain ⟨w4,hw4⟩:∃ w4,w4=w3.setCell ⟨rb + 1,0,none⟩ (.slice ac nc cc):=⟨_,rfl⟩
      rw [← hw4] at hO3
      have HX4:=h_ (show Tbox w4 rb (.slice none 0 0) (.slice none 0 0)∧Tbox w4 (rb + 1) (.slice ac nc cc) (.slice none 0 0) from ⟨hO3.keep HX3.out.1 (by omega),by
       have:=block_setCell (k:=0) HX3.out.2 (.slice ac nc cc)
       rw [hw4];unfold Tbox;simpa using this⟩)
      have HB4:=h_ (HB3.out.trans (hO3.toBelow (fun j e=>by have:=HRB.out;omega) HB3.out.size))
      have HW4:=h_ (HW3.out.trans (hO3.toBelow (fun j e=>by have:=HSW.out;omega) HW3.out.size))
      have HC4:=h_ (HC3.out.stay hO3 (fun q hq e=>by have:=(World.ownsRow.lt HC3.out.1 q hq).1;omega))
      have HS4:=h_ (Nat.le_trans HS3.out hO3.size)
      have hc9:cs.length≤140737488351232:=by omega
      have SPr:=h_ (ref_Print05 (.slice ac nc cc) cs w4 (OwnC.rd HC4.out hc9) HCS.out HER.out)
      obtain ⟨u,hu⟩:∃ u:Int,u=((Crc.sum (wrS (colsL cs)):Nat):Int):=⟨_,rfl⟩
      rw [← hu] at SPr
      have HU:=h_ hu
      have HW4':=h_ hw4
      clear hE hT0 hO3 hw4 hu HX3 HB3 HW3 HC3 HS3 ha0 hc8
      go_wp2_with fail
      rw [← HW4'.out]
      refine SPr.out.mono ?_
      rintro e w5 ⟨rfl,hb⟩
      have HX5:=h_ (And.intro (HX4.out.1.later hb) (HX4.out.2.later hb))
      have HB5:=h_ (HB4.out.trans (hb.mono HB4.out.size))
      have HW5:=h_ (HW4.out.trans (hb.mono HW4.out.size))
      have HC5:=h_ (HC4.out.later hb l_)
      have HS5:=h_ (Nat.le_trans HS4.out hb.size)
      clear hb SPr HX4 HB4 HW4 HC4 HS4 c0 c1 r0 r1 f0 f1 f2
      have M2:Below w5.heap.size w5 (w5.alloc (.cells #[.int .i64 0,.int .i64 (a0:Int),.int .u32 u] 41)):=(Below.refl _ _).alloc l_ _
      have hM0:OwnG zaM (w5.alloc (.cells #[.int .i64 0,.int .i64 (a0:Int),.int .u32 u] 41)) WW.heap.size (.slice (some ⟨w5.heap.size,0,none⟩) 1 1) ((curs13 cs ((0,a0) :: [])).map cuV):=by
       have e:curs13 cs [(0,a0)]=[(0,(a0:Int),u)]:=by rw [HU.out];rfl
       rw [e]
       exact zcX zaM w5 WW.heap.size (by have:=HSW.out;have:=HS5.out;omega) [cuV (0,(a0:Int),u)] (by intro x hx;rw [List.mem_singleton.1 hx];rfl) (by intro x hx z hz;rw [List.mem_singleton.1 hx] at hz;simp [cuV] at hz;rcases hz with rfl | rfl | rfl <;> rfl) (by simp)
      have HVR:=h_ (show Vars13 zaM WW (w5.alloc (.cells #[.int .i64 0,.int .i64 (a0:Int),.int .u32 u] 41)) (rb + 2) rb (rb + 1) (.slice ac nc cc) (.slice none 0 0) (.slice none 0 0) (.slice (some ⟨w5.heap.size,0,none⟩) 1 1) (.slice none 0 0) ((curs13 cs ((0,a0) :: [])).map cuV) [] []∧OwnC (w5.alloc (.cells #[.int .i64 0,.int .i64 (a0:Int),.int .u32 u] 41)) (rb + 2) (.slice ac nc cc) cs∧Below w.heap.size w (w5.alloc (.cells #[.int .i64 0,.int .i64 (a0:Int),.int .u32 u] 41)) from
       ⟨⟨HX5.out.1.later M2,HX5.out.2.later M2,OwnG.nil zcD _ _,hM0,⟨OffS.nil _ _,by simp⟩,Nat.le_trans HS5.out M2.size,HW5.out.trans (M2.mono HW5.out.size)⟩,HC5.out.later M2 l_,HB5.out.trans (M2.mono HB5.out.size)⟩)
      have HAM':=h_ ham2
      clear M2 hM0 HX5 HB5 HW5 HC5 HS5
      go_wp2
      go_loopw [14,15,16,17] (fun n sq vv x wr=>∃ (a k f:Nat) (es:List EntB) (ms:List (Int × Nat)) (s:Int) (vw:List PairB) (ae:Option Addr) (ne ce:Nat) (ts:List EntV),a≤L∧n=.int .i64 a∧sq=.int .i64 s∧Hid (Loop13 b cs a0 T0 es ms f a k s vw∧es=ts.map (·.2)) ∧
       Hid (Vars13 zaM WW wr (rb + 2) rb (rb + 1) (.slice ac nc cc) (.slice ae ne ce) (.slice ae ne ce) x vv ((curs13 cs ((0,a0) :: ms)).map cuV) vw ts∧OwnC wr (rb + 2) (.slice ac nc cc) cs∧Below w.heap.size w wr)) (fun n _ _ _ _=>L - (intOf n).toNat)
      case atStart=>exact ⟨a0,0,b.length,[],[],0,[],none,0,0,[],HM.out,rfl,rfl,h_ ⟨HI.out,rfl⟩,HVR⟩
      case round =>
       clear HVR HI HM
       obtain ⟨a,k,f,es,ms,s,vw,ae,ne,ce,ts,haL,rfl,rfl,HI,HR⟩:=hrel
       have hks:=HI.out.1.len
       have hk4:=HI.out.1.most
       have htl:ts.length=k:=by have:=hks;rw [HI.out.2,List.length_map] at this;exact this
       have hlz:=(HR.out.1.held.entries HR.out.1.ownE (by omega)).len
       rw [List.length_map,htl] at hlz
       obtain ⟨c0,c1⟩:=HR.out.1.tb.cells
       have HTL:=h_ htl
       obtain ⟨r0,r1⟩:=HR.out.1.rb.cells
       have f0:=HR.out.1.rb.free 0
       have f1:=HR.out.1.rb.free 1
       clear hks htl
       by_cases hlt:a < L
       ·have hab:a < b.length:=by rw [← HL.out];exact hlt
        by_cases hlim:4096≤k
        ·have HT9:=h_ (show trD b=([],[],[],a,13) from by rw [HD.out,HI.out.1.run];exact zgO (trJ_limit hab HI.out.1.fuel hlim) (by decide))
         clear hab
         go_wp2
         obtain ⟨w9,hw9⟩:∃ w9,w9=(wr.setCell ⟨rb,0,none⟩ (.slice none 0 0)).setCell ⟨rb,1,none⟩ (.slice none 0 0):=⟨_,rfl⟩
         rw [← hw9]
         obtain ⟨e0,e1⟩:=(show Tbox w9 rb (.slice none 0 0) (.slice none 0 0) from by rw [hw9];exact HR.out.1.rb.both _ _).cells
         have HB9:Below w.heap.size w w9:=by rw [hw9];exact (HR.out.2.2.setCell (p:=⟨rb,0,none⟩) (by rw [← HRB.out];exact l_) _).setCell (p:=⟨rb,1,none⟩) (by rw [← HRB.out];exact l_) _
         refine bodyPost_ret (by simp [results,Tryz.results13,go_sem,e0,e1];try rfl) rfl ?_
         exact zeJ.no HT9.out rfl HB9
        ·have hk5:k < 4096:=by omega
         have hd:decide ((k:Int) ≥ 4096)=false:=decide_eq_false (by omega)
         obtain ⟨v2,hs2,hd2⟩:=HV.out.from a (by omega)
         have FN1:=h_ (zkG v2 (b.drop a) wr (hd2 wr (HV.out.later HR.out.2.2 l_)))
         obtain ⟨K,p,mm,y,hn⟩:∃ K p m y,nxF (b.drop a)=(K,p,m,y):=⟨_,_,_,_,rfl⟩
         rw [hn] at FN1
         have HNN:=h_ hn
         have HAB:=h_ (And.intro hab hk5)
         clear hd2 hlim hab hn
         go_wp2_with fail
         refine FN1.out.mono ?_
         rintro e w5 ⟨qv,rfl,ho,hb5⟩
         replace ho:Own w5 wr.heap.size qv p:=ho
         have HR5:=h_ (And.intro (HR.out.1.later hb5) (And.intro (HR.out.2.1.later hb5 l_) (HR.out.2.2.trans (hb5.mono HR.out.2.2.size))))
         have HP5:=h_ ho
         have HS5:=h_ hb5.size
         clear FN1 hb5 ho c0 c1 r0 r1 f0 f1 hd hk5
         dsimp only
         by_cases hy:y=0
         ·subst hy
          obtain ⟨hfa,hfm,hK2,hpl⟩:=zfI HNN.out HAB.out.1
          rw [← HL.out] at hfa
          have RE1:=h_ (ref_Read12 (.slice ac nc cc) qv cs (K:Int) p w5 (OwnC.rd HR5.out.2.1 hc9) (HP5.out.rd (by omega)) HCS.out ⟨by omega,by omega⟩)
          clear HP5 hK2
          go_wp2_with fail
          refine RE1.out.mono ?_
          rintro e w6 ⟨hb6,ap,np,cp,ps,rfl,hNP,hPO,hpL⟩
          have HX:=h_ (entX_of hPO hpL)
          obtain ⟨E,hE⟩:∃ E,E=entRE cs (K:Int) p:=⟨_,rfl⟩
          rw [← hE]
          have HE:=h_ hE
          generalize entRV cs (K:Int) p=V at *
          obtain ⟨kd,s2,tl⟩:=V
          dsimp only at HX
          dsimp only
          have hNQ:=hNP.heldQ (Nat.le_trans HR.out.1.top HS5.out) HR5.out.1.lts.1 HR5.out.1.lts.2
          have HR6:=h_ (And.intro (HR5.out.1.later hb6) (And.intro (HR5.out.2.1.later hb6 l_) (HR5.out.2.2.trans (hb6.mono HR5.out.2.2.size))))
          obtain ⟨M1,M2⟩:=za9 w6 (.cells #[.int .i64 kd,.int .i64 s2,.slice ap np cp] 57)
          have HR7:=h_ (And.intro (HR6.out.1.later M2) (And.intro (HR6.out.2.1.later M2 l_) (HR6.out.2.2.trans (M2.mono HR6.out.2.2.size))))
          have HQ7:=h_ (hNQ.later M2)
          have HE7:=h_ (show Ebox _ w6.heap.size kd s2 (.slice ap np cp) from M1)
          clear RE1 hb6 hNP hPO hpL hE hNQ M1 M2 HR5 HR6
          by_cases hE0:E=0
          ·subst hE0
           have hre:entRE cs (K:Int) p=0:=HE.out.symm
           have hXO:EnO ((kd,s2,ps):EntB):=by rw [← HX.out];exact (entX_one hpl hre).1
           have TK:=h_ (ref_Apply12N (.slice ac nc cc) u16 (.agg #[.int .i64 kd,.int .i64 s2,.slice ap np cp]) cs s vw (kd,s2,ps) _ (OwnC.rd HR7.out.2.1 hc9) HR7.out.1.held.1.rd ⟨_,rfl,HQ7.out.rd⟩ HCS.out HI.out.1.pso hXO HI.out.1.inw)
           obtain ⟨x0,x1,x2⟩:=HE7.out.cells
           have HRE:=h_ hre
           clear hXO hre hpl
           go_wp2_with fail
           refine TK.out.mono ?_
           rintro e w8 ⟨vn,rfl,hvr,hvq,hb8⟩
           have HR8:=h_ (And.intro (HR7.out.1.later hb8) (And.intro (HR7.out.2.1.later hb8 l_) (HR7.out.2.2.trans (hb8.mono HR7.out.2.2.size))))
           have HE8:=h_ (HE7.out.later hb8)
           have HQ8:=h_ (HQ7.out.later hb8)
           have hvo:OffS w8 vn (apV cs s vw (kd,s2,ps)) (zgI (rb + 2) (.slice ae ne ce) u17):=by
            rcases hvq with ⟨e1,e2⟩ | hvn
            ·rw [e1,e2];exact HR8.out.1.held.1
            ·exact hvn.heldQ HR7.out.1.top HR7.out.1.lts.1 HR7.out.1.lts.2
           obtain ⟨E,hEd⟩:∃ E,E=apE cs s vw (kd,s2,ps):=⟨_,rfl⟩
           obtain ⟨s',hs'⟩:∃ s',s'=apN cs s vw (kd,s2,ps):=⟨_,rfl⟩
           obtain ⟨V,hV⟩:∃ V,V=apV cs s vw (kd,s2,ps):=⟨_,rfl⟩
           rw [← hV] at hvo
           rw [← hEd,← hs']
           clear hvr hvq hb8 TK x0 x1 x2 HR7 HE7 HQ7
           by_cases hE0:E=0
           ·subst hE0
            obtain ⟨f',hI'⟩:=HI.out.1.next HAB.out.1 HAB.out.2 HNN.out HRE.out (by rw [HX.out];exact hEd.symm)
            rw [HX.out,← hs',← hV] at hI'
            have HI':=h_ hI'
            have HV8:=h_ (HR8.out.1.seen hvo)
            obtain ⟨c0,c1⟩:=HV8.out.tb.cells
            obtain ⟨x0,x1,x2⟩:=HE8.out.cells
            have hamm:(a:Int) + (mm:Int)≤140737488351232:=by omega
            obtain ⟨M1,M2⟩:=za9 w8 (.cells #[.int .i64 kd,.int .i64 s2,.slice ap np cp] 57)
            have HV9:=h_ (And.intro (HV8.out.later M2) (And.intro (HR8.out.2.1.later M2 l_) (HR8.out.2.2.trans (M2.mono HR8.out.2.2.size))))
            have HQ9:=h_ (HQ8.out.later M2)
            have hoE:=HV9.out.1.ownE
            have hb9:=HV9.out.1.below
            clear hEd hI' hs' hV hvo HR8 HV8 HQ8 HE8
            go_wp2_with (with_reducible refine zgK WW.heap.size _ ?hs hoE w8.heap.size (.slice ap np cp) (kd,s2,ps) ?hx M1 HQ9.out.rd ?hn ?hbase WW.heap.size WW hb9 l_ ?_)
            case hs=>rfl
            case hx=>rfl
            case hn=>have:=HTL.out;omega
            case hbase=>exact hb9.size
            intro v10 w10 o10 b10 g10 p10
            obtain ⟨ag,ng,cg,rfl⟩:=o10.lit13
            have HV10:=h_ (And.intro (HV9.out.1.pushE (by decide) HQ9.out o10 b10 g10 p10) (OwnG.beside HV9.out.2.1 HV9.out.1.ownE (by decide) g10))
            have HBB:=h_ (show Below w.heap.size w w10 from HV9.out.2.2.grown g10 HV9.out.2.2.size (fun q hq=>by have:=(World.ownsRow.lt HV9.out.1.ownE.1 q hq).1;have:=HSW.out;have:=HRB.out;omega))
            obtain ⟨d0,d1⟩:=HV10.out.1.tb.cells
            have f1:=HV10.out.1.tb.free 1
            have hO:Only (fun j=>j=rb + 1) w10 (w10.setCell ⟨rb + 1,1,none⟩ (.slice ag ng cg)):=(Only.refl (fun j=>j=rb + 1) _).setCell (p:=⟨rb + 1,1,none⟩) rfl _
            obtain ⟨w11,hw11⟩:∃ w11,w11=w10.setCell ⟨rb + 1,1,none⟩ (.slice ag ng cg):=⟨_,rfl⟩
            have HV11:=h_ (show Vars13 zaM WW w11 (rb + 2) rb (rb + 1) (.slice ac nc cc) (.slice ag ng cg) (.slice ag ng cg) u17 vn ((curs13 cs ((0,a0) :: ms)).map cuV) V (ts ++ [(.slice ap np cp,(kd,s2,ps))])∧OwnC w11 (rb + 2) (.slice ac nc cc) cs∧Below w.heap.size w w11 from by
             rw [hw11]
             exact ⟨HV10.out.1.store (by decide) (by omega) (by rw [HSW.out];exact l_) (by omega) _,OwnG.stay HV10.out.2 hO (fun q hq e=>by have:=(World.ownsRow.lt HV10.out.2.1 q hq).1;omega),HBB.out.trans (hO.toBelow (fun j e=>by have:=HRB.out;omega) HBB.out.size)⟩)
            have HW11:=h_ hw11
            obtain ⟨bc,oc,hic,k0,k1,k2⟩:=cur_at (HV11.out.1.ownX.rd (by have h1:=congrArg List.length HI.out.1.marks;have h2:=HI.out.1.len;simp [curs13] at h1 ⊢;omega)) (i:=0) (by simp [curs13])
            have hic:∀ u,(Instr.indexAt 33 u17 (.int .i64 0)).run Tryz.prog u=.ok (.pointer (some ⟨bc,oc,none⟩)) u:=hic
            have k2:w11.cell? ⟨bc,oc + 2,none⟩=some (.int .u32 u):=by rw [HU.out];exact k2
            have K2:=h_ k2
            have HLN:=h_ (show ((curs13 cs ((0,a0) :: ms)).length + 1) * 24≤140737488355328 from by have h1:=congrArg List.length HI.out.1.marks;have h2:=HI.out.1.len;simp [curs13] at h1 ⊢;omega)
            clear o10 b10 g10 p10 hoE hb9 HV9 HQ9 HV10 HBB M1 M2 c0 c1 x0 x1 x2 hO k0 k1 d0 hw11
            rw [HW11.out] at k2
            obtain ⟨M3,M4⟩:=za9 w11 (.cells #[.int .i64 s',.int .i64 ((a:Int) + (mm:Int)),.int .u32 u] 41)
            have HV12:=h_ (And.intro (HV11.out.1.later M4) (And.intro (HV11.out.2.1.later M4 l_) (HV11.out.2.2.trans (M4.mono HV11.out.2.2.size))))
            have hoX:=HV12.out.1.ownX
            have hb12:=HV12.out.1.below
            rw [HW11.out] at M3 hoX hb12
            rw [show (w10.setCell ⟨rb + 1,1,none⟩ (.slice ag ng cg)).heap.size=w10.heap.size from by simp [World.setCell]] at M3
            clear M4
            go_wp2_with (with_reducible refine wplU_append WW.heap.size _ ?hs1 hoX w10.heap.size (s',(a:Int) + (mm:Int),u) ?hx1 M3 HLN.out ?hbase1 WW.heap.size WW hb12 l_ ?_)
            case hs1=>rfl
            case hx1=>rfl
            case hbase1=>exact hb12.size
            intro v12 w12 o12 b12 g12 p12
            rw [← HW11.out] at g12 p12
            have HV13:=h_ (show Vars13 zaM WW w12 (rb + 2) rb (rb + 1) (.slice ac nc cc) (.slice ag ng cg) (.slice ag ng cg) v12 vn ((curs13 cs ((0,a0) :: (ms ++ [(s',a + mm)]))).map cuV) V (ts ++ [(.slice ap np cp,(kd,s2,ps))])∧OwnC w12 (rb + 2) (.slice ac nc cc) cs∧Below w.heap.size w w12 from
             ⟨HV12.out.1.pushX (by decide) (by decide) (by
              have e:curs13 cs ((0,a0) :: (ms ++ [(s',a + mm)]))=curs13 cs ((0,a0) :: ms) ++ [(s',(a:Int) + (mm:Int),u)]:=by rw [HU.out];simp [curs13]
              rw [e];exact o12) b12 g12 p12,OwnG.beside HV12.out.2.1 HV12.out.1.ownX (by decide) g12,
              HV12.out.2.2.grown g12 HV12.out.2.2.size (fun q hq=>by have:=(World.ownsRow.lt HV12.out.1.ownX.1 q hq).1;have:=HSW.out;have:=HRB.out;omega)⟩)
            clear o12 b12 g12 p12 hoX hb12 HV12 HV11 M3 k2 f1 d1
            go_wp2
            go_roundw
            case rel=>exact ⟨a + mm,k + 1,f',es ++ [(kd,s2,ps)],ms ++ [(s',a + mm)],s',V,ag,ng,cg,ts ++ [(.slice ap np cp,(kd,s2,ps))],hfa,by go_num,by go_num,h_ ⟨HI'.out,by rw [List.map_append,← HI.out.2];rfl⟩,HV13⟩
            case measure=>simp [intOf];omega
           ·have HT9:=h_ (show trD b=([],[],[],a,E) from by rw [HD.out,HI.out.1.run];exact zgO (trJ_apply HAB.out.1 HI.out.1.fuel HAB.out.2 HNN.out HRE.out (by rw [HX.out];exact hEd) hE0) hE0)
            have q2:((E:Int) != 0)=true:=by rw [bne_iff_ne];omega
            obtain ⟨r0,r1⟩:=HR8.out.1.rb.cells
            have f0:=HR8.out.1.rb.free 0
            have f1:=HR8.out.1.rb.free 1
            clear hEd hE0 hvo
            go_wp2
            obtain ⟨w9,hw9⟩:∃ w9,w9=(w8.setCell ⟨rb,0,none⟩ (.slice none 0 0)).setCell ⟨rb,1,none⟩ (.slice none 0 0):=⟨_,rfl⟩
            rw [← hw9]
            obtain ⟨e0,e1⟩:=(show Tbox w9 rb (.slice none 0 0) (.slice none 0 0) from by rw [hw9];exact HR8.out.1.rb.both _ _).cells
            have HB9:Below w.heap.size w w9:=by rw [hw9];exact (HR8.out.2.2.setCell (p:=⟨rb,0,none⟩) (by rw [← HRB.out];exact l_) _).setCell (p:=⟨rb,1,none⟩) (by rw [← HRB.out];exact l_) _
            refine bodyPost_ret (by simp [results,Tryz.results13,go_sem,e0,e1];try rfl) rfl ?_
            exact zeJ.no HT9.out rfl HB9
          ·have HT9:=h_ (show trD b=([],[],[],a,E) from by rw [HD.out,HI.out.1.run];exact zgO (trJ_entry HAB.out.1 HI.out.1.fuel HAB.out.2 HNN.out HE.out hE0) hE0)
           have q2:((E:Int) != 0)=true:=by rw [bne_iff_ne];omega
           obtain ⟨r0,r1⟩:=HR7.out.1.rb.cells
           have f0:=HR7.out.1.rb.free 0
           have f1:=HR7.out.1.rb.free 1
           clear hE0 hpl
           go_wp2
           obtain ⟨w9,hw9⟩:∃ w9,w9=((w6.alloc (.cells #[.int .i64 kd,.int .i64 s2,.slice ap np cp] 57)).setCell ⟨rb,0,none⟩ (.slice none 0 0)).setCell ⟨rb,1,none⟩ (.slice none 0 0):=⟨_,rfl⟩
           rw [← hw9]
           obtain ⟨e0,e1⟩:=(show Tbox w9 rb (.slice none 0 0) (.slice none 0 0) from by rw [hw9];exact HR7.out.1.rb.both _ _).cells
           have HB9:Below w.heap.size w w9:=by rw [hw9];exact (HR7.out.2.2.setCell (p:=⟨rb,0,none⟩) (by rw [← HRB.out];exact l_) _).setCell (p:=⟨rb,1,none⟩) (by rw [← HRB.out];exact l_) _
           refine bodyPost_ret (by simp [results,Tryz.results13,go_sem,e0,e1];try rfl) rfl ?_
           exact zeJ.no HT9.out rfl HB9
         ·have HT9:=h_ (show trD b=([],[],[],a,y) from by rw [HD.out,HI.out.1.run];exact zgO (trJ_frame HAB.out.1 HI.out.1.fuel HAB.out.2 HNN.out hy) hy)
          have q2:((y:Int) != 0)=true:=by rw [bne_iff_ne];omega
          obtain ⟨r0,r1⟩:=HR5.out.1.rb.cells
          have f0:=HR5.out.1.rb.free 0
          have f1:=HR5.out.1.rb.free 1
          clear hy HP5
          go_wp2
          obtain ⟨w9,hw9⟩:∃ w9,w9=(w5.setCell ⟨rb,0,none⟩ (.slice none 0 0)).setCell ⟨rb,1,none⟩ (.slice none 0 0):=⟨_,rfl⟩
          rw [← hw9]
          obtain ⟨e0,e1⟩:=(show Tbox w9 rb (.slice none 0 0) (.slice none 0 0) from by rw [hw9];exact HR5.out.1.rb.both _ _).cells
          have HB9:Below w.heap.size w w9:=by rw [hw9];exact (HR5.out.2.2.setCell (p:=⟨rb,0,none⟩) (by rw [← HRB.out];exact l_) _).setCell (p:=⟨rb,1,none⟩) (by rw [← HRB.out];exact l_) _
          refine bodyPost_ret (by simp [results,Tryz.results13,go_sem,e0,e1];try rfl) rfl ?_
          exact zeJ.no HT9.out rfl HB9
       ·obtain rfl:a=L:=by omega
        have HT9:=h_ (show trD b=(cs,es,(0,a0) :: ms,a,0) from by rw [HD.out,HI.out.1.run];exact trT_yes (trJ_end (by have:=HL.out;omega)))
        clear hlt
        go_wp2
        obtain ⟨w9,hw9⟩:∃ w9,w9=(wr.setCell ⟨rb,0,none⟩ (.slice ac nc cc)).setCell ⟨rb,1,none⟩ (.slice ae ne ce):=⟨_,rfl⟩
        rw [← hw9]
        obtain ⟨k1,k2,k3,k4⟩:=HR.out.1.answer (by decide) (by omega) (.slice ac nc cc) (.slice ae ne ce)
        rw [← hw9] at k1 k2 k3 k4
        obtain ⟨e0,e1⟩:=k4.cells
        have HB9:Below w.heap.size w w9:=by rw [hw9];exact (HR.out.2.2.setCell (p:=⟨rb,0,none⟩) (by rw [← HRB.out];exact l_) _).setCell (p:=⟨rb,1,none⟩) (by rw [← HRB.out];exact l_) _
        have hO9:Only (fun j=>j=rb) wr w9:=by rw [hw9];exact ((Only.refl (fun j=>j=rb) _).setCell (p:=⟨rb,0,none⟩) rfl _).setCell (p:=⟨rb,1,none⟩) rfl _
        refine bodyPost_ret (by simp [results,Tryz.results13,go_sem,e0,e1];try rfl) rfl ?_
        unfold zeJ
        rw [HT9.out]
        refine ⟨HB9,_,_,rfl,fun w2 hO2=>⟨_,_,rfl,OwnC.rd ((OwnG.stay HR.out.2.1 hO9 (fun q hq e=>?_)).stay hO2 (fun q hq e=>?_)) hc9,?_⟩,HCS.out,?_⟩
        ·have:=(World.ownsRow.lt HR.out.2.1.1 q hq).1
         omega
        ·have:=(World.ownsRow.lt HR.out.2.1.1 q hq).1
         have:=HRB.out
         omega
        ·have h2:=HRB.out
         have h3:=(k3.only hO2 (fun j e=>.inl (by omega))).entries (k1.stay hO2 (fun q hq e=>by have:=(World.ownsRow.lt k1.1 q hq).1;have:=HSW.out;omega)) (by have:=HTL.out;omega)
         rw [HI.out.2]
         exact h3
        ·exact k2.rd (by have h1:=congrArg List.length HI.out.1.marks;have h2:=HI.out.1.len;simp [curs13] at h1 ⊢;omega)
     ·have HD:=h_ (show trD b=([],[],[],4,E) from by rw [hE];exact zk9 H0.out HN.out (by rw [← hE];exact hE0))
      have q:((E:Int) != 0)=true:=by rw [bne_iff_ne];omega
      clear hE hE0
      go_wp2
      obtain ⟨w9,hw9⟩:∃ w9,w9=(w3.setCell ⟨rb,0,none⟩ (.slice none 0 0)).setCell ⟨rb,1,none⟩ (.slice none 0 0):=⟨_,rfl⟩
      rw [← hw9]
      obtain ⟨e0,e1⟩:=(show Tbox w9 rb (.slice none 0 0) (.slice none 0 0) from by rw [hw9];exact HX3.out.1.both _ _).cells
      have HB9:Below w.heap.size w w9:=by rw [hw9];exact (HB3.out.setCell (p:=⟨rb,0,none⟩) (by rw [← HRB.out];exact l_) _).setCell (p:=⟨rb,1,none⟩) (by rw [← HRB.out];exact l_) _
      refine bodyPost_ret (by simp [results,Tryz.results13,go_sem,e0,e1];try rfl) rfl ?_
      exact zeJ.no HD.out rfl HB9
    ·have HD:=h_ (trD_kind H0.out HN.out hk0)
     have q:((K:Int) != 0)=true:=by rw [bne_iff_ne];omega
     clear hk0 hpl hK HP2
     go_wp2
     obtain ⟨w9,hw9⟩:∃ w9,w9=(w2.setCell ⟨rb,0,none⟩ (.slice none 0 0)).setCell ⟨rb,1,none⟩ (.slice none 0 0):=⟨_,rfl⟩
     rw [← hw9]
     obtain ⟨e0,e1⟩:=(show Tbox w9 rb (.slice none 0 0) (.slice none 0 0) from by rw [hw9];exact HX2.out.1.both _ _).cells
     have HB9:Below w.heap.size w w9:=by rw [hw9];exact (HB2.out.setCell (p:=⟨rb,0,none⟩) (by rw [← HRB.out];exact l_) _).setCell (p:=⟨rb,1,none⟩) (by rw [← HRB.out];exact l_) _
     refine bodyPost_ret (by simp [results,Tryz.results13,go_sem,e0,e1];try rfl) rfl ?_
     exact zeJ.no HD.out rfl HB9
   ·have HD:=h_ (trD_frame H0.out HN.out hy)
    have q:((y:Int) != 0)=true:=by rw [bne_iff_ne];omega
    have q1:((y:Int) == 0)=false:=by rw [beq_eq_false_iff_ne];omega
    clear hy HP2
    go_wp2
    obtain ⟨w9,hw9⟩:∃ w9,w9=(w2.setCell ⟨rb,0,none⟩ (.slice none 0 0)).setCell ⟨rb,1,none⟩ (.slice none 0 0):=⟨_,rfl⟩
    rw [← hw9]
    obtain ⟨e0,e1⟩:=(show Tbox w9 rb (.slice none 0 0) (.slice none 0 0) from by rw [hw9];exact HX2.out.1.both _ _).cells
    have HB9:Below w.heap.size w w9:=by rw [hw9];exact (HB2.out.setCell (p:=⟨rb,0,none⟩) (by rw [← HRB.out];exact l_) _).setCell (p:=⟨rb,1,none⟩) (by rw [← HRB.out];exact l_) _
    refine bodyPost_ret (by simp [results,Tryz.results13,go_sem,e0,e1];try rfl) rfl ?_
    exact zeJ.no HD.out rfl HB9
  ·have HD:=h_ (trD_form (b:=b) (.inr hmg))
   have hq:(!b.take 4 == [68,75,76,49])=true:=by simp;exact hmg
   have d4:decide ((L:Int) < 4)=false:=decide_eq_false (by omega)
   clear h hd4 hmg
   go_enter Tryz.func13,Tryz.ntmps13
   go_wp2
   refine bodyPost_ret (by simp [results,Tryz.results13,go_sem,r0,r1];try rfl) rfl ?_
   exact zeJ.no HD.out rfl HB0.out
theorem ref_Decode13 (v:Value) (b:List UInt8) (w:World) (h:Rd w v b) :
  Calls Tryz.prog 6 #[v] w (DcO13 w b):=by
 obtain ⟨N1,N2⟩:=za9 w (.cells #[.slice none 0 0,.slice none 0 0] 27)
 obtain ⟨w0,hw0⟩:∃ w0,w0=w.alloc (.cells #[.slice none 0 0,.slice none 0 0] 27):=⟨_,rfl⟩
 rw [← hw0] at N1 N2
 obtain ⟨rb,hrb⟩:∃ rb,rb=w.heap.size:=⟨_,rfl⟩
 rw [← hrb] at N1
 have HR0:=h_ (show Tbox w0 rb (.slice none 0 0) (.slice none 0 0) from N1)
 have HB0:=h_ N2
 have HW0:=h_ hw0
 have HRB:=h_ hrb
 have RD:=h_ (zkC v b w0 (h.later N2 l_))
 clear N1 N2 hw0 hrb h
 unfold zeJ at RD
 unfold DcO13
 generalize trD b=D at RD ⊢
 obtain ⟨cs,es,ms,p,y⟩:=D
 dsimp only at RD ⊢
 go_enter Tryz.func6,Tryz.ntmps6
 go_wp2_with fail
 rw [← HW0.out,← HRB.out]
 refine RD.out.mono ?_
 rintro e w1 ⟨hb,tv,xv,rfl,hT,hC,_⟩
 obtain ⟨sv,ev,rfl,hR,hZ⟩:=hT w1 (Only.refl _ _)
 obtain ⟨ae,ne,ce,rfl⟩:=hZ.lit
 obtain ⟨ac,nc,cc,rfl⟩:=hR.lit12
 have M2:Below w1.heap.size w1 (w1.alloc (.cells #[.slice ac nc cc,.slice ae ne ce] 27)):=(Below.refl _ _).alloc l_ _
 have HR2:=h_ ((HR0.out.later hb).later M2)
 have HB2:=h_ (HB0.out.trans ((hb.trans (M2.mono hb.size)).mono HB0.out.size))
 have HM2:=h_ M2
 have HT:=h_ hT
 have HC:=h_ hC
 have HLT:=h_ HR0.out.lt
 obtain ⟨r0,r1⟩:=HR2.out.cells
 have f0:=HR2.out.free 0
 have f1:=HR2.out.free 1
 clear hb hR hZ hT hC RD M2 HR0
 go_wp2
 obtain ⟨w9,hw9⟩:∃ w9,w9=((w1.alloc (.cells #[.slice ac nc cc,.slice ae ne ce] 27)).setCell ⟨rb,0,none⟩ (.slice ac nc cc)).setCell ⟨rb,1,none⟩ (.slice ae ne ce):=⟨_,rfl⟩
 rw [← hw9]
 obtain ⟨e0,e1⟩:=(show Tbox w9 rb (.slice ac nc cc) (.slice ae ne ce) from by rw [hw9];exact HR2.out.both _ _).cells
 have HB9:Below w.heap.size w w9:=by rw [hw9];exact (HB2.out.setCell (p:=⟨rb,0,none⟩) (by rw [← HRB.out];exact l_) _).setCell (p:=⟨rb,1,none⟩) (by rw [← HRB.out];exact l_) _
 have hO9:Only (fun j=>j < w0.heap.size) w1 w9:=by rw [hw9];exact (((Only.refl _ _).below HM2.out l_).setCell (p:=⟨rb,0,none⟩) HLT.out _).setCell (p:=⟨rb,1,none⟩) HLT.out _
 refine bodyPost_ret (by simp [results,Tryz.results6,go_sem,e0,e1];try rfl) rfl ?_
 exact ⟨_,rfl,HT.out w9 hO9,HC.out,HB9⟩
theorem ref_Marks13 (v:Value) (b:List UInt8) (w:World) (h:Rd w v b) :
  Calls Tryz.prog 8 #[v] w (MkO13 w b):=by
 have RD:=h_ (zkC v b w h)
 clear h
 unfold zeJ at RD
 unfold MkO13
 generalize trD b=D at RD ⊢
 obtain ⟨cs,es,ms,p,y⟩:=D
 dsimp only at RD ⊢
 go_enter Tryz.func8,Tryz.ntmps8
 go_wp2_with fail
 refine RD.out.mono ?_
 rintro e w1 ⟨hb,tv,xv,rfl,hT,hC,hX⟩
 obtain ⟨sv,ev,rfl,hR,hZ⟩:=hT w1 (Only.refl _ _)
 obtain ⟨ae,ne,ce,rfl⟩:=hZ.lit
 obtain ⟨ac,nc,cc,rfl⟩:=hR.lit12
 have M2:Below w1.heap.size w1 (w1.alloc (.cells #[.slice ac nc cc,.slice ae ne ce] 27)):=(Below.refl _ _).alloc l_ _
 have HX:=h_ (hX.later cursorOk M2 l_)
 have HB:=h_ (hb.trans (M2.mono hb.size))
 clear hb hR hZ hT hC RD M2 hX
 go_wp2
 go_ret3
 exact ⟨_,rfl,HX.out,HB.out⟩
end Go.Proofs.YthmphifdiogedaaGreatDoor
