/- -/
import Derived.Test.YtpcobefhgkiolaaGreatDoorBWrtL
import Derived.Test.YtpcobefhgkiolaaGreatDoorBTrcR
import Derived.Test.YtpcobefhgkiolaaGreatDoorBZSameW
set_option linter.unusedVariables false
set_option linter.unusedSimpArgs false
set_option maxRecDepth 1000000
namespace Go.Proofs.YtpcobefhgkiolaaGreatDoor
open Go.RowKit Go.Shelf
set_option maxHeartbeats 32000000 in
theorem writerTraces_walk (sv:Value) (cs:List ColB) (v:Value) (vals:List Value) (pss:List (List PairB)) (w:World) (hR:RdC w sv cs) (hC:CS cs) (hV:Chg w v vals pss) (hU:pss.flatten.length≤1048576) (hT:Tabs w) (hF:Frs w) :
  Calls Tryz.prog 6 #[sv,v] w fun e w'=>e=.returned (.bool true)∧Below w.heap.size w w':=by
 obtain ⟨ac,nc,cc,rfl⟩:=hR.lit12
 obtain ⟨al,nl,cl,rfl⟩:=hV.lit
 have hlc:=hR.len
 have hlen:=hV.size
 have hsm:=hV.small
 have AL:=h_ (fun wz (hz:Below w.heap.size w wz)=>law14_alive wz (hT.later hz) (hF.later hz))
 have HRC:=h_ (fun wz (hz:Below w.heap.size w wz)=>hR.later hz l_)
 have HV:=h_ (fun wz (hz:Below w.heap.size w wz)=>hV.later hz)
 have HT:=h_ (fun wz (hz:Below w.heap.size w wz)=>hT.later hz)
 have HF:=h_ (fun wz (hz:Below w.heap.size w wz)=>hF.later hz)
 have HC:=h_ hC
 have HU:=h_ (fun k=>Nat.le_trans (flatten_take pss k) hU)
 obtain ⟨n,hn⟩:∃ n,n=pss.length:=⟨_,rfl⟩
 rw [← hn] at hlen hsm
 have HN:=h_ hn
 clear hR hC hV hU hT hF hn
 go_enter Tryz.func6,Tryz.ntmps6
 go_wp2
 go_loopw [5,29] (fun a i wr=>∃ k:Nat,k≤n∧i=.int .i64 k∧Hid (OwnP wr w.heap.size a (pss.take k).flatten)∧Hid (Below w.heap.size w wr)) (fun _ i _=>n - (intOf i).toNat)
 case atStart=>exact ⟨0,by omega,rfl,h_ (OwnP.nil _ _),h_ (Below.refl _ _)⟩
 case round =>
  obtain ⟨k,hk,rfl,HO,HB⟩:=hrel
  by_cases hlt:k < n
  ·have hkn:k < pss.length:=by rw [← HN.out];exact hlt
   obtain ⟨b9,o9,lv,hidx,y0,hpv,_⟩:=(HV.out w (Below.refl _ _)).get hkn
   have e0:=keep_cell HB.out y0
   have hfs:=flatten_snoc hkn
   have hfl:=HU.out (k + 1)
   obtain ⟨ps,hx⟩:∃ x,x=pss.getD k []:=⟨_,rfl⟩
   rw [← hx] at hpv hfs
   rw [hfs,List.length_append] at hfl
   have HFS:=h_ hfs
   have HFL:=h_ hfl
   obtain ⟨ap,np,cp,rfl⟩:=hpv.lit12
   obtain ⟨us,hu1,hu2,hu3⟩:=hpv.app
   obtain ⟨hu4,hu5⟩:=hu3 wr HB.out
   have hu6:=hu5 u5 (fun g hg=>(HO.out.lt hg).1)
   have ha7:=HO.out
   have hb7:=HB.out
   clear hx hfs hfl hu3 hu5 hpv hkn y0
   go_wp2_with (with_reducible refine wplP_appendAll w.heap.size u5 ?hs ha7 (.slice ap np cp) ?hx us hu4 hu6 ?hn ?hbase w.heap.size w hb7 l_ ?_)
   case hs=>rfl
   case hx=>rfl
   case hn=>have:=HFL.out;rw [hu2];omega
   case hbase=>exact hb7.size
   intro v8 w8 ho8 hb8 hg8 _
   have HA8:=h_ (show OwnP w8 w.heap.size v8 (pss.take (k + 1)).flatten from by rw [HFS.out,← hu1];exact ho8)
   have HB8:=h_ hb8
   clear ho8 hb8 hg8 ha7 hb7 hu4 hu6 hu1 hu2 e0 HO HB
   go_wp2
   go_roundw
   case rel=>exact ⟨k + 1,by omega,by go_num,HA8,HB8⟩
   case measure=>simp [intOf];omega
  ·obtain rfl:k=n:=by omega
   have ha:OwnP wr w.heap.size u5 pss.flatten:=by
    have:=HO.out
    rwa [List.take_of_length_le (by rw [HN.out];exact l_)] at this
   have hfl:pss.flatten.length≤1048576:=by have:=HU.out pss.length;rwa [List.take_length] at this
   have hr:=ha.rd (by omega)
   have hlf:=hr.len
   obtain ⟨ar,nr,cr,rfl⟩:=hr.lit12
   have HRF:=h_ hr
   obtain ⟨m,hm⟩:∃ m,m=pss.flatten.length:=⟨_,rfl⟩
   rw [← hm] at hlf hfl
   have HM:=h_ hm
   clear ha hr HO hm hlt HU
   go_wp2_with fail
   refine (AL.out wr HB.out).mono ?_
   rintro e w1 ⟨rfl,hb⟩
   have HB1:=h_ (HB.out.trans (hb.mono HB.out.size))
   have HRF1:=h_ (HRF.out.later hb l_)
   clear hb HB HRF
   by_cases h20:20 < k
   ·have d1:decide ((k:Int) > 20)=true:=decide_eq_true (by omega)
    clear h20
    go_wp2_with fail
    refine (AL.out w1 HB1.out).mono ?_
    rintro e w2 ⟨rfl,hb⟩
    have HB2:=h_ (HB1.out.trans (hb.mono HB1.out.size))
    clear hb
    go_wp2
    go_ret
    exact ⟨rfl,HB2.out⟩
   ·have d1:decide ((k:Int) > 20)=false:=decide_eq_false (by omega)
    by_cases h200:200 < m
    ·have d2:decide ((m:Int) > 200)=true:=decide_eq_true (by omega)
     clear h20 h200
     go_wp2_with fail
     refine (AL.out w1 HB1.out).mono ?_
     rintro e w2 ⟨rfl,hb⟩
     have HB2:=h_ (HB1.out.trans (hb.mono HB1.out.size))
     clear hb
     go_wp2
     go_ret
     exact ⟨rfl,HB2.out⟩
    ·have d2:decide ((m:Int) > 200)=false:=decide_eq_false (by omega)
     have HFEW:=h_ (show pss.length≤20∧pss.flatten.length≤200 from ⟨by rw [← HN.out];omega,by rw [← HM.out];omega⟩)
     have GG:=h_ (great_one13 (.slice ar nr cr) pss.flatten w1 HRF1.out)
     have HB9:=h_ (HB1.out.alloc HB1.out.size (.cells #[.slice ar nr cr] 33))
     clear h20 h200
     go_wp2_with fail
     refine GG.out.mono ?_
     rintro e w2 ⟨y,rfl,hy,_,hb⟩
     have HB2:=h_ (HB9.out.trans (hb.mono HB9.out.size))
     clear hb GG HB9 HB1 HRF1
     rcases hy with rfl | rfl
     ·by_cases h30:30 < cs.length
      ·have d3:decide ((cs.length:Int) > 30)=true:=decide_eq_true (by omega)
       clear h30
       go_wp2_with fail
       refine (AL.out w2 HB2.out).mono ?_
       rintro e w3 ⟨rfl,hb⟩
       have HB3:=h_ (HB2.out.trans (hb.mono HB2.out.size))
       clear hb
       go_wp2
       go_ret
       exact ⟨rfl,HB3.out⟩
      ·have d3:decide ((cs.length:Int) > 30)=false:=decide_eq_false (by omega)
       clear h30 AL
       have HS9:=h_ (show ∀ i,i < pss.length→(pss.getD i []).length≤200 from fun i hi=>by have h1:=flatten_one hi;have h2:=HFEW.out.2;omega)
       have WA:=h_ (writer_All (.slice ac nc cc) (.slice al nl cl) cs vals pss w2 (HRC.out w2 HB2.out) HC.out (HV.out w2 HB2.out) (fun i hi=>Nat.le_trans (HS9.out i hi) (by decide)) (HT.out w2 HB2.out) (HF.out w2 HB2.out))
       have NW:=h_ (fun wz (hz:Below w.heap.size w wz)=>writer_New (.slice ac nc cc) cs wz (HRC.out wz hz) HC.out (HT.out wz hz))
       have HPS:=h_ (show ∀ i,i < pss.length→PSO (pss.getD i []) from fun i hi=>by
        obtain ⟨_,_,_,_,_,_,h⟩:=(HV.out w (Below.refl _ _)).get hi
        exact h)
       unfold AlO at WA
       unfold NwO at NW
       by_cases h0:errS (colsL cs)=0
       ·have hal:allO cs pss=((trE cs (allR cs [] pss).1).1,(allR cs [] pss).1.length,(allR cs [] pss).2):=by unfold allO;rw [if_neg (fun hh=>hh h0)]
        obtain ⟨m2,es,hr,hst,hm2,hbad⟩:=allR_steps HPS.out pss.length 0 [] (by omega) (by omega) (Steps.nil HC.out h0)
        rw [List.drop_zero] at hr
        rw [hr] at hal
        dsimp only at hal
        rw [hst.len] at hal
        rw [hal] at WA
        rw [h0] at NW
        dsimp only at WA
        have HST:=h_ hst
        have HSM:=h_ (show (trE cs es).1.length≤140737488351232 from by have:=hst.trs.small;omega)
        have DC:=h_ (fun wz v (hz:Below w.heap.size w wz) (hv:Rd wz v (trE cs es).1)=>trace_Decode v (trE cs es).1 wz hv (HT.out wz hz) (HF.out wz hz))
        unfold DcO13 at DC
        rw [hst.trs.back.1,hst.trs.back.2.1,hst.trs.back.2.2.1,hst.trs.back.2.2.2] at DC
        have hwhy:=fun hlt=>step_why hst (HPS.out m2 hlt) (by have:=HFEW.out.1;omega) (Nat.le_trans (HS9.out m2 hlt) (by decide)) (hbad hlt)
        rw [← HN.out] at hm2
        obtain ⟨E,hE⟩:∃ E,E=(if m2=pss.length then 0 else actE cs es (0,pss.getD m2 [])):=⟨_,rfl⟩
        rw [← hE] at WA
        have hE0:(E=0∧m2=k)∨(E≠0∧m2 < k∧E=actE cs es (0,pss.getD m2 [])):=by
         rw [hE]
         by_cases h9:m2=pss.length
         ·rw [if_pos h9];exact .inl ⟨rfl,by rw [HN.out];exact h9⟩
         ·rw [if_neg h9];exact .inr ⟨hbad (by have:=HN.out;omega),by have:=HN.out;omega,rfl⟩
        have HE0:=h_ hE0
        have HWHY:=h_ hwhy
        have HV0:=h_ (show (trE cs (es.take 0)).2.2.1=[] from by rw [List.take_zero,(TrS.nil HC.out h0).2])
        have hel:=hst.len
        obtain ⟨q,hq⟩:∃ q,q=(trE cs es).1.length:=⟨_,rfl⟩
        rw [← hq] at DC
        clear hal hr hst hbad hwhy hE hE0 h0 hq
        go_wp2_with fail
        refine WA.out.mono ?_
        rintro e w3 ⟨v3,rfl,ho,hb⟩
        obtain ⟨a3,n3,c3,rfl⟩:=ho.lit13
        have HO3:=h_ (ho.rd HSM.out)
        have HB3:=h_ (HB2.out.trans (hb.mono HB2.out.size))
        clear ho hb WA
        go_wp2_with fail
        refine (NW.out w3 HB3.out).mono ?_
        rintro e w4 ⟨v4,rfl,hb,hw⟩
        rcases hw with ⟨h9,_⟩ | ⟨_,g,bv,rfl,_⟩
        ·exact absurd rfl h9
        have HB4:=h_ (HB3.out.trans (hb.mono HB3.out.size))
        have DC4:=h_ (DC.out w4 _ HB4.out (HO3.out.later hb l_))
        clear hb NW DC HO3
        go_wp2_with fail
        refine DC4.out.mono ?_
        rintro e w5 ⟨tv,rfl,hTr,_,hb⟩
        obtain ⟨sv,ev,rfl,hR,hZ⟩:=hTr
        obtain ⟨ae,ne,ce,rfl⟩:=hZ.lit
        obtain ⟨a6,ns,ks,rfl⟩:=hR.lit12
        have hle:=hZ.len
        rw [hel] at hle
        have N:=new_one12 w5 (.cells #[.slice a6 ns ks,.slice ae ne ce] 46)
        have hX6:=(show Tbox (w5.alloc (.cells #[.slice a6 ns ks,.slice ae ne ce] 46)) w5.heap.size (.slice a6 ns ks) (.slice ae ne ce) from N.1)
        have c1:=hX6.cells.2
        have HZ6:=h_ (hZ.later N.2 l_)
        have HB6:=h_ ((HB4.out.trans (hb.mono HB4.out.size)).trans (N.2.mono (Nat.le_trans HB4.out.size hb.size)))
        obtain ⟨w6,hw6⟩:∃ w6,w6=w5.alloc (.cells #[.slice a6 ns ks,.slice ae ne ce] 46):=⟨_,rfl⟩
        have HW6:=h_ hw6
        rw [← hw6] at HZ6 HB6
        have d1':((E:Int) == 0)=decide (m2=k):=by
         rcases HE0.out with ⟨h1,h2⟩ | ⟨h1,h2,_⟩
         ·rw [h1,decide_eq_true h2];rfl
         ·rw [decide_eq_false (by omega),beq_eq_false_iff_ne];omega
        have d2':((m2:Int) == (k:Int))=decide (m2=k):=by
         by_cases h9:m2=k
         ·rw [decide_eq_true h9,beq_iff_eq];omega
         ·rw [decide_eq_false h9,beq_eq_false_iff_ne];omega
        have d3':decide ((m2:Int) < 0)=false:=decide_eq_false (by omega)
        have d4':decide ((m2:Int) > (k:Int))=false:=decide_eq_false (by omega)
        have d5':decide (k < m2)=false:=decide_eq_false (by omega)
        clear hb hR hZ N hX6 hw6 DC4 HB4
        go_wp2
        rw [← HW6.out]
        go_loopw [16,124] (fun vv i wr=>∃ j:Nat,j≤m2∧i=.int .i64 j∧Hid (RdP wr vv (trE cs (es.take j)).2.2.1)∧Hid (Below w6.heap.size w6 wr)) (fun _ i _=>m2 - (intOf i).toNat)
        case atStart=>exact ⟨0,by omega,rfl,h_ (by rw [HV0.out];exact RdP.nil _),h_ (Below.refl _ _)⟩
        case round =>
         clear c1
         obtain ⟨j,hj,rfl,HVW,HBr⟩:=hrel
         have HBW:=h_ (HB6.out.trans (HBr.out.mono HB6.out.size))
         by_cases hlt:j < m2
         ·have hje:j < es.length:=by rw [hel];exact hlt
          obtain ⟨b9,o9,pv,hidx,y0,y1,y2,hpv,hbl⟩:=HZ6.out.get hje
          have e0:=keep_cell HBr.out y0
          have e1:=keep_cell HBr.out y1
          have e2:=keep_cell HBr.out y2
          obtain ⟨s1,s2,s3,s4⟩:=HST.out.step j hlt
          rw [s1] at e0 e1 hpv
          dsimp only at e0 e1 hpv
          obtain ⟨ap,np,cp,rfl⟩:=hpv.lit12
          have hjk:j < pss.length:=by have:=HN.out;omega
          obtain ⟨b8,o8,lv,hidx8,e8,hlv,hps⟩:=(HV.out wr HBW.out).get hjk
          obtain ⟨a8,n8,c8,rfl⟩:=hlv.lit12
          obtain ⟨av,nv,cv,rfl⟩:=HVW.out.lit12
          have N:=new_one12 wr (.cells #[.int .i64 0,.int .i64 ((j:Int) + 1),.slice ap np cp] 70)
          have HE7:=h_ (show Ebox (wr.alloc (.cells #[.int .i64 0,.int .i64 ((j:Int) + 1),.slice ap np cp] 70)) wr.heap.size 0 ((j:Int) + 1) (.slice ap np cp) from N.1)
          have e9:=keep_cell N.2 e8
          have HB7:=h_ (HBW.out.trans (N.2.mono HBW.out.size))
          have HBr7:=h_ (HBr.out.trans (N.2.mono HBr.out.size))
          have HPV:=h_ (fun wz (hz:Below w6.heap.size w6 wz)=>hpv.later hz l_)
          have HVW7:=h_ (HVW.out.later N.2 l_)
          have CL:=h_ (zset_CollectN (.slice ac nc cc) (.slice a8 n8 c8) cs (pss.getD j []) (wr.alloc (.cells #[.int .i64 0,.int .i64 ((j:Int) + 1),.slice ap np cp] 70)) (HRC.out _ HB7.out) (hlv.later N.2 l_) HC.out hps (HT.out _ HB7.out) (by have:=HS9.out j hjk;omega))
          rw [s2] at CL
          have hao:PSO (clcO cs (pss.getD j [])):=clcO_pso hps
          have hvo:PSO (trE cs (es.take j)).2.2.1:=(HST.out.trs.take (by omega)).pso
          obtain ⟨A,hA⟩:∃ A,A=clcO cs (pss.getD j []):=⟨_,rfl⟩
          rw [← hA] at CL s3 s4 hao HPV
          have HS34:=h_ (And.intro s3 (And.intro s4 (And.intro hao hvo)))
          clear s1 s2 s3 s4 hao hvo hA y0 y1 y2 hpv hlv hps hje hjk N HVW HBr HBW
          obtain ⟨x0,x1,x2⟩:=HE7.out.cells
          go_wp2_with fail
          refine CL.out.mono ?_
          rintro e w8 ⟨xa,rfl,hx,hb⟩
          obtain ⟨ax,nx,cx,rfl⟩:=hx.rd.lit12
          have HX8:=h_ hx.rd
          have HE8:=h_ (HE7.out.later hb)
          have HB8:=h_ (HB7.out.trans (hb.mono HB7.out.size))
          have HBr8:=h_ (HBr7.out.trans (hb.mono HBr7.out.size))
          have HVW8:=h_ (HVW7.out.later hb l_)
          have SM:=h_ (zset_Same (.slice ap np cp) (.slice ax nx cx) A A w8 (HPV.out w8 HBr8.out) HX8.out)
          rw [decide_eq_true rfl] at SM
          clear hx hb CL x0 x1 x2 HE7 HB7 HBr7 HVW7 e0 e1 e2 e8 e9
          obtain ⟨x0,x1,x2⟩:=HE8.out.cells
          go_wp2_with fail
          refine SM.out.mono ?_
          rintro e w9 ⟨rfl,hb⟩
          have HX9:=h_ (HX8.out.later hb l_)
          have HB9:=h_ (HB8.out.trans (hb.mono HB8.out.size))
          have HBr9:=h_ (HBr8.out.trans (hb.mono HBr8.out.size))
          have HVW9:=h_ (HVW8.out.later hb l_)
          have SU:=h_ (zset_SumN (.slice ac nc cc) (.slice av nv cv) (.slice ax nx cx) cs (trE cs (es.take j)).2.2.1 A w9 (HRC.out w9 HB9.out) HVW9.out HX9.out HC.out HS34.out.2.2.2 HS34.out.2.2.1 (HT.out w9 HB9.out))
          rw [HS34.out.1,HS34.out.2.1] at SU
          clear hb SM x0 x1 x2 HE8 HB8 HBr8 HVW8 HX8
          go_wp2_with fail
          refine SU.out.mono ?_
          rintro e w10 ⟨vn,rfl,hvn,hb⟩
          obtain ⟨an,nn,cn,rfl⟩:=hvn.rd.lit12
          have HVN:=h_ hvn.rd
          have HBr10:=h_ (HBr9.out.trans (hb.mono HBr9.out.size))
          clear hb hvn SU
          go_wp2
          go_roundw
          case rel=>exact ⟨j + 1,by omega,by go_num,HVN,HBr10⟩
          case measure=>simp [intOf];omega
         ·obtain rfl:j=m2:=by omega
          clear hlt
          rcases HE0.out with ⟨rfl,h2⟩ | ⟨hE0,h2,hEe⟩
          ·go_wp2
           go_ret
           exact ⟨rfl,HBW.out⟩
          ·have qE:((E:Int) == 0)=false:=by rw [beq_eq_false_iff_ne];omega
           have hjk:j < pss.length:=by have:=HN.out;omega
           obtain ⟨b8,o8,lv,hidx8,e8,hlv,hps⟩:=(HV.out wr HBW.out).get hjk
           obtain ⟨a8,n8,c8,rfl⟩:=hlv.lit12
           have hvf:(es.take j)=es:=List.take_of_length_le (by rw [hel];exact l_)
           have hvw:=HVW.out
           rw [hvf] at hvw
           obtain ⟨av,nv,cv,rfl⟩:=hvw.lit12
           have HVW1:=h_ hvw
           have CL:=h_ (zset_CollectN (.slice ac nc cc) (.slice a8 n8 c8) cs (pss.getD j []) wr (HRC.out _ HBW.out) hlv HC.out hps (HT.out _ HBW.out) (by have:=HS9.out j hjk;omega))
           have hwhy:=HWHY.out hjk
           have hao:PSO (clcO cs (pss.getD j [])):=clcO_pso hps
           have hvo:PSO (trE cs es).2.2.1:=HST.out.trs.pso
           obtain ⟨vw,hvwd⟩:∃ vw,vw=(trE cs es).2.2.1:=⟨_,rfl⟩
           obtain ⟨A,hA⟩:∃ A,A=clcO cs (pss.getD j []):=⟨_,rfl⟩
           obtain ⟨G,hG⟩:∃ G,G=clcE cs (pss.getD j []):=⟨_,rfl⟩
           rw [← hG,← hA] at CL
           rw [← hEe,← hG,← hA,← hvwd] at hwhy
           rw [← hvwd] at HVW1 hvo
           rw [← hA] at hao
           have HWY:=h_ hwhy
           have HAO:=h_ (And.intro hao hvo)
           clear hlv hps hjk hwhy hao hvo hvwd hA hG hvf hvw HVW hE0 hEe
           go_wp2_with fail
           refine CL.out.mono ?_
           rintro e w8 ⟨xa,rfl,hx,hb⟩
           obtain ⟨ax,nx,cx,rfl⟩:=hx.rd.lit12
           have HB8:=h_ (HBW.out.trans (hb.mono HBW.out.size))
           have SU:=h_ (zset_SumN (.slice ac nc cc) (.slice av nv cv) (.slice ax nx cx) cs vw A w8 (HRC.out w8 HB8.out) (HVW1.out.later hb l_) hx.rd HC.out HAO.out.2 HAO.out.1 (HT.out w8 HB8.out))
           clear hx hb CL
           obtain ⟨Y,hY⟩:∃ Y,Y=sumE cs vw A:=⟨_,rfl⟩
           rw [← hY] at SU
           have HY:=h_ hY
           clear hY
           go_wp2_with fail
           refine SU.out.mono ?_
           rintro e w9 ⟨vn,rfl,hvn,hb⟩
           have HB9:=h_ (HB8.out.trans (hb.mono HB8.out.size))
           clear hvn hb SU
           rcases HWY.out with ⟨h3,h4⟩ | ⟨h3,h4⟩
           ·subst h4
            go_wp2
            go_ret
            exact ⟨rfl,HB9.out⟩
           ·subst h3
            rw [← HY.out] at h4
            subst h4
            have qz:((0:Int) == (E:Int))=false:=by rw [beq_eq_false_iff_ne];rw [beq_eq_false_iff_ne] at qE;omega
            go_wp2
            go_ret
            exact ⟨rfl,HB9.out⟩
       ·have hal:allO cs pss=([],0,errS (colsL cs)):=by unfold allO;rw [if_pos h0]
        rw [hal] at WA
        obtain ⟨E,hE⟩:∃ E,E=errS (colsL cs):=⟨_,rfl⟩
        rw [← hE] at WA NW h0
        dsimp only at WA
        have qE:((E:Int) != 0)=true:=by rw [bne_iff_ne];omega
        have HN0:=h_ h0
        clear hal hE h0
        go_wp2_with fail
        refine WA.out.mono ?_
        rintro e w3 ⟨v3,rfl,ho,hb⟩
        have HB3:=h_ (HB2.out.trans (hb.mono HB2.out.size))
        have hl3:=(ho.rd (by simp)).len
        obtain ⟨a3,n3,c3,rfl⟩:=ho.lit13
        clear ho hb WA
        go_wp2_with fail
        refine (NW.out w3 HB3.out).mono ?_
        rintro e w4 ⟨v4,rfl,hb,hw⟩
        rcases hw with ⟨_,rfl⟩ | ⟨h9,_⟩
        ·have HB4:=h_ (HB3.out.trans (hb.mono HB3.out.size))
         clear hb NW
         go_wp2
         go_ret
         exact ⟨rfl,HB4.out⟩
        ·exact absurd h9 HN0.out
     ·go_wp2_with fail
      refine (AL.out w2 HB2.out).mono ?_
      rintro e w3 ⟨rfl,hb⟩
      have HB3:=h_ (HB2.out.trans (hb.mono HB2.out.size))
      clear hb
      go_wp2
      go_ret
      exact ⟨rfl,HB3.out⟩
end Go.Proofs.YtpcobefhgkiolaaGreatDoor
