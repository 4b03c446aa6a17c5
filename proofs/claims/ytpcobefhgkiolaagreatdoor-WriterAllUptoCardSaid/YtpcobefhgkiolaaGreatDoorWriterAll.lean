/- -/
import Derived.Test.YtpcobefhgkiolaaGreatDoorAWrtL
set_option linter.unusedVariables false
set_option linter.unusedSimpArgs false
set_option maxRecDepth 1000000
namespace Go.Proofs.YtpcobefhgkiolaaGreatDoor
open Go.RowKit Go.Shelf
set_option maxHeartbeats 32000000 in
theorem writerAll_walk (sv:Value) (cs:List ColB) (v:Value) (vals:List Value) (pss:List (List PairB)) (w:World) (hR:RdC w sv cs) (hC:CS cs) (hV:Chg w v vals pss) (hU:pss.flatten.length≤1048576) (hT:Tabs w) (hF:Frs w) :
  Calls Tryz.prog 5 #[sv,v] w fun e w'=>e=.returned (.bool true)∧Below w.heap.size w w':=by
 obtain ⟨ac,nc,cc,rfl⟩:=hR.lit12
 obtain ⟨al,nl,cl,rfl⟩:=hV.lit
 have hlc:=hR.len
 have hlen:=hV.size
 have hsm:=hV.small
 have AL:=h_ (fun wz (hz:Below w.heap.size w wz)=>law14_alive wz (hT.later hz) (hF.later hz))
 have HRC:=h_ (fun wz (hz:Below w.heap.size w wz)=>hR.later hz l_)
 have HV:=h_ (fun wz (hz:Below w.heap.size w wz)=>hV.later hz)
 have HT:=h_ (fun wz (hz:Below w.heap.size w wz)=>hT.later hz)
 have HF:=h_ (fun wz (hz:Below w.heap.size w wz)=>hF.later hz)
 have HC:=h_ hC
 have HU:=h_ (fun k=>Nat.le_trans (flatten_take pss k) hU)
 obtain ⟨n,hn⟩:∃ n,n=pss.length:=⟨_,rfl⟩
 rw [← hn] at hlen hsm
 have HN:=h_ hn
 clear hR hC hV hU hT hF hn
 go_enter Tryz.func5,Tryz.ntmps5
 go_wp2
 go_loopw [5,16] (fun a i wr=>∃ k:Nat,k≤n∧i=.int .i64 k∧Hid (OwnP wr w.heap.size a (pss.take k).flatten)∧Hid (Below w.heap.size w wr)) (fun _ i _=>n - (intOf i).toNat)
 case atStart=>exact ⟨0,by omega,rfl,h_ (OwnP.nil _ _),h_ (Below.refl _ _)⟩
 case round =>
  obtain ⟨k,hk,rfl,HO,HB⟩:=hrel
  by_cases hlt:k < n
  ·have hkn:k < pss.length:=by rw [← HN.out];exact hlt
   obtain ⟨b9,o9,lv,hidx,y0,hpv,_⟩:=(HV.out w (Below.refl _ _)).get hkn
   have e0:=keep_cell HB.out y0
   have hfs:=flatten_snoc hkn
   have hfl:=HU.out (k + 1)
   obtain ⟨ps,hx⟩:∃ x,x=pss.getD k []:=⟨_,rfl⟩
   rw [← hx] at hpv hfs
   rw [hfs,List.length_append] at hfl
   have HFS:=h_ hfs
   have HFL:=h_ hfl
   obtain ⟨ap,np,cp,rfl⟩:=hpv.lit12
   obtain ⟨us,hu1,hu2,hu3⟩:=hpv.app
   obtain ⟨hu4,hu5⟩:=hu3 wr HB.out
   have hu6:=hu5 u5 (fun g hg=>(HO.out.lt hg).1)
   have ha7:=HO.out
   have hb7:=HB.out
   clear hx hfs hfl hu3 hu5 hpv hkn y0
   go_wp2_with (with_reducible refine wplP_appendAll w.heap.size u5 ?hs ha7 (.slice ap np cp) ?hx us hu4 hu6 ?hn ?hbase w.heap.size w hb7 l_ ?_)
   case hs=>rfl
   case hx=>rfl
   case hn=>have:=HFL.out;rw [hu2];omega
   case hbase=>exact hb7.size
   intro v8 w8 ho8 hb8 hg8 _
   have HA8:=h_ (show OwnP w8 w.heap.size v8 (pss.take (k + 1)).flatten from by rw [HFS.out,← hu1];exact ho8)
   have HB8:=h_ hb8
   clear ho8 hb8 hg8 ha7 hb7 hu4 hu6 hu1 hu2 e0 HO HB
   go_wp2
   go_roundw
   case rel=>exact ⟨k + 1,by omega,by go_num,HA8,HB8⟩
   case measure=>simp [intOf];omega
  ·obtain rfl:k=n:=by omega
   have ha:OwnP wr w.heap.size u5 pss.flatten:=by
    have:=HO.out
    rwa [List.take_of_length_le (by rw [HN.out];exact l_)] at this
   have hfl:pss.flatten.length≤1048576:=by have:=HU.out pss.length;rwa [List.take_length] at this
   have hr:=ha.rd (by omega)
   have hlf:=hr.len
   obtain ⟨ar,nr,cr,rfl⟩:=hr.lit12
   have HRF:=h_ hr
   obtain ⟨m,hm⟩:∃ m,m=pss.flatten.length:=⟨_,rfl⟩
   rw [← hm] at hlf hfl
   have HM:=h_ hm
   clear ha hr HO hm hlt HU
   go_wp2_with fail
   refine (AL.out wr HB.out).mono ?_
   rintro e w1 ⟨rfl,hb⟩
   have HB1:=h_ (HB.out.trans (hb.mono HB.out.size))
   have HRF1:=h_ (HRF.out.later hb l_)
   clear hb HB HRF
   by_cases h20:20 < k
   ·have d1:decide ((k:Int) > 20)=true:=decide_eq_true (by omega)
    clear h20
    go_wp2_with fail
    refine (AL.out w1 HB1.out).mono ?_
    rintro e w2 ⟨rfl,hb⟩
    have HB2:=h_ (HB1.out.trans (hb.mono HB1.out.size))
    clear hb
    go_wp2
    go_ret
    exact ⟨rfl,HB2.out⟩
   ·have d1:decide ((k:Int) > 20)=false:=decide_eq_false (by omega)
    by_cases h200:200 < m
    ·have d2:decide ((m:Int) > 200)=true:=decide_eq_true (by omega)
     clear h20 h200
     go_wp2_with fail
     refine (AL.out w1 HB1.out).mono ?_
     rintro e w2 ⟨rfl,hb⟩
     have HB2:=h_ (HB1.out.trans (hb.mono HB1.out.size))
     clear hb
     go_wp2
     go_ret
     exact ⟨rfl,HB2.out⟩
    ·have d2:decide ((m:Int) > 200)=false:=decide_eq_false (by omega)
     have HFEW:=h_ (show pss.length≤20∧pss.flatten.length≤200 from ⟨by rw [← HN.out];omega,by rw [← HM.out];omega⟩)
     have GG:=h_ (great_one13 (.slice ar nr cr) pss.flatten w1 HRF1.out)
     have HB9:=h_ (HB1.out.alloc HB1.out.size (.cells #[.slice ar nr cr] 33))
     clear h20 h200
     go_wp2_with fail
     refine GG.out.mono ?_
     rintro e w2 ⟨y,rfl,hy,_,hb⟩
     have HB2:=h_ (HB9.out.trans (hb.mono HB9.out.size))
     clear hb GG HB9 HB1 HRF1
     rcases hy with rfl | rfl
     ·by_cases h30:30 < cs.length
      ·have d3:decide ((cs.length:Int) > 30)=true:=decide_eq_true (by omega)
       clear h30
       go_wp2_with fail
       refine (AL.out w2 HB2.out).mono ?_
       rintro e w3 ⟨rfl,hb⟩
       have HB3:=h_ (HB2.out.trans (hb.mono HB2.out.size))
       clear hb
       go_wp2
       go_ret
       exact ⟨rfl,HB3.out⟩
      ·have d3:decide ((cs.length:Int) > 30)=false:=decide_eq_false (by omega)
       clear h30 AL
       have HS9:=h_ (show ∀ i,i < pss.length→(pss.getD i []).length≤4000 from fun i hi=>by have h1:=flatten_one hi;have h2:=HFEW.out.2;omega)
       have WA:=h_ (writer_All (.slice ac nc cc) (.slice al nl cl) cs vals pss w2 (HRC.out w2 HB2.out) HC.out (HV.out w2 HB2.out) HS9.out (HT.out w2 HB2.out) (HF.out w2 HB2.out))
       have RA:=h_ (fun wz (hz:Below w.heap.size w wz)=>ref_All14 (.slice ac nc cc) (.slice al nl cl) cs vals pss wz (HRC.out wz hz) HC.out (HV.out wz hz) HS9.out)
       have hsml:(allO cs pss).1.length≤140737488351232:=allO_small HC.out (fun i hi=>by
        obtain ⟨_,_,_,_,_,_,h⟩:=(HV.out w (Below.refl _ _)).get hi
        exact h)
       unfold AlO at WA RA
       obtain ⟨R,hRd⟩:∃ R,R=allO cs pss:=⟨_,rfl⟩
       rw [← hRd] at WA RA hsml
       obtain ⟨B,q,E⟩:=R
       dsimp only at WA RA hsml
       have HSM:=h_ hsml
       clear hRd hsml
       go_wp2_with fail
       refine WA.out.mono ?_
       rintro e w3 ⟨v3,rfl,ho,hb⟩
       obtain ⟨a3,n3,c3,rfl⟩:=ho.lit13
       have HO3:=h_ ho
       have HB3:=h_ (HB2.out.trans (hb.mono HB2.out.size))
       clear ho hb WA
       go_wp2_with fail
       refine (RA.out w3 HB3.out).mono ?_
       rintro e w4 ⟨v4,rfl,ho,hb⟩
       obtain ⟨a4,n4,c4,rfl⟩:=ho.lit13
       have HB4:=h_ (HB3.out.trans (hb.mono HB3.out.size))
       have s1:=((HO3.out.later hb l_).rd HSM.out).str
       have s2:=(ho.rd HSM.out).str
       clear ho hb RA HO3
       go_wp2
       go_ret
       exact ⟨rfl,HB4.out⟩
     ·go_wp2_with fail
      refine (AL.out w2 HB2.out).mono ?_
      rintro e w3 ⟨rfl,hb⟩
      have HB3:=h_ (HB2.out.trans (hb.mono HB2.out.size))
      clear hb
      go_wp2
      go_ret
      exact ⟨rfl,HB3.out⟩
end Go.Proofs.YtpcobefhgkiolaaGreatDoor
