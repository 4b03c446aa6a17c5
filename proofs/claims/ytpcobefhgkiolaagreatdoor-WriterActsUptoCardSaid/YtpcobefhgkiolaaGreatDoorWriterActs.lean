/- -/
import Derived.Test.YtpcobefhgkiolaaGreatDoorAWrtP
import Derived.Test.YtpcobefhgkiolaaGreatDoorAWrtL
import Derived.Test.YtpcobefhgkiolaaGreatDoorABaseA
import Derived.Test.YtpcobefhgkiolaaGreatDoorAWrtR
set_option linter.unusedVariables false
set_option linter.unusedSimpArgs false
set_option maxRecDepth 1000000
namespace Go.Proofs.YtpcobefhgkiolaaGreatDoor
open Go.RowKit Go.Shelf
set_option maxHeartbeats 32000000 in
theorem writerActs_walk (sv:Value) (cs:List ColB) (v:Value) (l:List ActB) (w:World) (hR:RdC w sv cs) (hC:CS cs) (hA:RdA14 w v l) (hO:ACO l) (hU:(flat14 l).length≤1048576) (hT:Tabs w) (hF:Frs w) :
  Calls Tryz.prog 3 #[sv,v] w fun e w'=>e=.returned (.bool true)∧Below w.heap.size w w':=by
 obtain ⟨ac,nc,cc,rfl⟩:=hR.lit12
 obtain ⟨al,nl,cl,rfl⟩:=hA.lit
 have hlc:=hR.len
 have hlen:=hA.len
 have AL:=h_ (fun wz (hz:Below w.heap.size w wz)=>law14_alive wz (hT.later hz) (hF.later hz))
 have GR:=h_ (fun wz (hz:Below w.heap.size w wz)=>law14_great (.slice al nl cl) l wz (hA.later hz) hU)
 have HRC:=h_ (fun wz (hz:Below w.heap.size w wz)=>hR.later hz l_)
 have HA:=h_ hA
 have HT:=h_ (fun wz (hz:Below w.heap.size w wz)=>hT.later hz)
 have HF:=h_ (fun wz (hz:Below w.heap.size w wz)=>hF.later hz)
 have HC:=h_ hC
 have HO:=h_ hO
 obtain ⟨n,hn⟩:∃ n,n=l.length:=⟨_,rfl⟩
 rw [← hn] at hlen
 have HN:=h_ hn
 clear hR hC hA hO hU hT hF hn
 go_enter Tryz.func3,Tryz.ntmps3
 go_wp2_with fail
 refine (AL.out w (Below.refl _ _)).mono ?_
 rintro e w1 ⟨rfl,hb⟩
 have HB1:=h_ hb
 clear hb
 go_wp2_with fail
 refine (GR.out w1 HB1.out).mono ?_
 rintro e w2 ⟨y,rfl,hy,hf,hb⟩
 have HB2:=h_ (HB1.out.trans (hb.mono HB1.out.size))
 clear hb GR HB1
 rcases hy with rfl | rfl
 ·have HFEW:=h_ (hf rfl)
  have hn30:n≤30:=by rw [HN.out];exact HFEW.out.1
  clear hf
  by_cases h30:30 < cs.length
  ·have d3:decide ((cs.length:Int) > 30)=true:=decide_eq_true (by omega)
   clear h30
   go_wp2_with fail
   refine (AL.out w2 HB2.out).mono ?_
   rintro e w3 ⟨rfl,hb⟩
   have HB3:=h_ (HB2.out.trans (hb.mono HB2.out.size))
   clear hb
   go_wp2
   go_ret
   exact ⟨rfl,HB3.out⟩
  ·have d3:decide ((cs.length:Int) > 30)=false:=decide_eq_false (by omega)
   have NW:=h_ (writer_New (.slice ac nc cc) cs w2 (HRC.out w2 HB2.out) HC.out (HT.out w2 HB2.out))
   unfold NwO at NW
   obtain ⟨E,hE⟩:∃ E,E=errS (colsL cs):=⟨_,rfl⟩
   have HE:=h_ hE
   rw [← hE] at NW
   clear h30 AL hE
   go_wp2_with fail
   refine NW.out.mono ?_
   rintro e w3 ⟨v3,rfl,hb,hw⟩
   have HB3:=h_ (HB2.out.trans (hb.mono HB2.out.size))
   clear hb NW
   have RN:=h_ (ref_New14 (.slice ac nc cc) cs w3 (HRC.out w3 HB3.out) HC.out)
   unfold NmO at RN
   rw [← HE.out] at RN
   rcases hw with ⟨h0,rfl⟩ | ⟨h0,g,bv,rfl,hw⟩
   ·have q:((E:Int) != 0)=true:=by rw [bne_iff_ne];omega
    have HN0:=h_ h0
    clear h0
    go_wp2_with fail
    refine RN.out.mono ?_
    rintro e w4 ⟨v4,rfl,hb,hm⟩
    rcases hm with ⟨_,rfl⟩ | ⟨h9,_⟩
    ·have HB4:=h_ (HB3.out.trans (hb.mono HB3.out.size))
     clear hb RN
     go_wp2
     go_ret
     exact ⟨rfl,HB4.out⟩
    ·exact absurd h9 HN0.out
   ·subst h0
    have HW3:=h_ (hw (fun _=>False) fun j h=>h.elim)
    have hQ3:∀ q,(q=g∨bv.ownBlock=some q)→w.heap.size≤q∧q < w3.heap.size:=fun q hq=>by
     have h2:=HB2.out.size
     rcases hq with hq | hq
     ·have h1:=HW3.out.from_
      have h3:=HW3.out.lt
      omega
     ·have h1:=HW3.out.own.lt14 hq
      omega
    have HQ3:=h_ hQ3
    have HOF:=h_ ((OffG.old (show RdG colE w _ _ from HRC.out w (Below.refl _ _)) colOk (Q:=fun q=>q=g∨bv.ownBlock=some q) fun q hq h=>by have:=(hQ3 q h).1;omega).keep (w':=w3) colOk fun q hq _=>HB3.out.block q hq)
    clear hw hQ3
    go_wp2_with fail
    refine RN.out.mono ?_
    rintro e w4 ⟨v4,rfl,hb,hm⟩
    rcases hm with ⟨h9,_⟩ | ⟨_,gm,rfl,hm⟩
    ·exact absurd rfl h9
    have hM4:=hm (fun q=>q=g∨bv.ownBlock=some q) HOF.out fun q h=>(HQ3.out q h).2
    have HM4:=h_ (hM4.lower HB3.out.size)
    have HW4:=h_ ((((HW3.out.fresh).later hb).less (Q':=fun q=>q=gm) fun q h=>.inr (by rw [h];exact hM4.from_)).lower HB2.out.size)
    have HB4:=h_ (HB3.out.trans (hb.mono HB3.out.size))
    clear hb hm hM4 RN HB3 HW3 HQ3 HOF
    go_wp2
    go_loopw [61] (fun i wr=>∃ (j:Nat) (es:List EntB) (bw:Value),j≤n∧i=.int .i64 j∧Hid (Wr wr w.heap.size g bw cs es fun q=>q=gm)∧Hid (Mr wr w.heap.size gm cs es fun q=>q=g∨bw.ownBlock=some q)∧Hid (Below w.heap.size w wr)) (fun i _=>n - (intOf i).toNat)
    case atStart=>exact ⟨0,[],bv,by omega,rfl,HW4,HM4,HB4⟩
    case round =>
     clear HW4 HM4 HB4
     obtain ⟨j,es,bw,hj,rfl,HW,HM,HB⟩:=hrel
     by_cases hlt:j < n
     ·have hkn:j < l.length:=by rw [← HN.out];exact hlt
      obtain ⟨b9,o9,pv,hidx,y0,y1,hpv,hbl⟩:=HA.out.get hkn
      have e0:=keep_cell HB.out y0
      have e1:=keep_cell HB.out y1
      have hao:=HO.out _ (getD_mem13 hkn default)
      have hl4:(l.getD j default).2.length≤4000:=by have h1:=flat14_one hkn;have h2:=HFEW.out.2.1;omega
      obtain ⟨a,hx⟩:∃ x,x=l.getD j default:=⟨_,rfl⟩
      rw [← hx] at e0 hpv hao hl4
      obtain ⟨kd,ps⟩:=a
      dsimp only at e0 e1 hpv hao hl4
      obtain ⟨ap,np,cp,rfl⟩:=hpv.lit12
      have N:=new_one12 wr (.cells #[.int .i64 kd,.slice ap np cp] 35)
      have HX4:=h_ (show Xbox (wr.alloc (.cells #[.int .i64 kd,.slice ap np cp] 35)) wr.heap.size kd (.slice ap np cp) from N.1)
      have HB4:=h_ (HB.out.trans (N.2.mono HB.out.size))
      have HW4:=h_ N.2
      have HPV:=h_ (fun wz (hz:Below w.heap.size w wz)=>hpv.later hz l_)
      have HAO:=h_ hao
      have HL4:=h_ hl4
      obtain ⟨x0,x1⟩:=HX4.out.cells
      obtain ⟨w4,hw4⟩:∃ w4,w4=wr.alloc (.cells #[.int .i64 kd,.slice ap np cp] 35):=⟨_,rfl⟩
      obtain ⟨eb,heb⟩:∃ eb,eb=wr.heap.size:=⟨_,rfl⟩
      have HEB:=h_ (And.intro hw4 heb)
      rw [← hw4,← heb] at HX4
      rw [← hw4] at HB4 HW4
      clear hkn y0 y1 hpv hao hl4 hx N hw4
      have HWa:=h_ (HW.out.later HW4.out)
      have HMa:=h_ (HM.out.later HW4.out)
      have HLO:=h_ (show ∀ q,(q=g∨bw.ownBlock=some q)→q=eb→False from fun q hq e=>by
       have h1:=HEB.out.2
       rcases hq with hq | hq
       ·have:=HW.out.lt;omega
       ·have:=(HW.out.own.lt14 hq).2;omega)
      have HLO:=h_ (show ∀ q,q=eb→¬ (q=g∨bw.ownBlock=some q) from fun q e hq=>HLO.out q hq e)
      clear HW HM HB heb
      by_cases hkd:kd=0
      ·subst hkd
       have AC:=h_ (writer_Append w.heap.size g bw (.slice ap np cp) cs es ps (fun q=>q=gm) w4 HWa.out (fun q h=>by rw [h];exact HMa.out.lt) (HPV.out _ HB4.out) HAO.out.2 HL4.out (HT.out _ HB4.out) (HF.out _ HB4.out))
       go_wp2_with fail
       rw [← HEB.out.1,← HEB.out.2]
       refine AC.out.mono ?_
       rintro e w5 hst
       obtain ⟨ax,nx,cx,bn,rfl,hx,hw,hO,hp⟩:=hst.slice14
       have HB5:=h_ (HB4.out.trans (HWa.out.below hO))
       have hgm4:gm < w4.heap.size:=HMa.out.lt
       have HW5:=h_ (hw.less (Q':=fun q=>q=gm) fun q h=>.inl h)
       have hM5:=(HMa.out.more (Q':=fun q=>(q=g∨bw.ownBlock=some q)∨(q=g∨bn.ownBlock=some q)) (fun q hq h=>by
        rcases h with h | h | h
        ·exact h
        ·exact .inl h
        ·rcases hp with e | hp
         ·rw [e] at h;exact .inr h
         ·have:=hp q h;omega)).only hO (fun q _ h=>.inl h)
       have HM5:=h_ (hM5.more (Q':=fun q=>q=g∨bn.ownBlock=some q) fun q _ h=>.inr h)
       have hxn:∀ q,(Value.slice ax nx cx).ownBlock=some q→¬ q=gm:=fun q hq e=>by have:=(hx.lt14 hq).1;omega
       have RC:=h_ (ref_Append14 w.heap.size gm (.slice ap np cp) cs es ps (fun q=>q=g∨bn.ownBlock=some q) w5 HM5.out (fun q h=>h.elim (fun e=>by rw [e];exact HW5.out.lt) fun e=>(HW5.out.own.lt14 e).2) (HPV.out _ HB5.out) HAO.out.2 HL4.out)
       have HX5:=h_ (show Xbox w5 eb 0 (.slice ap np cp) from hO.keep HX4.out fun hs=>HLO.out eb rfl hs)
       have hasm:=act_small cs es (0,ps)
       have HXX:=h_ hx
       have HXN:=h_ hxn
       obtain ⟨es2,hes2⟩:∃ es2,es2=actS cs es (0,ps):=⟨_,rfl⟩
       obtain ⟨B,hBd⟩:∃ B,B=actB cs es (0,ps):=⟨_,rfl⟩
       obtain ⟨X,hXd⟩:∃ X,X=actE cs es (0,ps):=⟨_,rfl⟩
       rw [← hBd] at HXX hasm RC
       rw [← hes2] at HW5 RC
       rw [← hXd] at RC ⊢
       have HSB:=h_ hasm
       clear AC hst hx hw hO hp hes2 hBd hXd hM5 hxn hasm HWa HMa HB4 HX4 HLO hgm4 x0 x1
       obtain ⟨x0,x1⟩:=HX5.out.cells
       go_wp2_with fail
       refine RC.out.mono ?_
       rintro e w6 ⟨yv,rfl,hy,hm,hO2⟩
       obtain ⟨ay,ny,cy,rfl⟩:=hy.lit13
       have HB6:=h_ (HB5.out.trans (hO2.toBelow (B:=w.heap.size) (fun q hq=>by rw [hq];exact HM5.out.from_) HB5.out.size))
       have HW6:=h_ (HW5.out.only hO2 fun q _ h=>h)
       have HM6:=h_ hm
       have hxs:=(HXX.out.stay hO2 (fun q hq h=>HXN.out q hq h)).drew
       have s1:=str_later hxs (by have:=HSB.out;omega)
       have s2:=str_later hy.drew (by have:=HSB.out;omega)
       have SE:=h_ (writer_Seq HW6.out.drew)
       have MA:=h_ (writer_Many HW6.out.drew)
       obtain ⟨sv2,ev2,vv2,hbx,hTr,_⟩:=HM6.out.trace
       obtain ⟨_,_,e9,hR9,hZ9⟩:=hTr
       injection e9 with e9
       simp only [Array.mk.injEq,List.cons.injEq,and_true] at e9
       obtain ⟨rfl,rfl⟩:=e9
       obtain ⟨ae2,ne2,ce2,rfl⟩:=hZ9.lit
       have hle:=hZ9.len
       obtain ⟨sq2,hsq2⟩:∃ sq2,sq2=(trE cs es2).2.1:=⟨_,rfl⟩
       rw [← hsq2] at SE hbx
       obtain ⟨m2,hm2⟩:∃ m2,m2=es2.length:=⟨_,rfl⟩
       rw [← hm2] at MA hle
       have mc1:=fun x:Ord.GW w6.drew=>(hbx.later ((Below.refl w6.heap.size w6).drew.trans x.grew)).cells.2.1
       have mc2:=fun x:Ord.GW w6.drew=>(hbx.later ((Below.refl w6.heap.size w6).drew.trans x.grew)).cells.2.2.1
       clear hy hm hO2 hxs hbx hR9 hZ9 hsq2 hm2 RC HXX HXN HSB HW5 HM5 HB5 HX5 x0 x1 HPV HAO HL4
       go_wp2_with fail
       refine Ord.wp_region_ord [(0,false),(1,false),(2,false),(3,false),(4,false),(5,false),(6,false),(7,false),(8,false),(9,false),(10,false),(11,false),(13,false),(14,false),(15,false),(16,false),(12,true),(17,false),(18,false),(19,false),(20,false),(22,false),(23,false),(24,false),(25,false),(26,false),(27,false),(21,true),(28,false),(29,false)] (by kernel_rfl) rfl (by kernel_rfl) (by kernel_rfl) (fun _ _ _ d _ h=>by cases d <;> exact h) ?_
       refine Ord.ord_still rfl rfl (by kernel_rfl) (fun K hK=>?_)
       go_big_quiet_op
       refine hK _ ?_;clear hK K
       refine Ord.ord_still rfl rfl (by kernel_rfl) (fun K hK=>?_)
       go_big_quiet_op
       refine hK _ ?_;clear hK K
       refine Ord.ord_still rfl rfl (by kernel_rfl) (fun K hK=>?_)
       go_big_quiet_op
       refine hK _ ?_;clear hK K
       refine Ord.ord_still rfl rfl (by kernel_rfl) (fun K hK=>?_)
       go_big_quiet_op
       refine hK _ ?_;clear hK K
       refine Ord.ord_still rfl rfl (by kernel_rfl) (fun K hK=>?_)
       go_big_quiet_op
       refine hK _ ?_;clear hK K
       refine Ord.ord_still rfl rfl (by kernel_rfl) (fun K hK=>?_)
       go_big_quiet_op
       refine hK _ ?_;clear hK K
       refine Ord.ord_still rfl rfl (by kernel_rfl) (fun K hK=>?_)
       go_big_quiet_op
       refine hK _ ?_;clear hK K
       refine Ord.ord_still rfl rfl (by kernel_rfl) (fun K hK=>?_)
       go_big_quiet_op
       refine hK _ ?_;clear hK K
       refine Ord.ord_still rfl rfl (by kernel_rfl) (fun K hK=>?_)
       go_big_quiet_op
       refine hK _ ?_;clear hK K
       refine Ord.ord_still rfl rfl (by kernel_rfl) (fun K hK=>?_)
       go_big_quiet_op
       refine hK _ ?_;clear hK K
       refine Ord.ord_still rfl rfl (by kernel_rfl) (fun K hK=>?_)
       go_big_quiet_op
       refine hK _ ?_;clear hK K
       refine Ord.ord_still rfl rfl (by kernel_rfl) (fun K hK=>?_)
       go_big_quiet_op
       refine hK _ ?_;clear hK K
       refine Ord.ord_still rfl rfl (by kernel_rfl) (fun K hK=>?_)
       go_big_quiet_op
       refine hK _ ?_;clear hK K
       refine Ord.ord_still rfl rfl (by kernel_rfl) (fun K hK=>?_)
       go_big_quiet_op
       refine hK _ ?_;clear hK K
       refine Ord.ord_still rfl rfl (by kernel_rfl) (fun K hK=>?_)
       go_big_quiet_op
       refine hK _ ?_;clear hK K
       refine Ord.ord_still rfl rfl (by kernel_rfl) (fun K hK=>?_)
       go_big_quiet_op
       refine hK _ ?_;clear hK K
       refine Ord.ord_loud rfl (by kernel_rfl) (fun K hK=>?_)
       go_big_op
       refine SE.out.mono ?_
       rintro e wb ⟨rfl,rfl⟩
       refine hK _ _ (Ord.Grew.refl _) ?_
       clear hK K
       refine Ord.ord_still rfl rfl (by kernel_rfl) (fun K hK=>?_)
       go_big_quiet_op
       refine hK _ ?_;clear hK K
       refine Ord.ord_still rfl rfl (by kernel_rfl) (fun K hK=>?_)
       go_big_quiet_op
       refine hK _ ?_;clear hK K
       refine Ord.ord_still rfl rfl (by kernel_rfl) (fun K hK=>?_)
       go_big_quiet_op
       refine hK _ ?_;clear hK K
       refine Ord.ord_still rfl rfl (by kernel_rfl) (fun K hK=>?_)
       go_big_quiet_op
       refine hK _ ?_;clear hK K
       refine Ord.ord_still rfl rfl (by kernel_rfl) (fun K hK=>?_)
       go_big_quiet_op
       refine hK _ ?_;clear hK K
       refine Ord.ord_still rfl rfl (by kernel_rfl) (fun K hK=>?_)
       go_big_quiet_op
       refine hK _ ?_;clear hK K
       refine Ord.ord_still rfl rfl (by kernel_rfl) (fun K hK=>?_)
       go_big_quiet_op
       refine hK _ ?_;clear hK K
       refine Ord.ord_still rfl rfl (by kernel_rfl) (fun K hK=>?_)
       go_big_quiet_op
       refine hK _ ?_;clear hK K
       refine Ord.ord_still rfl rfl (by kernel_rfl) (fun K hK=>?_)
       go_big_quiet_op
       refine hK _ ?_;clear hK K
       refine Ord.ord_still rfl rfl (by kernel_rfl) (fun K hK=>?_)
       go_big_quiet_op
       refine hK _ ?_;clear hK K
       refine Ord.ord_loud rfl (by kernel_rfl) (fun K hK=>?_)
       go_big_op
       refine MA.out.mono ?_
       rintro e wb ⟨rfl,rfl⟩
       refine hK _ _ (Ord.Grew.refl _) ?_
       clear hK K
       refine Ord.ord_still rfl rfl (by kernel_rfl) (fun K hK=>?_)
       go_big_quiet_op
       refine hK _ ?_;clear hK K
       refine Ord.ord_still rfl rfl (by kernel_rfl) (fun K hK=>?_)
       go_big_quiet_op
       refine hK _ ?_;clear hK K
       refine Ord.ord_nil ?_
       have HW7:=h_ HW6.out.drew
       have HM7:=h_ HM6.out.drew
       have HB7:=h_ HB6.out.drew
       clear s1 s2 SE MA mc1 mc2 HW6 HM6 HB6
       go_wp2
       go_roundw
       case rel=>exact ⟨j + 1,es2,bn,by omega,by go_num,HW7,HM7,HB7⟩
       case measure=>simp [intOf];omega
      ·have q0:(kd == 0)=false:=by rw [beq_eq_false_iff_ne];exact hkd
       have AC:=h_ (writer_Snap w.heap.size g bw cs es ps (fun q=>q=gm) w4 HWa.out (fun q h=>by rw [h];exact HMa.out.lt) HAO.out.2 kd hkd (HT.out _ HB4.out) (HF.out _ HB4.out))
       have HKD:=h_ hkd
       clear hkd
       go_wp2_with fail
       rw [← HEB.out.1,← HEB.out.2]
       refine AC.out.mono ?_
       rintro e w5 hst
       obtain ⟨ax,nx,cx,bn,rfl,hx,hw,hO,hp⟩:=hst.slice14
       have HB5:=h_ (HB4.out.trans (HWa.out.below hO))
       have hgm4:gm < w4.heap.size:=HMa.out.lt
       have HW5:=h_ (hw.less (Q':=fun q=>q=gm) fun q h=>.inl h)
       have hM5:=(HMa.out.more (Q':=fun q=>(q=g∨bw.ownBlock=some q)∨(q=g∨bn.ownBlock=some q)) (fun q hq h=>by
        rcases h with h | h | h
        ·exact h
        ·exact .inl h
        ·rcases hp with e | hp
         ·rw [e] at h;exact .inr h
         ·have:=hp q h;omega)).only hO (fun q _ h=>.inl h)
       have HM5:=h_ (hM5.more (Q':=fun q=>q=g∨bn.ownBlock=some q) fun q _ h=>.inr h)
       have hxn:∀ q,(Value.slice ax nx cx).ownBlock=some q→¬ q=gm:=fun q hq e=>by have:=(hx.lt14 hq).1;omega
       have RC:=h_ (ref_Snap14 w.heap.size gm cs es ps (fun q=>q=g∨bn.ownBlock=some q) w5 HM5.out (fun q h=>h.elim (fun e=>by rw [e];exact HW5.out.lt) fun e=>(HW5.out.own.lt14 e).2) HAO.out.2 kd HKD.out)
       have HX5:=h_ (show Xbox w5 eb kd (.slice ap np cp) from hO.keep HX4.out fun hs=>HLO.out eb rfl hs)
       have hasm:=act_small cs es (kd,ps)
       have HXX:=h_ hx
       have HXN:=h_ hxn
       obtain ⟨es2,hes2⟩:∃ es2,es2=actS cs es (kd,ps):=⟨_,rfl⟩
       obtain ⟨B,hBd⟩:∃ B,B=actB cs es (kd,ps):=⟨_,rfl⟩
       obtain ⟨X,hXd⟩:∃ X,X=actE cs es (kd,ps):=⟨_,rfl⟩
       rw [← hBd] at HXX hasm RC
       rw [← hes2] at HW5 RC
       rw [← hXd] at RC ⊢
       have HSB:=h_ hasm
       clear AC hst hx hw hO hp hes2 hBd hXd hM5 hxn hasm HWa HMa HB4 HX4 HLO hgm4 x0 x1
       obtain ⟨x0,x1⟩:=HX5.out.cells
       go_wp2_with fail
       refine RC.out.mono ?_
       rintro e w6 ⟨yv,rfl,hy,hm,hO2⟩
       obtain ⟨ay,ny,cy,rfl⟩:=hy.lit13
       have HB6:=h_ (HB5.out.trans (hO2.toBelow (B:=w.heap.size) (fun q hq=>by rw [hq];exact HM5.out.from_) HB5.out.size))
       have HW6:=h_ (HW5.out.only hO2 fun q _ h=>h)
       have HM6:=h_ hm
       have hxs:=(HXX.out.stay hO2 (fun q hq h=>HXN.out q hq h)).drew
       have s1:=str_later hxs (by have:=HSB.out;omega)
       have s2:=str_later hy.drew (by have:=HSB.out;omega)
       have SE:=h_ (writer_Seq HW6.out.drew)
       have MA:=h_ (writer_Many HW6.out.drew)
       obtain ⟨sv2,ev2,vv2,hbx,hTr,_⟩:=HM6.out.trace
       obtain ⟨_,_,e9,hR9,hZ9⟩:=hTr
       injection e9 with e9
       simp only [Array.mk.injEq,List.cons.injEq,and_true] at e9
       obtain ⟨rfl,rfl⟩:=e9
       obtain ⟨ae2,ne2,ce2,rfl⟩:=hZ9.lit
       have hle:=hZ9.len
       obtain ⟨sq2,hsq2⟩:∃ sq2,sq2=(trE cs es2).2.1:=⟨_,rfl⟩
       rw [← hsq2] at SE hbx
       obtain ⟨m2,hm2⟩:∃ m2,m2=es2.length:=⟨_,rfl⟩
       rw [← hm2] at MA hle
       have mc1:=fun x:Ord.GW w6.drew=>(hbx.later ((Below.refl w6.heap.size w6).drew.trans x.grew)).cells.2.1
       have mc2:=fun x:Ord.GW w6.drew=>(hbx.later ((Below.refl w6.heap.size w6).drew.trans x.grew)).cells.2.2.1
       clear hy hm hO2 hxs hbx hR9 hZ9 hsq2 hm2 RC HXX HXN HSB HW5 HM5 HB5 HX5 x0 x1 HPV HAO HL4
       go_wp2_with fail
       refine Ord.wp_region_ord [(0,false),(1,false),(2,false),(3,false),(4,false),(5,false),(6,false),(7,false),(8,false),(9,false),(10,false),(11,false),(13,false),(14,false),(15,false),(16,false),(12,true),(17,false),(18,false),(19,false),(20,false),(22,false),(23,false),(24,false),(25,false),(26,false),(27,false),(21,true),(28,false),(29,false)] (by kernel_rfl) rfl (by kernel_rfl) (by kernel_rfl) (fun _ _ _ d _ h=>by cases d <;> exact h) ?_
       refine Ord.ord_still rfl rfl (by kernel_rfl) (fun K hK=>?_)
       go_big_quiet_op
       refine hK _ ?_;clear hK K
       refine Ord.ord_still rfl rfl (by kernel_rfl) (fun K hK=>?_)
       go_big_quiet_op
       refine hK _ ?_;clear hK K
       refine Ord.ord_still rfl rfl (by kernel_rfl) (fun K hK=>?_)
       go_big_quiet_op
       refine hK _ ?_;clear hK K
       refine Ord.ord_still rfl rfl (by kernel_rfl) (fun K hK=>?_)
       go_big_quiet_op
       refine hK _ ?_;clear hK K
       refine Ord.ord_still rfl rfl (by kernel_rfl) (fun K hK=>?_)
       go_big_quiet_op
       refine hK _ ?_;clear hK K
       refine Ord.ord_still rfl rfl (by kernel_rfl) (fun K hK=>?_)
       go_big_quiet_op
       refine hK _ ?_;clear hK K
       refine Ord.ord_still rfl rfl (by kernel_rfl) (fun K hK=>?_)
       go_big_quiet_op
       refine hK _ ?_;clear hK K
       refine Ord.ord_still rfl rfl (by kernel_rfl) (fun K hK=>?_)
       go_big_quiet_op
       refine hK _ ?_;clear hK K
       refine Ord.ord_still rfl rfl (by kernel_rfl) (fun K hK=>?_)
       go_big_quiet_op
       refine hK _ ?_;clear hK K
       refine Ord.ord_still rfl rfl (by kernel_rfl) (fun K hK=>?_)
       go_big_quiet_op
       refine hK _ ?_;clear hK K
       refine Ord.ord_still rfl rfl (by kernel_rfl) (fun K hK=>?_)
       go_big_quiet_op
       refine hK _ ?_;clear hK K
       refine Ord.ord_still rfl rfl (by kernel_rfl) (fun K hK=>?_)
       go_big_quiet_op
       refine hK _ ?_;clear hK K
       refine Ord.ord_still rfl rfl (by kernel_rfl) (fun K hK=>?_)
       go_big_quiet_op
       refine hK _ ?_;clear hK K
       refine Ord.ord_still rfl rfl (by kernel_rfl) (fun K hK=>?_)
       go_big_quiet_op
       refine hK _ ?_;clear hK K
       refine Ord.ord_still rfl rfl (by kernel_rfl) (fun K hK=>?_)
       go_big_quiet_op
       refine hK _ ?_;clear hK K
       refine Ord.ord_still rfl rfl (by kernel_rfl) (fun K hK=>?_)
       go_big_quiet_op
       refine hK _ ?_;clear hK K
       refine Ord.ord_loud rfl (by kernel_rfl) (fun K hK=>?_)
       go_big_op
       refine SE.out.mono ?_
       rintro e wb ⟨rfl,rfl⟩
       refine hK _ _ (Ord.Grew.refl _) ?_
       clear hK K
       refine Ord.ord_still rfl rfl (by kernel_rfl) (fun K hK=>?_)
       go_big_quiet_op
       refine hK _ ?_;clear hK K
       refine Ord.ord_still rfl rfl (by kernel_rfl) (fun K hK=>?_)
       go_big_quiet_op
       refine hK _ ?_;clear hK K
       refine Ord.ord_still rfl rfl (by kernel_rfl) (fun K hK=>?_)
       go_big_quiet_op
       refine hK _ ?_;clear hK K
       refine Ord.ord_still rfl rfl (by kernel_rfl) (fun K hK=>?_)
       go_big_quiet_op
       refine hK _ ?_;clear hK K
       refine Ord.ord_still rfl rfl (by kernel_rfl) (fun K hK=>?_)
       go_big_quiet_op
       refine hK _ ?_;clear hK K
       refine Ord.ord_still rfl rfl (by kernel_rfl) (fun K hK=>?_)
       go_big_quiet_op
       refine hK _ ?_;clear hK K
       refine Ord.ord_still rfl rfl (by kernel_rfl) (fun K hK=>?_)
       go_big_quiet_op
       refine hK _ ?_;clear hK K
       refine Ord.ord_still rfl rfl (by kernel_rfl) (fun K hK=>?_)
       go_big_quiet_op
       refine hK _ ?_;clear hK K
       refine Ord.ord_still rfl rfl (by kernel_rfl) (fun K hK=>?_)
       go_big_quiet_op
       refine hK _ ?_;clear hK K
       refine Ord.ord_still rfl rfl (by kernel_rfl) (fun K hK=>?_)
       go_big_quiet_op
       refine hK _ ?_;clear hK K
       refine Ord.ord_loud rfl (by kernel_rfl) (fun K hK=>?_)
       go_big_op
       refine MA.out.mono ?_
       rintro e wb ⟨rfl,rfl⟩
       refine hK _ _ (Ord.Grew.refl _) ?_
       clear hK K
       refine Ord.ord_still rfl rfl (by kernel_rfl) (fun K hK=>?_)
       go_big_quiet_op
       refine hK _ ?_;clear hK K
       refine Ord.ord_still rfl rfl (by kernel_rfl) (fun K hK=>?_)
       go_big_quiet_op
       refine hK _ ?_;clear hK K
       refine Ord.ord_nil ?_
       have HW7:=h_ HW6.out.drew
       have HM7:=h_ HM6.out.drew
       have HB7:=h_ HB6.out.drew
       clear s1 s2 SE MA mc1 mc2 HW6 HM6 HB6
       go_wp2
       go_roundw
       case rel=>exact ⟨j + 1,es2,bn,by omega,by go_num,HW7,HM7,HB7⟩
       case measure=>simp [intOf];omega
     ·obtain rfl:j=n:=by omega
      have SA:=h_ (law14_same HW.out HM.out)
      clear hlt
      go_wp2_with fail
      refine SA.out.mono ?_
      rintro e w5 ⟨rfl,hb⟩
      have HB5:=h_ (HB.out.trans (hb.mono HB.out.size))
      clear hb SA
      go_wp2
      go_ret
      exact ⟨rfl,HB5.out⟩
 ·clear hf
  go_wp2_with fail
  refine (AL.out w2 HB2.out).mono ?_
  rintro e w3 ⟨rfl,hb⟩
  have HB3:=h_ (HB2.out.trans (hb.mono HB2.out.size))
  clear hb
  go_wp2
  go_ret
  exact ⟨rfl,HB3.out⟩
end Go.Proofs.YtpcobefhgkiolaaGreatDoor
