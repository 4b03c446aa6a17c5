/- -/
import Derived.Test.YtpcobefhgkiolaaGreatDoorBWrtP
import Derived.Test.YtpcobefhgkiolaaGreatDoorBWrtL
import Derived.Test.YtpcobefhgkiolaaGreatDoorBBaseA
import Derived.Test.YtpcobefhgkiolaaGreatDoorBZSameW
set_option linter.unusedVariables false
set_option linter.unusedSimpArgs false
set_option maxRecDepth 1000000
namespace Go.Proofs.YtpcobefhgkiolaaGreatDoor
open Go.RowKit Go.Shelf
set_option maxHeartbeats 32000000 in
theorem writerRefuses_walk (sv:Value) (cs:List ColB) (v:Value) (l:List ActB) (w:World) (hR:RdC w sv cs) (hC:CS cs) (hA:RdA14 w v l) (hO:ACO l) (hU:(flat14 l).length≤1048576) (hT:Tabs w) (hF:Frs w) :
  Calls Tryz.prog 8 #[sv,v] w fun e w'=>e=.returned (.bool true)∧Below w.heap.size w w':=by
 obtain ⟨ac,nc,cc,rfl⟩:=hR.lit12
 obtain ⟨al,nl,cl,rfl⟩:=hA.lit
 have hlc:=hR.len
 have hlen:=hA.len
 have AL:=h_ (fun wz (hz:Below w.heap.size w wz)=>law14_alive wz (hT.later hz) (hF.later hz))
 have GR:=h_ (fun wz (hz:Below w.heap.size w wz)=>law14_great (.slice al nl cl) l wz (hA.later hz) hU)
 have HRC:=h_ (fun wz (hz:Below w.heap.size w wz)=>hR.later hz l_)
 have HA:=h_ hA
 have HT:=h_ (fun wz (hz:Below w.heap.size w wz)=>hT.later hz)
 have HF:=h_ (fun wz (hz:Below w.heap.size w wz)=>hF.later hz)
 have HC:=h_ hC
 have HO:=h_ hO
 obtain ⟨n,hn⟩:∃ n,n=l.length:=⟨_,rfl⟩
 rw [← hn] at hlen
 have HN:=h_ hn
 clear hR hC hA hO hU hT hF hn
 go_enter Tryz.func8,Tryz.ntmps8
 go_wp2_with fail
 refine (AL.out w (Below.refl _ _)).mono ?_
 rintro e w1 ⟨rfl,hb⟩
 have HB1:=h_ hb
 clear hb
 go_wp2_with fail
 refine (GR.out w1 HB1.out).mono ?_
 rintro e w2 ⟨y,rfl,hy,hf,hb⟩
 have HB2:=h_ (HB1.out.trans (hb.mono HB1.out.size))
 clear hb GR HB1
 rcases hy with rfl | rfl
 ·have HFEW:=h_ (hf rfl)
  have hn30:n≤30:=by rw [HN.out];exact HFEW.out.1
  clear hf
  by_cases h30:30 < cs.length
  ·have d3:decide ((cs.length:Int) > 30)=true:=decide_eq_true (by omega)
   clear h30
   go_wp2_with fail
   refine (AL.out w2 HB2.out).mono ?_
   rintro e w3 ⟨rfl,hb⟩
   have HB3:=h_ (HB2.out.trans (hb.mono HB2.out.size))
   clear hb
   go_wp2
   go_ret
   exact ⟨rfl,HB3.out⟩
  ·have d3:decide ((cs.length:Int) > 30)=false:=decide_eq_false (by omega)
   have NW:=h_ (writer_New (.slice ac nc cc) cs w2 (HRC.out w2 HB2.out) HC.out (HT.out w2 HB2.out))
   unfold NwO at NW
   obtain ⟨E,hE⟩:∃ E,E=errS (colsL cs):=⟨_,rfl⟩
   have HE:=h_ hE
   rw [← hE] at NW
   clear h30 AL hE
   go_wp2_with fail
   refine NW.out.mono ?_
   rintro e w3 ⟨v3,rfl,hb,hw⟩
   have HB3:=h_ (HB2.out.trans (hb.mono HB2.out.size))
   clear hb NW
   rcases hw with ⟨h0,rfl⟩ | ⟨h0,g,bv,rfl,hw⟩
   ·have q:((E:Int) != 0)=true:=by rw [bne_iff_ne];omega
    clear h0
    go_wp2
    go_ret
    exact ⟨rfl,HB3.out⟩
   ·subst h0
    have HW3:=h_ ((hw (fun _=>False) fun j h=>h.elim).lower HB2.out.size)
    clear hw
    go_wp2
    go_loopw [43] (fun i wr=>∃ (j:Nat) (es:List EntB) (bw:Value),j≤n∧i=.int .i64 j∧Hid (Wr wr w.heap.size g bw cs es fun _=>False)∧Hid (Below w.heap.size w wr)) (fun i _=>n - (intOf i).toNat)
    case atStart=>exact ⟨0,[],bv,by omega,rfl,HW3,HB3⟩
    case round =>
     clear HW3 HB3
     obtain ⟨j,es,bw,hj,rfl,HW,HB⟩:=hrel
     by_cases hlt:j < n
     ·have hkn:j < l.length:=by rw [← HN.out];exact hlt
      obtain ⟨b9,o9,pv,hidx,y0,y1,hpv,hbl⟩:=HA.out.get hkn
      have e0:=keep_cell HB.out y0
      have e1:=keep_cell HB.out y1
      have hao:=HO.out _ (getD_mem13 hkn default)
      have hl4:(l.getD j default).2.length≤4000:=by have h1:=flat14_one hkn;have h2:=HFEW.out.2.1;omega
      obtain ⟨a,hx⟩:∃ x,x=l.getD j default:=⟨_,rfl⟩
      rw [← hx] at e0 hpv hao hl4
      obtain ⟨kd,ps⟩:=a
      dsimp only at e0 e1 hpv hao hl4
      obtain ⟨ap,np,cp,rfl⟩:=hpv.lit12
      have N:=new_one12 wr (.cells #[.int .i64 kd,.slice ap np cp] 35)
      have HX4:=h_ (show Xbox (wr.alloc (.cells #[.int .i64 kd,.slice ap np cp] 35)) wr.heap.size kd (.slice ap np cp) from N.1)
      have HB4:=h_ (HB.out.trans (N.2.mono HB.out.size))
      have HW4:=h_ N.2
      have HPV:=h_ (fun wz (hz:Below w.heap.size w wz)=>hpv.later hz l_)
      have HAO:=h_ hao
      have HL4:=h_ hl4
      obtain ⟨x0,x1⟩:=HX4.out.cells
      obtain ⟨w4,hw4⟩:∃ w4,w4=wr.alloc (.cells #[.int .i64 kd,.slice ap np cp] 35):=⟨_,rfl⟩
      obtain ⟨eb,heb⟩:∃ eb,eb=wr.heap.size:=⟨_,rfl⟩
      have HEB:=h_ (And.intro hw4 heb)
      rw [← hw4,← heb] at HX4
      rw [← hw4] at HB4 HW4
      clear hkn y0 y1 hpv hao hl4 hx N hw4
      have HWa:=h_ (HW.out.later HW4.out)
      have BY:=h_ (fun wz (hz:Below w4.heap.size w4 wz)=>writer_Bytes (HWa.out.later hz))
      have SE:=h_ (fun wz (hz:Below w4.heap.size w4 wz)=>writer_Seq (HWa.out.later hz))
      have MA:=h_ (fun wz (hz:Below w4.heap.size w4 wz)=>writer_Many (HWa.out.later hz))
      have VW:=h_ (fun wz (hz:Below w4.heap.size w4 wz)=>writer_View (HWa.out.later hz))
      have HSM:=h_ (show (trE cs es).1.length≤140737488351232 from by have:=HWa.out.trs.small;omega)
      have HVL:=h_ (show (trE cs es).2.2.1.length≤140737488351232 from by have:=HWa.out.trs.set.few;omega)
      have hLsm:=HWa.out.trs.small
      obtain ⟨L,hL⟩:∃ L,L=(trE cs es).1:=⟨_,rfl⟩
      obtain ⟨sq,hsq⟩:∃ sq,sq=(trE cs es).2.1:=⟨_,rfl⟩
      obtain ⟨vw,hvw⟩:∃ vw,vw=(trE cs es).2.2.1:=⟨_,rfl⟩
      have HLd:=h_ (And.intro hL (And.intro hsq hvw))
      have hsr0:=HWa.out.trs.seq
      have hfew0:=HWa.out.trs.few
      rw [← hL] at BY HSM hLsm
      rw [← hsq] at SE hsr0
      rw [← hvw] at VW HVL
      have hbel:Below w4.heap.size w4 w4.drew:=(Below.refl _ _).drew
      clear HW HB hL hsq hvw
      go_wp2_with fail
      rw [← HEB.out.1,← HEB.out.2]
      refine Ord.wp_region_ord [(0,false),(3,false),(5,false),(7,false),(1,true),(2,false),(4,true),(6,true),(8,true),(9,false),(10,false),(11,false),(12,false)] (by kernel_rfl) rfl (by kernel_rfl) (by kernel_rfl) (fun _ _ _ d _ h=>by cases d <;> exact h) ?_
      refine Ord.ord_still rfl rfl (by kernel_rfl) (fun K hK=>?_)
      go_big_quiet_op
      refine hK _ ?_;clear hK K
      refine Ord.ord_still rfl rfl (by kernel_rfl) (fun K hK=>?_)
      go_big_quiet_op
      refine hK _ ?_;clear hK K
      refine Ord.ord_still rfl rfl (by kernel_rfl) (fun K hK=>?_)
      go_big_quiet_op
      refine hK _ ?_;clear hK K
      refine Ord.ord_still rfl rfl (by kernel_rfl) (fun K hK=>?_)
      go_big_quiet_op
      refine hK _ ?_;clear hK K
      refine Ord.ord_loud rfl (by kernel_rfl) (fun K hK=>?_)
      go_big_op
      refine (BY.out _ hbel).mono ?_
      rintro e wa ⟨va,rfl,ho,hb⟩
      have hs1:=str_later ho HSM.out
      clear ho
      replace hbel:=hbel.trans (hb.mono hbel.size)
      refine hK _ _ hb ?_
      clear hb
      clear hK K
      refine Ord.ord_still rfl rfl (by kernel_rfl) (fun K hK=>?_)
      go_big_quiet_op
      refine hK _ ?_;clear hK K
      refine Ord.ord_loud rfl (by kernel_rfl) (fun K hK=>?_)
      go_big_op
      refine (SE.out _ hbel).mono ?_
      rintro e wb ⟨rfl,rfl⟩
      refine hK _ _ (Ord.Grew.refl _) ?_
      clear hK K
      refine Ord.ord_loud rfl (by kernel_rfl) (fun K hK=>?_)
      go_big_op
      refine (MA.out _ hbel).mono ?_
      rintro e wb ⟨rfl,rfl⟩
      refine hK _ _ (Ord.Grew.refl _) ?_
      clear hK K
      refine Ord.ord_loud rfl (by kernel_rfl) (fun K hK=>?_)
      go_big_op
      refine (VW.out _ hbel).mono ?_
      rintro e wb ⟨vb,rfl,ho,hb⟩
      have HOV:=h_ (fun wz (hz:Only (fun j=>j=g∨bw.ownBlock=some j) wb wz)=>show RdP wz vb vw from ((ho.new HVL.out).only hz (fun q hq hs=>by
       rcases hs with hs | hs
       ·have:=(HWa.out.later hbel).lt;omega
       ·have:=((HWa.out.later hbel).own.lt14 hs).2;omega)).rd)
      replace hbel:=hbel.trans (hb.mono hbel.size)
      refine hK _ _ hb ?_
      clear hb ho
      clear hK K
      refine Ord.ord_still rfl rfl (by kernel_rfl) (fun K hK=>?_)
      go_big_quiet_op
      refine hK _ ?_;clear hK K
      refine Ord.ord_still rfl rfl (by kernel_rfl) (fun K hK=>?_)
      go_big_quiet_op
      refine hK _ ?_;clear hK K
      refine Ord.ord_still rfl rfl (by kernel_rfl) (fun K hK=>?_)
      go_big_quiet_op
      refine hK _ ?_;clear hK K
      refine Ord.ord_still rfl rfl (by kernel_rfl) (fun K hK=>?_)
      go_big_quiet_op
      refine hK _ ?_;clear hK K
      refine Ord.ord_nil ?_
      have HW5:=h_ (HWa.out.later hbel)
      have HB5:=h_ (HB4.out.trans (hbel.mono HB4.out.size))
      have HX5:=h_ (HX4.out.later hbel)
      clear hbel hs1 BY SE MA VW HWa HB4 HX4 x0 x1 heb
      obtain ⟨x0,x1⟩:=HX5.out.cells
      by_cases hkd:kd=0
      ·subst hkd
       have AC:=h_ (writer_Append w.heap.size g bw (.slice ap np cp) cs es ps (fun _=>False) wb HW5.out (fun j h=>h.elim) (HPV.out _ HB5.out) HAO.out.2 HL4.out (HT.out _ HB5.out) (HF.out _ HB5.out))
       go_wp2_with fail
       refine AC.out.mono ?_
       rintro e w7 hst
       obtain ⟨ax,nx,cx,bn,rfl,hx,hw,hO,hp⟩:=hst.slice14
       have HB7:=h_ (HB5.out.trans (HW5.out.below hO))
       have HW7:=h_ (hw.less (Q':=fun _=>False) fun j h=>h.elim)
       have hvw7:=HOV.out _ hO
       have hby:=act_bytes (a:=(0,ps)) HW5.out.trs HAO.out.2
       have hasm:=act_small cs es (0,ps)
       have hnsm:=HW7.out.trs.small
       have hno:=act_same (cs:=cs) (es:=es) (a:=(0,ps))
       have hsq:=act_seq (cs:=cs) (es:=es) (a:=(0,ps)) HW5.out.trs HAO.out.2
       have hmn:=act_many (cs:=cs) (es:=es) (a:=(0,ps))
       have hsr:=HW5.out.trs.seq
       have hfew:=HW5.out.trs.few
       obtain ⟨es2,hes2⟩:∃ es2,es2=actS cs es (0,ps):=⟨_,rfl⟩
       obtain ⟨B,hBd⟩:∃ B,B=actB cs es (0,ps):=⟨_,rfl⟩
       obtain ⟨X,hXd⟩:∃ X,X=actE cs es (0,ps):=⟨_,rfl⟩
       rw [← hBd] at hx hby hasm hno
       rw [← hes2] at HW7 hby hnsm hno hsq hmn
       rw [← hXd] at hno hsq hmn ⊢
       rw [← HLd.out.1] at hby
       rw [← HLd.out.2.1] at hsq hsr
       have hlx:=(hx.rd (by omega)).len
       have BY7:=h_ (fun wz (hz:Below w7.heap.size w7 wz)=>writer_Bytes (HW7.out.later hz))
       have SE7:=h_ (fun wz (hz:Below w7.heap.size w7 wz)=>writer_Seq (HW7.out.later hz))
       have MA7:=h_ (fun wz (hz:Below w7.heap.size w7 wz)=>writer_Many (HW7.out.later hz))
       have VW7:=h_ (fun wz (hz:Below w7.heap.size w7 wz)=>writer_View (HW7.out.later hz))
       clear AC hst hx hw hO hp hes2 hBd hXd HW5 HB5 HX5 x0 x1 HPV HAO HL4
       by_cases hX0:X=0
       ·subst hX0
        obtain ⟨q1,q2⟩:=hsq rfl
        have q3:=hmn rfl
        have hbl:(trE cs es2).1.length=L.length + B.length:=by rw [hby,List.length_append]
        have HS3:=h_ (And.intro q1 (And.intro q2 (And.intro q3 (And.intro hbl hnsm))))
        clear hno hsq hmn q1 q2 q3 hbl hby hnsm
        rw [HS3.out.2.2.1] at MA7
        obtain ⟨L2,hL2⟩:∃ L2,L2=(trE cs es2).1:=⟨_,rfl⟩
        obtain ⟨s2,hs2⟩:∃ s2,s2=(trE cs es2).2.1:=⟨_,rfl⟩
        rw [← hL2,← hs2] at HS3
        rw [← hL2] at BY7
        rw [← hs2] at SE7
        have hsz2:=HS3.out.2.2.2.2
        have hln2:=HS3.out.2.2.2.1
        have hq1:=HS3.out.1
        have hq2:=HS3.out.2.1
        clear hL2 hs2
        go_wp2_with fail
        refine (MA7.out w7 (Below.refl _ _)).mono ?_
        rintro e w8 ⟨rfl,rfl⟩
        go_wp2_with fail
        refine (BY7.out w7 (Below.refl _ _)).mono ?_
        rintro e w8 ⟨v8,rfl,ho8,hb8⟩
        obtain ⟨a8,n8,c8,rfl⟩:=ho8.lit13
        have hl8:=(ho8.rd (by omega)).len
        have hls:(L.toArray:Array UInt8).size=L.length:=by simp
        have dn:((L2.length:Int) != (L.length:Int) + (B.length:Int))=false:=by rw [hln2];simp
        clear ho8
        go_wp2_with fail
        refine (SE7.out w8 hb8).mono ?_
        rintro e w9 ⟨rfl,rfl⟩
        have d5:decide (s2 < sq)=false:=decide_eq_false (by omega)
        have d6:decide (s2 > sq + 1)=false:=decide_eq_false (by omega)
        go_wp2_with fail
        refine (SE7.out w8 hb8).mono ?_
        rintro e w9 ⟨rfl,rfl⟩
        have HW8:=h_ (HW7.out.later hb8)
        have HB8:=h_ (HB7.out.trans (hb8.mono HB7.out.size))
        clear hb8 BY7 SE7 MA7 VW7 HS3
        go_wp2
        go_roundw
        case rel=>exact ⟨j + 1,es2,bn,by omega,by go_num,HW8,HB8⟩
        case measure=>simp [intOf];omega
       ·obtain ⟨rfl,rfl⟩:=hno hX0
        have qX:((X:Int) != 0)=true:=by rw [bne_iff_ne];omega
        have qX2:((X:Int) == 0)=false:=by rw [beq_eq_false_iff_ne];omega
        rw [← HLd.out.1] at BY7
        rw [← HLd.out.2.1] at SE7
        rw [← HLd.out.2.2] at VW7
        clear hno hsq hmn hX0 hby hnsm hasm
        go_wp2_with fail
        refine (BY7.out w7 (Below.refl _ _)).mono ?_
        rintro e w8 ⟨v8,rfl,ho8,hb8⟩
        obtain ⟨a8,n8,c8,rfl⟩:=ho8.lit13
        have s8:=(ho8.rd HSM.out).str
        have SE8:=h_ (SE7.out w8 hb8)
        have MA8:=h_ (MA7.out w8 hb8)
        have VW8:=h_ (VW7.out w8 hb8)
        have HB8:=h_ (HB7.out.trans (hb8.mono HB7.out.size))
        have HB78:=h_ hb8
        clear ho8 hb8 BY7 SE7 MA7 VW7
        go_wp2_with fail
        refine SE8.out.mono ?_
        rintro e w9 ⟨rfl,rfl⟩
        go_wp2_with fail
        refine MA8.out.mono ?_
        rintro e w9 ⟨rfl,rfl⟩
        go_wp2_with fail
        refine VW8.out.mono ?_
        rintro e w9 ⟨v9,rfl,ho9,hb9⟩
        have hv9:=ho9.1.rd HVL.out
        obtain ⟨a9,n9,c9,rfl⟩:=hv9.lit12
        have SM:=h_ (zset_Same (.slice a9 n9 c9) vb vw vw w9 hv9 ((hvw7.later HB78.out l_).later hb9 l_))
        rw [decide_eq_true rfl] at SM
        have HB9:=h_ (HB8.out.trans (hb9.mono HB8.out.size))
        have HB79:=h_ (HB78.out.trans (hb9.mono HB78.out.size))
        clear ho9 hb9 hv9 SE8 MA8 VW8 s8
        go_wp2_with fail
        refine SM.out.mono ?_
        rintro e w10 ⟨rfl,hb10⟩
        have HB10:=h_ (HB9.out.trans (hb10.mono HB9.out.size))
        have HW10:=h_ ((HW7.out.later HB79.out).later hb10)
        clear hb10 SM
        go_wp2
        go_roundw
        case rel=>exact ⟨j + 1,_,bn,by omega,by go_num,HW10,HB10⟩
        case measure=>simp [intOf];omega
      ·have q0:(kd == 0)=false:=by rw [beq_eq_false_iff_ne];exact hkd
       have AC:=h_ (writer_Snap w.heap.size g bw cs es ps (fun _=>False) wb HW5.out (fun j h=>h.elim) HAO.out.2 kd hkd (HT.out _ HB5.out) (HF.out _ HB5.out))
       clear hkd
       go_wp2_with fail
       refine AC.out.mono ?_
       rintro e w7 hst
       obtain ⟨ax,nx,cx,bn,rfl,hx,hw,hO,hp⟩:=hst.slice14
       have HB7:=h_ (HB5.out.trans (HW5.out.below hO))
       have HW7:=h_ (hw.less (Q':=fun _=>False) fun j h=>h.elim)
       have hvw7:=HOV.out _ hO
       have hby:=act_bytes (a:=(kd,ps)) HW5.out.trs HAO.out.2
       have hasm:=act_small cs es (kd,ps)
       have hnsm:=HW7.out.trs.small
       have hno:=act_same (cs:=cs) (es:=es) (a:=(kd,ps))
       have hsq:=act_seq (cs:=cs) (es:=es) (a:=(kd,ps)) HW5.out.trs HAO.out.2
       have hmn:=act_many (cs:=cs) (es:=es) (a:=(kd,ps))
       have hsr:=HW5.out.trs.seq
       have hfew:=HW5.out.trs.few
       obtain ⟨es2,hes2⟩:∃ es2,es2=actS cs es (kd,ps):=⟨_,rfl⟩
       obtain ⟨B,hBd⟩:∃ B,B=actB cs es (kd,ps):=⟨_,rfl⟩
       obtain ⟨X,hXd⟩:∃ X,X=actE cs es (kd,ps):=⟨_,rfl⟩
       rw [← hBd] at hx hby hasm hno
       rw [← hes2] at HW7 hby hnsm hno hsq hmn
       rw [← hXd] at hno hsq hmn ⊢
       rw [← HLd.out.1] at hby
       rw [← HLd.out.2.1] at hsq hsr
       have hlx:=(hx.rd (by omega)).len
       have BY7:=h_ (fun wz (hz:Below w7.heap.size w7 wz)=>writer_Bytes (HW7.out.later hz))
       have SE7:=h_ (fun wz (hz:Below w7.heap.size w7 wz)=>writer_Seq (HW7.out.later hz))
       have MA7:=h_ (fun wz (hz:Below w7.heap.size w7 wz)=>writer_Many (HW7.out.later hz))
       have VW7:=h_ (fun wz (hz:Below w7.heap.size w7 wz)=>writer_View (HW7.out.later hz))
       clear AC hst hx hw hO hp hes2 hBd hXd HW5 HB5 HX5 x0 x1 HPV HAO HL4
       by_cases hX0:X=0
       ·subst hX0
        obtain ⟨q1,q2⟩:=hsq rfl
        have q3:=hmn rfl
        have hbl:(trE cs es2).1.length=L.length + B.length:=by rw [hby,List.length_append]
        have HS3:=h_ (And.intro q1 (And.intro q2 (And.intro q3 (And.intro hbl hnsm))))
        clear hno hsq hmn q1 q2 q3 hbl hby hnsm
        rw [HS3.out.2.2.1] at MA7
        obtain ⟨L2,hL2⟩:∃ L2,L2=(trE cs es2).1:=⟨_,rfl⟩
        obtain ⟨s2,hs2⟩:∃ s2,s2=(trE cs es2).2.1:=⟨_,rfl⟩
        rw [← hL2,← hs2] at HS3
        rw [← hL2] at BY7
        rw [← hs2] at SE7
        have hsz2:=HS3.out.2.2.2.2
        have hln2:=HS3.out.2.2.2.1
        have hq1:=HS3.out.1
        have hq2:=HS3.out.2.1
        clear hL2 hs2
        go_wp2_with fail
        refine (MA7.out w7 (Below.refl _ _)).mono ?_
        rintro e w8 ⟨rfl,rfl⟩
        go_wp2_with fail
        refine (BY7.out w7 (Below.refl _ _)).mono ?_
        rintro e w8 ⟨v8,rfl,ho8,hb8⟩
        obtain ⟨a8,n8,c8,rfl⟩:=ho8.lit13
        have hl8:=(ho8.rd (by omega)).len
        have hls:(L.toArray:Array UInt8).size=L.length:=by simp
        have dn:((L2.length:Int) != (L.length:Int) + (B.length:Int))=false:=by rw [hln2];simp
        clear ho8
        go_wp2_with fail
        refine (SE7.out w8 hb8).mono ?_
        rintro e w9 ⟨rfl,rfl⟩
        have d5:decide (s2 < sq)=false:=decide_eq_false (by omega)
        have d6:decide (s2 > sq + 1)=false:=decide_eq_false (by omega)
        go_wp2_with fail
        refine (SE7.out w8 hb8).mono ?_
        rintro e w9 ⟨rfl,rfl⟩
        have HW8:=h_ (HW7.out.later hb8)
        have HB8:=h_ (HB7.out.trans (hb8.mono HB7.out.size))
        clear hb8 BY7 SE7 MA7 VW7 HS3
        go_wp2
        go_roundw
        case rel=>exact ⟨j + 1,es2,bn,by omega,by go_num,HW8,HB8⟩
        case measure=>simp [intOf];omega
       ·obtain ⟨rfl,rfl⟩:=hno hX0
        have qX:((X:Int) != 0)=true:=by rw [bne_iff_ne];omega
        have qX2:((X:Int) == 0)=false:=by rw [beq_eq_false_iff_ne];omega
        rw [← HLd.out.1] at BY7
        rw [← HLd.out.2.1] at SE7
        rw [← HLd.out.2.2] at VW7
        clear hno hsq hmn hX0 hby hnsm hasm
        go_wp2_with fail
        refine (BY7.out w7 (Below.refl _ _)).mono ?_
        rintro e w8 ⟨v8,rfl,ho8,hb8⟩
        obtain ⟨a8,n8,c8,rfl⟩:=ho8.lit13
        have s8:=(ho8.rd HSM.out).str
        have SE8:=h_ (SE7.out w8 hb8)
        have MA8:=h_ (MA7.out w8 hb8)
        have VW8:=h_ (VW7.out w8 hb8)
        have HB8:=h_ (HB7.out.trans (hb8.mono HB7.out.size))
        have HB78:=h_ hb8
        clear ho8 hb8 BY7 SE7 MA7 VW7
        go_wp2_with fail
        refine SE8.out.mono ?_
        rintro e w9 ⟨rfl,rfl⟩
        go_wp2_with fail
        refine MA8.out.mono ?_
        rintro e w9 ⟨rfl,rfl⟩
        go_wp2_with fail
        refine VW8.out.mono ?_
        rintro e w9 ⟨v9,rfl,ho9,hb9⟩
        have hv9:=ho9.1.rd HVL.out
        obtain ⟨a9,n9,c9,rfl⟩:=hv9.lit12
        have SM:=h_ (zset_Same (.slice a9 n9 c9) vb vw vw w9 hv9 ((hvw7.later HB78.out l_).later hb9 l_))
        rw [decide_eq_true rfl] at SM
        have HB9:=h_ (HB8.out.trans (hb9.mono HB8.out.size))
        have HB79:=h_ (HB78.out.trans (hb9.mono HB78.out.size))
        clear ho9 hb9 hv9 SE8 MA8 VW8 s8
        go_wp2_with fail
        refine SM.out.mono ?_
        rintro e w10 ⟨rfl,hb10⟩
        have HB10:=h_ (HB9.out.trans (hb10.mono HB9.out.size))
        have HW10:=h_ ((HW7.out.later HB79.out).later hb10)
        clear hb10 SM
        go_wp2
        go_roundw
        case rel=>exact ⟨j + 1,_,bn,by omega,by go_num,HW10,HB10⟩
        case measure=>simp [intOf];omega
     ·obtain rfl:j=n:=by omega
      clear hlt
      go_wp2
      go_ret
      exact ⟨rfl,HB.out⟩
 ·clear hf
  go_wp2_with fail
  refine (AL.out w2 HB2.out).mono ?_
  rintro e w3 ⟨rfl,hb⟩
  have HB3:=h_ (HB2.out.trans (hb.mono HB2.out.size))
  clear hb
  go_wp2
  go_ret
  exact ⟨rfl,HB3.out⟩
end Go.Proofs.YtpcobefhgkiolaaGreatDoor
