/- -/
import Derived.Test.YtpcobefhgkiolaaGreatDoorBWrtP
import Derived.Test.YtpcobefhgkiolaaGreatDoorBWrtL
import Derived.Test.YtpcobefhgkiolaaGreatDoorBBaseA
import Derived.Test.YtpcobefhgkiolaaGreatDoorBTrcR
set_option linter.unusedVariables false
set_option linter.unusedSimpArgs false
set_option maxRecDepth 1000000
namespace Go.Proofs.YtpcobefhgkiolaaGreatDoor
open Go.RowKit Go.Shelf
set_option maxHeartbeats 32000000 in
theorem writerReopens_walk (sv:Value) (cs:List ColB) (v:Value) (l:List ActB) (a:Int) (w:World) (hR:RdC w sv cs) (hC:CS cs) (hA:RdA14 w v l) (hO:ACO l) (hU:(flat14 l).length≤1048576) (hat:0≤a∧a≤255) (hT:Tabs w) (hF:Frs w) :
  Calls Tryz.prog 7 #[sv,v,.int .u8 a] w fun e w'=>e=.returned (.bool true)∧Below w.heap.size w w':=by
 obtain ⟨ac,nc,cc,rfl⟩:=hR.lit12
 obtain ⟨al,nl,cl,rfl⟩:=hA.lit
 have hlc:=hR.len
 have hlen:=hA.len
 have AL:=h_ (fun wz (hz:Below w.heap.size w wz)=>law14_alive wz (hT.later hz) (hF.later hz))
 have GR:=h_ (fun wz (hz:Below w.heap.size w wz)=>law14_great (.slice al nl cl) l wz (hA.later hz) hU)
 have HRC:=h_ (fun wz (hz:Below w.heap.size w wz)=>hR.later hz l_)
 have HA:=h_ hA
 have HT:=h_ (fun wz (hz:Below w.heap.size w wz)=>hT.later hz)
 have HF:=h_ (fun wz (hz:Below w.heap.size w wz)=>hF.later hz)
 have HC:=h_ hC
 have HO:=h_ hO
 obtain ⟨n,hn⟩:∃ n,n=l.length:=⟨_,rfl⟩
 rw [← hn] at hlen
 have HN:=h_ hn
 clear hR hC hA hO hU hT hF hn
 go_enter Tryz.func7,Tryz.ntmps7
 go_wp2_with fail
 refine (AL.out w (Below.refl _ _)).mono ?_
 rintro e w1 ⟨rfl,hb⟩
 have HB1:=h_ hb
 clear hb
 go_wp2_with fail
 refine (GR.out w1 HB1.out).mono ?_
 rintro e w2 ⟨y,rfl,hy,hf,hb⟩
 have HB2:=h_ (HB1.out.trans (hb.mono HB1.out.size))
 clear hb GR HB1
 rcases hy with rfl | rfl
 ·have HFEW:=h_ (hf rfl)
  have hn30:n≤30:=by rw [HN.out];exact HFEW.out.1
  clear hf
  by_cases h30:30 < cs.length
  ·have d3:decide ((cs.length:Int) > 30)=true:=decide_eq_true (by omega)
   clear h30
   go_wp2_with fail
   refine (AL.out w2 HB2.out).mono ?_
   rintro e w3 ⟨rfl,hb⟩
   have HB3:=h_ (HB2.out.trans (hb.mono HB2.out.size))
   clear hb
   go_wp2
   go_ret
   exact ⟨rfl,HB3.out⟩
  ·have d3:decide ((cs.length:Int) > 30)=false:=decide_eq_false (by omega)
   have NW:=h_ (writer_New (.slice ac nc cc) cs w2 (HRC.out w2 HB2.out) HC.out (HT.out w2 HB2.out))
   unfold NwO at NW
   obtain ⟨E,hE⟩:∃ E,E=errS (colsL cs):=⟨_,rfl⟩
   have HE:=h_ hE
   rw [← hE] at NW
   clear h30 AL hE
   go_wp2_with fail
   refine NW.out.mono ?_
   rintro e w3 ⟨v3,rfl,hb,hw⟩
   have HB3:=h_ (HB2.out.trans (hb.mono HB2.out.size))
   clear hb NW
   rcases hw with ⟨h0,rfl⟩ | ⟨h0,g,bv,rfl,hw⟩
   ·have q:((E:Int) != 0)=true:=by rw [bne_iff_ne];omega
    clear h0
    go_wp2
    go_ret
    exact ⟨rfl,HB3.out⟩
   ·subst h0
    have HW3:=h_ ((hw (fun _=>False) fun j h=>h.elim).lower HB2.out.size)
    clear hw
    have BY:=h_ (writer_Bytes HW3.out)
    go_wp2_with fail
    refine BY.out.mono ?_
    rintro e w4 ⟨wv,rfl,ho,hb⟩
    obtain ⟨a4,n4,c4,rfl⟩:=ho.lit13
    have HW4:=h_ (HW3.out.later hb)
    have HB4:=h_ (HB3.out.trans (hb.mono HB3.out.size))
    have HO4:=h_ (ho.base (base':=w.heap.size) HB3.out.size)
    have HAP4:=h_ (show ∀ q,(Value.slice a4 n4 c4).ownBlock=some q→q≠g∧bv.ownBlock≠some q from fun q hq=>by
     have h1:=(ho.lt14 hq).1
     exact ⟨by have:=HW3.out.lt;omega,fun e=>by have:=(HW3.out.own.lt14 e).2;omega⟩)
    have hn1:((n:Int) + 1 == 0)=false:=by rw [beq_eq_false_iff_ne];omega
    clear ho hb BY HB3 HW3
    go_wp2
    obtain ⟨kk,hkk⟩:∃ kk,kk=a % ((n:Int) + 1):=⟨_,rfl⟩
    rw [← hkk]
    clear hkk
    go_loopw [7,9,56] (fun wp wv i wr=>∃ (j:Nat) (es:List EntB) (g:Nat) (bw:Value),j≤n∧i=.int .i64 j∧wp=.pointer (some ⟨g,0,none⟩)∧Hid (Wr wr w.heap.size g bw cs es fun _=>False)∧Hid (Own wr w.heap.size wv (trE cs es).1)∧Hid (∀ q,wv.ownBlock=some q→q≠g∧bw.ownBlock≠some q)∧Hid (Below w.heap.size w wr)) (fun _ _ i _=>n - (intOf i).toNat)
    case atStart=>exact ⟨0,[],g,bv,by omega,rfl,rfl,HW4,HO4,HAP4,HB4⟩
    case round =>
     clear HW4 HO4 HAP4 HB4
     obtain ⟨j,es,g,bw,hj,rfl,rfl,HW,HV,HAP,HB⟩:=hrel
     obtain ⟨a9,n9,c9,rfl⟩:=HV.out.lit13
     have hlw:=(HV.out.rd (by have:=HW.out.trs.small;omega)).len
     by_cases hlt:j < n
     ·have hkn:j < l.length:=by rw [← HN.out];exact hlt
      obtain ⟨b9,o9,pv,hidx,y0,y1,hpv,hbl⟩:=HA.out.get hkn
      have e0:=keep_cell HB.out y0
      have e1:=keep_cell HB.out y1
      have hao:=HO.out _ (getD_mem13 hkn default)
      have hl4:(l.getD j default).2.length≤4000:=by have h1:=flat14_one hkn;have h2:=HFEW.out.2.1;omega
      obtain ⟨a,hx⟩:∃ x,x=l.getD j default:=⟨_,rfl⟩
      rw [← hx] at e0 hpv hao hl4
      obtain ⟨kd,ps⟩:=a
      dsimp only at e0 e1 hpv hao hl4
      obtain ⟨ap,np,cp,rfl⟩:=hpv.lit12
      have N:=new_one12 wr (.cells #[.int .i64 kd,.slice ap np cp] 35)
      have HX4:=h_ (show Xbox (wr.alloc (.cells #[.int .i64 kd,.slice ap np cp] 35)) wr.heap.size kd (.slice ap np cp) from N.1)
      have HB4:=h_ (HB.out.trans (N.2.mono HB.out.size))
      have HW4:=h_ N.2
      have HPV:=h_ (fun wz (hz:Below w.heap.size w wz)=>hpv.later hz l_)
      have HAO:=h_ hao
      have HL4:=h_ hl4
      obtain ⟨x0,x1⟩:=HX4.out.cells
      obtain ⟨w4,hw4⟩:∃ w4,w4=wr.alloc (.cells #[.int .i64 kd,.slice ap np cp] 35):=⟨_,rfl⟩
      obtain ⟨eb,heb⟩:∃ eb,eb=wr.heap.size:=⟨_,rfl⟩
      have HEB:=h_ (And.intro hw4 heb)
      rw [← hw4,← heb] at HX4
      rw [← hw4] at HB4 HW4
      clear hkn y0 y1 hpv hao hl4 hx N hw4
      by_cases hjk:(j:Int)=kk
      ·subst hjk
       have BY:=h_ (writer_Bytes (HW.out.later HW4.out))
       go_wp2_with fail
       rw [← HEB.out.1,← HEB.out.2]
       refine BY.out.mono ?_
       rintro e w5 ⟨v5,rfl,ho,hb⟩
       obtain ⟨a5,n5,c5,rfl⟩:=ho.lit13
       have HB5:=h_ (HB4.out.trans (hb.mono HB4.out.size))
       have HX5:=h_ (HX4.out.later hb)
       have HV5:=h_ ((HV.out.later HW4.out l_).later hb l_)
       have HTR:=h_ HW.out.trs
       have OP:=h_ (writer_Open (.slice a5 n5 c5) (trE cs es).1 w5 (ho.rd (by have:=HTR.out.small;omega)) (by have:=HTR.out.small;omega) (HT.out w5 HB5.out) (HF.out w5 HB5.out))
       unfold OpO at OP
       rw [HTR.out.back.1,HTR.out.back.2.1,HTR.out.back.2.2.1,HTR.out.back.2.2.2] at OP
       clear ho hb BY x0 x1 HX4 HB4 HW4 HW HV HB HAP
       obtain ⟨Ln,hLn⟩:∃ Ln,Ln=(trE cs es).1.length:=⟨_,rfl⟩
       rw [← hLn] at OP hlw
       clear hLn
       obtain ⟨x0,x1⟩:=HX5.out.cells
       go_wp2_with fail
       refine OP.out.mono ?_
       rintro e w6 ⟨v6,rfl,hb,hw6⟩
       rcases hw6 with ⟨h9,_⟩ | ⟨_,g6,bw6,rfl,hW6⟩
       ·exact absurd rfl h9
       have HX6:=h_ (HX5.out.later hb)
       have HV6:=h_ (HV5.out.later hb l_)
       have HAP6:=h_ (show ∀ q,(Value.slice a9 n9 c9).ownBlock=some q→q≠g6∧bw6.ownBlock≠some q from fun q hq=>by
        have h1:=(HV5.out.lt14 hq).2
        exact ⟨by have:=hW6.from_;omega,fun e=>by have:=(hW6.own.lt14 e).1;omega⟩)
       have HW6:=h_ (hW6.lower HB5.out.size)
       have HB6:=h_ (HB5.out.trans (hb.mono HB5.out.size))
       clear hb hW6 OP x0 x1 HX5 HV5 HB5 HTR
       obtain ⟨x0,x1⟩:=(show Xbox w6 wr.heap.size kd (.slice ap np cp) from by rw [← HEB.out.2];exact HX6.out).cells
       by_cases hkd:kd=0
       ·subst hkd
        have AC:=h_ (writer_Append w.heap.size g6 bw6 (.slice ap np cp) cs es ps (fun _=>False) w6 HW6.out (fun j h=>h.elim) (HPV.out _ HB6.out) HAO.out.2 HL4.out (HT.out _ HB6.out) (HF.out _ HB6.out))
        go_wp2_with fail
        refine AC.out.mono ?_
        rintro e w7 hst
        obtain ⟨ax,nx,cx,bn,rfl,hx,hw,hO,hp⟩:=hst.slice14
        have HB7:=h_ (HB6.out.trans (HW6.out.below hO))
        have HW7:=h_ (hw.less (Q':=fun _=>False) fun j h=>h.elim)
        have hv7:=HV6.out.stay hO (fun q hq hs=>by
         have:=HAP6.out q hq
         rcases hs with hs | hs
         ·exact this.1 hs
         ·exact this.2 hs)
        have hby:=act_bytes (a:=(0,ps)) HW6.out.trs HAO.out.2
        have hasm:=act_small cs es (0,ps)
        have hesm:=HW6.out.trs.small
        have hnsm:=HW7.out.trs.small
        obtain ⟨es2,hes2⟩:∃ es2,es2=actS cs es (0,ps):=⟨_,rfl⟩
        obtain ⟨B,hBd⟩:∃ B,B=actB cs es (0,ps):=⟨_,rfl⟩
        rw [← hBd] at hx hby hasm
        rw [← hes2] at HW7 hby hnsm
        obtain ⟨L,hLd⟩:∃ L,L=(trE cs es).1:=⟨_,rfl⟩
        rw [← hLd] at hv7 hby hesm
        have HBY:=h_ hby
        have HSZ:=h_ (And.intro hasm (And.intro hesm hnsm))
        have ho8:=own_empty w7 w7.heap.size l_
        have hb8:=(Below.refl w7.heap.size w7).alloc l_ (.cells #[] 5)
        have hr8:=(hv7.rd (by omega)).later hb8 l_
        have HXX:=h_ (fun wz (hz:Below w7.heap.size w7 wz)=>(hx.rd (by omega)).later hz l_)
        have hs7:=HB7.out.size
        clear AC hst hx hw hO hp hby hasm hesm hnsm hes2 hBd hLd hv7 HW6 HV6 HAP6 HB6 HX6 x0 x1 HPV HAO HL4
        go_wp2_with (with_reducible refine wpl_appendPl w7.heap.size _ [] ?hs ho8 _ L ?hx hr8 ?hn ?hbase w7.heap.size w7 hb8 l_ ?_)
        case hs=>rfl
        case hx=>rfl
        case hn=>have:=HSZ.out;simp;omega
        case hbase=>simp
        intro v9 w9 ho9 hb9 _ _
        rw [List.nil_append] at ho9
        have hr9:=HXX.out w9 hb9
        clear ho8 hb8 hr8
        go_wp2_with (with_reducible refine wpl_appendPl w7.heap.size v9 L ?hs2 ho9 _ B ?hx2 hr9 ?hn2 ?hbase2 w7.heap.size w7 hb9 l_ ?_)
        case hs2=>rfl
        case hx2=>rfl
        case hn2=>have:=HSZ.out;omega
        case hbase2=>exact hb9.size
        intro v10 w10 ho10 hb10 _ _
        rw [← HBY.out] at ho10
        obtain ⟨a10,n10,c10,rfl⟩:=ho10.lit13
        have HW10:=h_ (HW7.out.later hb10)
        have HB10:=h_ (HB7.out.trans (hb10.mono hs7))
        have HV10:=h_ (ho10.base hs7)
        have HAP10:=h_ (show ∀ q,(Value.slice a10 n10 c10).ownBlock=some q→q≠g6∧bn.ownBlock≠some q from fun q hq=>by
         have h1:=(ho10.lt14 hq).1
         exact ⟨by have:=HW7.out.lt;omega,fun e=>by have:=(HW7.out.own.lt14 e).2;omega⟩)
        have HVR:=h_ (fun wz (hz:Below w10.heap.size w10 wz)=>(HV10.out.rd (by have:=HSZ.out;omega)).later hz l_)
        have BY:=h_ (fun wz (hz:Below w10.heap.size w10 wz)=>writer_Bytes (HW10.out.later hz))
        have HSM:=h_ (show (trE cs es2).1.length≤140737488351232 from by have:=HSZ.out;omega)
        clear ho9 hb9 hr9 ho10 hb10 HXX HW7 HB7 hs7
        go_wp2_with fail
        have hbel:Below w10.heap.size w10 w10.drew:=(Below.refl _ _).drew
        have hs2:=(HVR.out _ hbel).str_later
        refine Ord.wp_region_ord [(0,false),(3,false),(4,false),(1,true),(2,false),(5,false)] (by kernel_rfl) rfl (by kernel_rfl) (by kernel_rfl) (fun _ _ _ d _ h=>by cases d <;> exact h) ?_
        refine Ord.ord_still rfl rfl (by kernel_rfl) (fun K hK=>?_)
        go_big_quiet_op
        refine hK _ ?_;clear hK K
        refine Ord.ord_still rfl rfl (by kernel_rfl) (fun K hK=>?_)
        go_big_quiet_op
        refine hK _ ?_;clear hK K
        refine Ord.ord_still rfl rfl (by kernel_rfl) (fun K hK=>?_)
        go_big_quiet_op
        refine hK _ ?_;clear hK K
        refine Ord.ord_loud rfl (by kernel_rfl) (fun K hK=>?_)
        go_big_op
        refine (BY.out _ hbel).mono ?_
        rintro e w11 ⟨v11,rfl,ho,hb⟩
        have hs1:=str_later ho HSM.out
        clear hs2
        have hs2:=(HVR.out _ (hbel.trans (hb.mono hbel.size))).str_later
        clear ho
        replace hbel:=hbel.trans (hb.mono hbel.size)
        refine hK _ _ hb ?_
        clear hb
        clear hK K
        refine Ord.ord_still rfl rfl (by kernel_rfl) (fun K hK=>?_)
        go_big_quiet_op
        refine hK _ ?_;clear hK K
        refine Ord.ord_still rfl rfl (by kernel_rfl) (fun K hK=>?_)
        go_big_quiet_op
        refine hK _ ?_;clear hK K
        refine Ord.ord_nil ?_
        have HW11:=h_ (HW10.out.later hbel)
        have HV11:=h_ (HV10.out.later hbel l_)
        have HB11:=h_ (HB10.out.trans (hbel.mono HB10.out.size))
        clear hbel hs1 hs2 BY HVR HSM HSZ HW10 HV10 HB10
        go_wp2
        go_roundw
        case rel=>exact ⟨j + 1,es2,g6,bn,by omega,by go_num,rfl,HW11,HV11,HAP10,HB11⟩
        case measure=>simp [intOf];omega
       ·have q0:(kd == 0)=false:=by rw [beq_eq_false_iff_ne];exact hkd
        have AC:=h_ (writer_Snap w.heap.size g6 bw6 cs es ps (fun _=>False) w6 HW6.out (fun j h=>h.elim) HAO.out.2 kd hkd (HT.out _ HB6.out) (HF.out _ HB6.out))
        clear hkd
        go_wp2_with fail
        refine AC.out.mono ?_
        rintro e w7 hst
        obtain ⟨ax,nx,cx,bn,rfl,hx,hw,hO,hp⟩:=hst.slice14
        have HB7:=h_ (HB6.out.trans (HW6.out.below hO))
        have HW7:=h_ (hw.less (Q':=fun _=>False) fun j h=>h.elim)
        have hv7:=HV6.out.stay hO (fun q hq hs=>by
         have:=HAP6.out q hq
         rcases hs with hs | hs
         ·exact this.1 hs
         ·exact this.2 hs)
        have hby:=act_bytes (a:=(kd,ps)) HW6.out.trs HAO.out.2
        have hasm:=act_small cs es (kd,ps)
        have hesm:=HW6.out.trs.small
        have hnsm:=HW7.out.trs.small
        obtain ⟨es2,hes2⟩:∃ es2,es2=actS cs es (kd,ps):=⟨_,rfl⟩
        obtain ⟨B,hBd⟩:∃ B,B=actB cs es (kd,ps):=⟨_,rfl⟩
        rw [← hBd] at hx hby hasm
        rw [← hes2] at HW7 hby hnsm
        obtain ⟨L,hLd⟩:∃ L,L=(trE cs es).1:=⟨_,rfl⟩
        rw [← hLd] at hv7 hby hesm
        have HBY:=h_ hby
        have HSZ:=h_ (And.intro hasm (And.intro hesm hnsm))
        have ho8:=own_empty w7 w7.heap.size l_
        have hb8:=(Below.refl w7.heap.size w7).alloc l_ (.cells #[] 5)
        have hr8:=(hv7.rd (by omega)).later hb8 l_
        have HXX:=h_ (fun wz (hz:Below w7.heap.size w7 wz)=>(hx.rd (by omega)).later hz l_)
        have hs7:=HB7.out.size
        clear AC hst hx hw hO hp hby hasm hesm hnsm hes2 hBd hLd hv7 HW6 HV6 HAP6 HB6 HX6 x0 x1 HPV HAO HL4
        go_wp2_with (with_reducible refine wpl_appendPl w7.heap.size _ [] ?hs ho8 _ L ?hx hr8 ?hn ?hbase w7.heap.size w7 hb8 l_ ?_)
        case hs=>rfl
        case hx=>rfl
        case hn=>have:=HSZ.out;simp;omega
        case hbase=>simp
        intro v9 w9 ho9 hb9 _ _
        rw [List.nil_append] at ho9
        have hr9:=HXX.out w9 hb9
        clear ho8 hb8 hr8
        go_wp2_with (with_reducible refine wpl_appendPl w7.heap.size v9 L ?hs2 ho9 _ B ?hx2 hr9 ?hn2 ?hbase2 w7.heap.size w7 hb9 l_ ?_)
        case hs2=>rfl
        case hx2=>rfl
        case hn2=>have:=HSZ.out;omega
        case hbase2=>exact hb9.size
        intro v10 w10 ho10 hb10 _ _
        rw [← HBY.out] at ho10
        obtain ⟨a10,n10,c10,rfl⟩:=ho10.lit13
        have HW10:=h_ (HW7.out.later hb10)
        have HB10:=h_ (HB7.out.trans (hb10.mono hs7))
        have HV10:=h_ (ho10.base hs7)
        have HAP10:=h_ (show ∀ q,(Value.slice a10 n10 c10).ownBlock=some q→q≠g6∧bn.ownBlock≠some q from fun q hq=>by
         have h1:=(ho10.lt14 hq).1
         exact ⟨by have:=HW7.out.lt;omega,fun e=>by have:=(HW7.out.own.lt14 e).2;omega⟩)
        have HVR:=h_ (fun wz (hz:Below w10.heap.size w10 wz)=>(HV10.out.rd (by have:=HSZ.out;omega)).later hz l_)
        have BY:=h_ (fun wz (hz:Below w10.heap.size w10 wz)=>writer_Bytes (HW10.out.later hz))
        have HSM:=h_ (show (trE cs es2).1.length≤140737488351232 from by have:=HSZ.out;omega)
        clear ho9 hb9 hr9 ho10 hb10 HXX HW7 HB7 hs7
        go_wp2_with fail
        have hbel:Below w10.heap.size w10 w10.drew:=(Below.refl _ _).drew
        have hs2:=(HVR.out _ hbel).str_later
        refine Ord.wp_region_ord [(0,false),(3,false),(4,false),(1,true),(2,false),(5,false)] (by kernel_rfl) rfl (by kernel_rfl) (by kernel_rfl) (fun _ _ _ d _ h=>by cases d <;> exact h) ?_
        refine Ord.ord_still rfl rfl (by kernel_rfl) (fun K hK=>?_)
        go_big_quiet_op
        refine hK _ ?_;clear hK K
        refine Ord.ord_still rfl rfl (by kernel_rfl) (fun K hK=>?_)
        go_big_quiet_op
        refine hK _ ?_;clear hK K
        refine Ord.ord_still rfl rfl (by kernel_rfl) (fun K hK=>?_)
        go_big_quiet_op
        refine hK _ ?_;clear hK K
        refine Ord.ord_loud rfl (by kernel_rfl) (fun K hK=>?_)
        go_big_op
        refine (BY.out _ hbel).mono ?_
        rintro e w11 ⟨v11,rfl,ho,hb⟩
        have hs1:=str_later ho HSM.out
        clear hs2
        have hs2:=(HVR.out _ (hbel.trans (hb.mono hbel.size))).str_later
        clear ho
        replace hbel:=hbel.trans (hb.mono hbel.size)
        refine hK _ _ hb ?_
        clear hb
        clear hK K
        refine Ord.ord_still rfl rfl (by kernel_rfl) (fun K hK=>?_)
        go_big_quiet_op
        refine hK _ ?_;clear hK K
        refine Ord.ord_still rfl rfl (by kernel_rfl) (fun K hK=>?_)
        go_big_quiet_op
        refine hK _ ?_;clear hK K
        refine Ord.ord_nil ?_
        have HW11:=h_ (HW10.out.later hbel)
        have HV11:=h_ (HV10.out.later hbel l_)
        have HB11:=h_ (HB10.out.trans (hbel.mono HB10.out.size))
        clear hbel hs1 hs2 BY HVR HSM HSZ HW10 HV10 HB10
        go_wp2
        go_roundw
        case rel=>exact ⟨j + 1,es2,g6,bn,by omega,by go_num,rfl,HW11,HV11,HAP10,HB11⟩
        case measure=>simp [intOf];omega
      ·have qj:((j:Int) == kk)=false:=by rw [beq_eq_false_iff_ne];exact hjk
       have HW5:=h_ (HW.out.later HW4.out)
       have HV5:=h_ (HV.out.later HW4.out l_)
       clear hjk HW HV HB hlw
       by_cases hkd:kd=0
       ·subst hkd
        have AC:=h_ (writer_Append w.heap.size g bw (.slice ap np cp) cs es ps (fun _=>False) w4 HW5.out (fun j h=>h.elim) (HPV.out _ HB4.out) HAO.out.2 HL4.out (HT.out _ HB4.out) (HF.out _ HB4.out))
        go_wp2_with fail
        rw [← HEB.out.1,← HEB.out.2]
        refine AC.out.mono ?_
        rintro e w7 hst
        obtain ⟨ax,nx,cx,bn,rfl,hx,hw,hO,hp⟩:=hst.slice14
        have HB7:=h_ (HB4.out.trans (HW5.out.below hO))
        have HW7:=h_ (hw.less (Q':=fun _=>False) fun j h=>h.elim)
        have hv7:=HV5.out.stay hO (fun q hq hs=>by
         have:=HAP.out q hq
         rcases hs with hs | hs
         ·exact this.1 hs
         ·exact this.2 hs)
        have hby:=act_bytes (a:=(0,ps)) HW5.out.trs HAO.out.2
        have hasm:=act_small cs es (0,ps)
        have hesm:=HW5.out.trs.small
        have hnsm:=HW7.out.trs.small
        obtain ⟨es2,hes2⟩:∃ es2,es2=actS cs es (0,ps):=⟨_,rfl⟩
        obtain ⟨B,hBd⟩:∃ B,B=actB cs es (0,ps):=⟨_,rfl⟩
        rw [← hBd] at hx hby hasm
        rw [← hes2] at HW7 hby hnsm
        obtain ⟨L,hLd⟩:∃ L,L=(trE cs es).1:=⟨_,rfl⟩
        rw [← hLd] at hv7 hby hesm
        have HBY:=h_ hby
        have HSZ:=h_ (And.intro hasm (And.intro hesm hnsm))
        have ho8:=own_empty w7 w7.heap.size l_
        have hb8:=(Below.refl w7.heap.size w7).alloc l_ (.cells #[] 5)
        have hr8:=(hv7.rd (by omega)).later hb8 l_
        have HXX:=h_ (fun wz (hz:Below w7.heap.size w7 wz)=>(hx.rd (by omega)).later hz l_)
        have hs7:=HB7.out.size
        clear AC hst hx hw hO hp hby hasm hesm hnsm hes2 hBd hLd hv7 HW5 HV5 HAP HB4 HX4 x0 x1 HPV HAO HL4
        go_wp2_with (with_reducible refine wpl_appendPl w7.heap.size _ [] ?hs ho8 _ L ?hx hr8 ?hn ?hbase w7.heap.size w7 hb8 l_ ?_)
        case hs=>rfl
        case hx=>rfl
        case hn=>have:=HSZ.out;simp;omega
        case hbase=>simp
        intro v9 w9 ho9 hb9 _ _
        rw [List.nil_append] at ho9
        have hr9:=HXX.out w9 hb9
        clear ho8 hb8 hr8
        go_wp2_with (with_reducible refine wpl_appendPl w7.heap.size v9 L ?hs2 ho9 _ B ?hx2 hr9 ?hn2 ?hbase2 w7.heap.size w7 hb9 l_ ?_)
        case hs2=>rfl
        case hx2=>rfl
        case hn2=>have:=HSZ.out;omega
        case hbase2=>exact hb9.size
        intro v10 w10 ho10 hb10 _ _
        rw [← HBY.out] at ho10
        obtain ⟨a10,n10,c10,rfl⟩:=ho10.lit13
        have HW10:=h_ (HW7.out.later hb10)
        have HB10:=h_ (HB7.out.trans (hb10.mono hs7))
        have HV10:=h_ (ho10.base hs7)
        have HAP10:=h_ (show ∀ q,(Value.slice a10 n10 c10).ownBlock=some q→q≠g∧bn.ownBlock≠some q from fun q hq=>by
         have h1:=(ho10.lt14 hq).1
         exact ⟨by have:=HW7.out.lt;omega,fun e=>by have:=(HW7.out.own.lt14 e).2;omega⟩)
        have HVR:=h_ (fun wz (hz:Below w10.heap.size w10 wz)=>(HV10.out.rd (by have:=HSZ.out;omega)).later hz l_)
        have BY:=h_ (fun wz (hz:Below w10.heap.size w10 wz)=>writer_Bytes (HW10.out.later hz))
        have HSM:=h_ (show (trE cs es2).1.length≤140737488351232 from by have:=HSZ.out;omega)
        clear ho9 hb9 hr9 ho10 hb10 HXX HW7 HB7 hs7
        go_wp2_with fail
        have hbel:Below w10.heap.size w10 w10.drew:=(Below.refl _ _).drew
        have hs2:=(HVR.out _ hbel).str_later
        refine Ord.wp_region_ord [(0,false),(3,false),(4,false),(1,true),(2,false),(5,false)] (by kernel_rfl) rfl (by kernel_rfl) (by kernel_rfl) (fun _ _ _ d _ h=>by cases d <;> exact h) ?_
        refine Ord.ord_still rfl rfl (by kernel_rfl) (fun K hK=>?_)
        go_big_quiet_op
        refine hK _ ?_;clear hK K
        refine Ord.ord_still rfl rfl (by kernel_rfl) (fun K hK=>?_)
        go_big_quiet_op
        refine hK _ ?_;clear hK K
        refine Ord.ord_still rfl rfl (by kernel_rfl) (fun K hK=>?_)
        go_big_quiet_op
        refine hK _ ?_;clear hK K
        refine Ord.ord_loud rfl (by kernel_rfl) (fun K hK=>?_)
        go_big_op
        refine (BY.out _ hbel).mono ?_
        rintro e w11 ⟨v11,rfl,ho,hb⟩
        have hs1:=str_later ho HSM.out
        clear hs2
        have hs2:=(HVR.out _ (hbel.trans (hb.mono hbel.size))).str_later
        clear ho
        replace hbel:=hbel.trans (hb.mono hbel.size)
        refine hK _ _ hb ?_
        clear hb
        clear hK K
        refine Ord.ord_still rfl rfl (by kernel_rfl) (fun K hK=>?_)
        go_big_quiet_op
        refine hK _ ?_;clear hK K
        refine Ord.ord_still rfl rfl (by kernel_rfl) (fun K hK=>?_)
        go_big_quiet_op
        refine hK _ ?_;clear hK K
        refine Ord.ord_nil ?_
        have HW11:=h_ (HW10.out.later hbel)
        have HV11:=h_ (HV10.out.later hbel l_)
        have HB11:=h_ (HB10.out.trans (hbel.mono HB10.out.size))
        clear hbel hs1 hs2 BY HVR HSM HSZ HW10 HV10 HB10
        go_wp2
        go_roundw
        case rel=>exact ⟨j + 1,es2,g,bn,by omega,by go_num,rfl,HW11,HV11,HAP10,HB11⟩
        case measure=>simp [intOf];omega
       ·have q0:(kd == 0)=false:=by rw [beq_eq_false_iff_ne];exact hkd
        have AC:=h_ (writer_Snap w.heap.size g bw cs es ps (fun _=>False) w4 HW5.out (fun j h=>h.elim) HAO.out.2 kd hkd (HT.out _ HB4.out) (HF.out _ HB4.out))
        clear hkd
        go_wp2_with fail
        rw [← HEB.out.1,← HEB.out.2]
        refine AC.out.mono ?_
        rintro e w7 hst
        obtain ⟨ax,nx,cx,bn,rfl,hx,hw,hO,hp⟩:=hst.slice14
        have HB7:=h_ (HB4.out.trans (HW5.out.below hO))
        have HW7:=h_ (hw.less (Q':=fun _=>False) fun j h=>h.elim)
        have hv7:=HV5.out.stay hO (fun q hq hs=>by
         have:=HAP.out q hq
         rcases hs with hs | hs
         ·exact this.1 hs
         ·exact this.2 hs)
        have hby:=act_bytes (a:=(kd,ps)) HW5.out.trs HAO.out.2
        have hasm:=act_small cs es (kd,ps)
        have hesm:=HW5.out.trs.small
        have hnsm:=HW7.out.trs.small
        obtain ⟨es2,hes2⟩:∃ es2,es2=actS cs es (kd,ps):=⟨_,rfl⟩
        obtain ⟨B,hBd⟩:∃ B,B=actB cs es (kd,ps):=⟨_,rfl⟩
        rw [← hBd] at hx hby hasm
        rw [← hes2] at HW7 hby hnsm
        obtain ⟨L,hLd⟩:∃ L,L=(trE cs es).1:=⟨_,rfl⟩
        rw [← hLd] at hv7 hby hesm
        have HBY:=h_ hby
        have HSZ:=h_ (And.intro hasm (And.intro hesm hnsm))
        have ho8:=own_empty w7 w7.heap.size l_
        have hb8:=(Below.refl w7.heap.size w7).alloc l_ (.cells #[] 5)
        have hr8:=(hv7.rd (by omega)).later hb8 l_
        have HXX:=h_ (fun wz (hz:Below w7.heap.size w7 wz)=>(hx.rd (by omega)).later hz l_)
        have hs7:=HB7.out.size
        clear AC hst hx hw hO hp hby hasm hesm hnsm hes2 hBd hLd hv7 HW5 HV5 HAP HB4 HX4 x0 x1 HPV HAO HL4
        go_wp2_with (with_reducible refine wpl_appendPl w7.heap.size _ [] ?hs ho8 _ L ?hx hr8 ?hn ?hbase w7.heap.size w7 hb8 l_ ?_)
        case hs=>rfl
        case hx=>rfl
        case hn=>have:=HSZ.out;simp;omega
        case hbase=>simp
        intro v9 w9 ho9 hb9 _ _
        rw [List.nil_append] at ho9
        have hr9:=HXX.out w9 hb9
        clear ho8 hb8 hr8
        go_wp2_with (with_reducible refine wpl_appendPl w7.heap.size v9 L ?hs2 ho9 _ B ?hx2 hr9 ?hn2 ?hbase2 w7.heap.size w7 hb9 l_ ?_)
        case hs2=>rfl
        case hx2=>rfl
        case hn2=>have:=HSZ.out;omega
        case hbase2=>exact hb9.size
        intro v10 w10 ho10 hb10 _ _
        rw [← HBY.out] at ho10
        obtain ⟨a10,n10,c10,rfl⟩:=ho10.lit13
        have HW10:=h_ (HW7.out.later hb10)
        have HB10:=h_ (HB7.out.trans (hb10.mono hs7))
        have HV10:=h_ (ho10.base hs7)
        have HAP10:=h_ (show ∀ q,(Value.slice a10 n10 c10).ownBlock=some q→q≠g∧bn.ownBlock≠some q from fun q hq=>by
         have h1:=(ho10.lt14 hq).1
         exact ⟨by have:=HW7.out.lt;omega,fun e=>by have:=(HW7.out.own.lt14 e).2;omega⟩)
        have HVR:=h_ (fun wz (hz:Below w10.heap.size w10 wz)=>(HV10.out.rd (by have:=HSZ.out;omega)).later hz l_)
        have BY:=h_ (fun wz (hz:Below w10.heap.size w10 wz)=>writer_Bytes (HW10.out.later hz))
        have HSM:=h_ (show (trE cs es2).1.length≤140737488351232 from by have:=HSZ.out;omega)
        clear ho9 hb9 hr9 ho10 hb10 HXX HW7 HB7 hs7
        go_wp2_with fail
        have hbel:Below w10.heap.size w10 w10.drew:=(Below.refl _ _).drew
        have hs2:=(HVR.out _ hbel).str_later
        refine Ord.wp_region_ord [(0,false),(3,false),(4,false),(1,true),(2,false),(5,false)] (by kernel_rfl) rfl (by kernel_rfl) (by kernel_rfl) (fun _ _ _ d _ h=>by cases d <;> exact h) ?_
        refine Ord.ord_still rfl rfl (by kernel_rfl) (fun K hK=>?_)
        go_big_quiet_op
        refine hK _ ?_;clear hK K
        refine Ord.ord_still rfl rfl (by kernel_rfl) (fun K hK=>?_)
        go_big_quiet_op
        refine hK _ ?_;clear hK K
        refine Ord.ord_still rfl rfl (by kernel_rfl) (fun K hK=>?_)
        go_big_quiet_op
        refine hK _ ?_;clear hK K
        refine Ord.ord_loud rfl (by kernel_rfl) (fun K hK=>?_)
        go_big_op
        refine (BY.out _ hbel).mono ?_
        rintro e w11 ⟨v11,rfl,ho,hb⟩
        have hs1:=str_later ho HSM.out
        clear hs2
        have hs2:=(HVR.out _ (hbel.trans (hb.mono hbel.size))).str_later
        clear ho
        replace hbel:=hbel.trans (hb.mono hbel.size)
        refine hK _ _ hb ?_
        clear hb
        clear hK K
        refine Ord.ord_still rfl rfl (by kernel_rfl) (fun K hK=>?_)
        go_big_quiet_op
        refine hK _ ?_;clear hK K
        refine Ord.ord_still rfl rfl (by kernel_rfl) (fun K hK=>?_)
        go_big_quiet_op
        refine hK _ ?_;clear hK K
        refine Ord.ord_nil ?_
        have HW11:=h_ (HW10.out.later hbel)
        have HV11:=h_ (HV10.out.later hbel l_)
        have HB11:=h_ (HB10.out.trans (hbel.mono HB10.out.size))
        clear hbel hs1 hs2 BY HVR HSM HSZ HW10 HV10 HB10
        go_wp2
        go_roundw
        case rel=>exact ⟨j + 1,es2,g,bn,by omega,by go_num,rfl,HW11,HV11,HAP10,HB11⟩
        case measure=>simp [intOf];omega
     ·obtain rfl:j=n:=by omega
      have HTR:=h_ HW.out.trs
      have DC:=h_ (trace_Decode (.slice a9 n9 c9) (trE cs es).1 wr (HV.out.rd (by have:=HTR.out.small;omega)) (HT.out wr HB.out) (HF.out wr HB.out))
      unfold DcO13 at DC
      rw [HTR.out.back.1,HTR.out.back.2.1,HTR.out.back.2.2.1,HTR.out.back.2.2.2] at DC
      clear hlt HV
      go_wp2_with fail
      refine DC.out.mono ?_
      rintro e w5 ⟨tv,rfl,hTr,_,hb⟩
      obtain ⟨sv,ev,rfl,hR,hZ⟩:=hTr
      obtain ⟨ae,ne,ce,rfl⟩:=hZ.lit
      obtain ⟨a6,ns,ks,rfl⟩:=hR.lit12
      have hle:=hZ.len
      have N:=new_one12 w5 (.cells #[.slice a6 ns ks,.slice ae ne ce] 46)
      have hX6:=(show Tbox (w5.alloc (.cells #[.slice a6 ns ks,.slice ae ne ce] 46)) w5.heap.size (.slice a6 ns ks) (.slice ae ne ce) from N.1)
      obtain ⟨w6,hw6⟩:∃ w6,w6=w5.alloc (.cells #[.slice a6 ns ks,.slice ae ne ce] 46):=⟨_,rfl⟩
      obtain ⟨tb,htb⟩:∃ tb,tb=w5.heap.size:=⟨_,rfl⟩
      rw [← hw6,← htb] at hX6
      have hb6:Below w5.heap.size w5 w6:=by rw [hw6];exact N.2
      have HX6:=h_ hX6
      have HEB:=h_ (And.intro hw6 htb)
      have HB6:=h_ ((HB.out.trans (hb.mono HB.out.size)).trans (hb6.mono (Nat.le_trans HB.out.size hb.size)))
      have MA:=h_ (writer_Many (((HW.out.later hb).later hb6).drew))
      obtain ⟨m,hm⟩:∃ m,m=es.length:=⟨_,rfl⟩
      rw [← hm] at hle MA
      have hbel:Below w6.heap.size w6 w6.drew:=(Below.refl _ _).drew
      have t1:=fun x:Ord.GW w6.drew=>((HX6.out.later (hbel.trans (x.grew.mono hbel.size)))).cells.2
      clear hm hb hb6 hR hZ N hX6 hw6 htb DC HW HB HTR
      go_wp2_with fail
      rw [← HEB.out.1,← HEB.out.2]
      refine Ord.wp_region_ord [(0,false),(1,false),(2,false),(3,false),(4,false),(5,false),(6,false),(7,true),(8,false),(9,false),(10,false)] (by kernel_rfl) rfl (by kernel_rfl) (by kernel_rfl) (fun _ _ _ d _ h=>by cases d <;> exact h) ?_
      refine Ord.ord_still rfl rfl (by kernel_rfl) (fun K hK=>?_)
      go_big_quiet_op
      refine hK _ ?_;clear hK K
      refine Ord.ord_still rfl rfl (by kernel_rfl) (fun K hK=>?_)
      go_big_quiet_op
      refine hK _ ?_;clear hK K
      refine Ord.ord_still rfl rfl (by kernel_rfl) (fun K hK=>?_)
      go_big_quiet_op
      refine hK _ ?_;clear hK K
      refine Ord.ord_still rfl rfl (by kernel_rfl) (fun K hK=>?_)
      go_big_quiet_op
      refine hK _ ?_;clear hK K
      refine Ord.ord_still rfl rfl (by kernel_rfl) (fun K hK=>?_)
      go_big_quiet_op
      refine hK _ ?_;clear hK K
      refine Ord.ord_still rfl rfl (by kernel_rfl) (fun K hK=>?_)
      go_big_quiet_op
      refine hK _ ?_;clear hK K
      refine Ord.ord_still rfl rfl (by kernel_rfl) (fun K hK=>?_)
      go_big_quiet_op
      refine hK _ ?_;clear hK K
      refine Ord.ord_loud rfl (by kernel_rfl) (fun K hK=>?_)
      go_big_op
      refine MA.out.mono ?_
      rintro e w11 ⟨rfl,rfl⟩
      refine hK _ _ (Ord.Grew.refl _) ?_
      clear hK K
      refine Ord.ord_still rfl rfl (by kernel_rfl) (fun K hK=>?_)
      go_big_quiet_op
      refine hK _ ?_;clear hK K
      refine Ord.ord_still rfl rfl (by kernel_rfl) (fun K hK=>?_)
      go_big_quiet_op
      refine hK _ ?_;clear hK K
      refine Ord.ord_still rfl rfl (by kernel_rfl) (fun K hK=>?_)
      go_big_quiet_op
      refine hK _ ?_;clear hK K
      refine Ord.ord_nil ?_
      go_wp2
      go_ret
      exact ⟨rfl,HB6.out.trans (hbel.mono HB6.out.size)⟩
 ·clear hf
  go_wp2_with fail
  refine (AL.out w2 HB2.out).mono ?_
  rintro e w3 ⟨rfl,hb⟩
  have HB3:=h_ (HB2.out.trans (hb.mono HB2.out.size))
  clear hb
  go_wp2
  go_ret
  exact ⟨rfl,HB3.out⟩
end Go.Proofs.YtpcobefhgkiolaaGreatDoor
