/- -/
import Derived.Test.YtmbpdpcinhhclaaGreatDoorETrcP
import Derived.Test.YtmbpdpcinhhclaaGreatDoorEEntR
import Derived.Deep.QuietTactic
import Derived.BigQuiet
import Derived.Test.YtmbpdpcinhhclaaGreatDoorESchema
import Derived.Test.YtmbpdpcinhhclaaGreatDoorESchW
import Derived.Test.YtmbpdpcinhhclaaGreatDoorEFrame
import Derived.Test.YtmbpdpcinhhclaaGreatDoorEAppFull
import Derived.Deep.RegionHeld3
import Derived.Test.YtmbpdpcinhhclaaGreatDoorEZDefs
set_option linter.unusedVariables false
set_option linter.unusedSimpArgs false
set_option maxRecDepth 1000000
namespace Go.Proofs.YtmbpdpcinhhclaaGreatDoor
open Go.RowKit Go.Shelf
theorem results_tmp5 {fn:Func} {t u v x y:Tmp} (h:fn.results=#[.tmp t,.tmp u,.tmp v,.tmp x,.tmp y]) (tmps:Array Value) (P:Program) (w:World) :
  (results fn tmps).run P w=.ok (.tuple #[tmps.getD t undef,tmps.getD u undef,tmps.getD v undef,tmps.getD x undef,tmps.getD y undef]) w:=by
 simp [results,h]
set_option maxHeartbeats 4000000 in
theorem ref_Head13 (v:Value) (cs:List ColB) (w:World) (hR:RdC w v cs) (hC:CS cs) :
  Calls Tryz.prog 19 #[v] w (RetW w (hdW (colsL cs))):=by
 have SC:=h_ (fun wz (hz:Below w.heap.size w wz)=>ref_Check05 v cs wz (hR.later hz l_) hC)
 have hH:hdW (colsL cs)=if errS (colsL cs)≠0 then ([],errS (colsL cs)) else (hdB (colsL cs),0):=rfl
 obtain ⟨E,hE⟩:∃ E,E=errS (colsL cs):=⟨_,rfl⟩
 rw [← hE] at SC hH
 by_cases h0:E=0
 ·subst h0
  rw [if_neg (by simp)] at hH
  have SW:=h_ (fun wz (hz:Below w.heap.size w wz)=>ref_Write05 v cs wz (hR.later hz l_) hC hE.symm)
  have hsm:=wrS_million hE.symm
  have hwf:wrF 0 (wrS (colsL cs))=(frB 0 (wrS (colsL cs)),0):=by unfold wrF;rw [if_neg (by omega),if_neg (by omega)];rfl
  have hfs:=frB_small 0 hsm
  have hfp:=frB_pos 0 (wrS (colsL cs))
  have hH:hdW (colsL cs)=([68,75,76,49] ++ frB 0 (wrS (colsL cs)),0):=hH
  have HH:=h_ hH
  obtain ⟨L,hL⟩:∃ L,L=wrS (colsL cs):=⟨_,rfl⟩
  rw [← hL] at SW hsm hwf hfs hfp hH
  rw [hH]
  have FW:=h_ (fun u wz (h:Rd wz u L)=>by have:=ref_Write11 0 u L wz h;rw [hwf] at this;exact this)
  have HSM:=h_ (And.intro hsm (And.intro hfs hfp))
  obtain ⟨F,hF⟩:∃ F,F=frB 0 L:=⟨_,rfl⟩
  rw [← hF] at FW HSM ⊢
  clear hsm hwf hfs hfp hH hL hF hE hR hC
  go_enter Tryz.func19,Tryz.ntmps19
  go_wp2_with fail
  refine (SC.out w (Below.refl _ _)).mono ?_
  rintro e w1 ⟨rfl,hb⟩
  have HB1:=h_ hb
  clear hb SC
  go_wp2_with fail
  refine (SW.out w1 HB1.out).mono ?_
  rintro e w2 ⟨bv,rfl,hO,hb⟩
  have HB2:=h_ (HB1.out.trans (hb.mono HB1.out.size))
  have HR2:=h_ (hO.rd (by have:=HSM.out;omega))
  clear hb hO SW HB1
  go_wp2_with fail
  refine (FW.out bv w2 HR2.out).mono ?_
  rintro e w3 ⟨fv,rfl,hO,hb⟩
  replace hO:Own w3 w2.heap.size fv F:=hO
  have HB3:=h_ (HB2.out.trans (hb.mono HB2.out.size))
  have HO3:=h_ hO
  have hcv:=Lib.run_convert_bytes_const (P:=Tryz.prog) w3 28 5 #[.int .u8 68,.int .u8 75,.int .u8 76,.int .u8 49] 4 4 Tryz.underlying28 Tryz.underlying5
  have h4:=rd_lit w3 [68,75,76,49] (by decide) (4,5)
  have hb0:Below w.heap.size w (w3.alloc (.cells #[.int .u8 68,.int .u8 75,.int .u8 76,.int .u8 49] 5 (4,5))):=HB3.out.alloc HB3.out.size _
  have hr0:=(hO.rd (by have:=HSM.out;omega)).alloc (.cells #[.int .u8 68,.int .u8 75,.int .u8 76,.int .u8 49] 5 (4,5))
  have hs0:w.heap.size≤w3.heap.size:=HB3.out.size
  clear hb hO FW HB2 HR2
  go_wp2_with (refine wpl_appendFull w3.heap.size 4 [68,75,76,49] F ?hs h4 fv ?hx hr0 ?hp ?hf ?hn w.heap.size w hb0 ?hz ?_)
  case hs=>rfl
  case hx=>rfl
  case hp=>have:=HSM.out;omega
  case hf=>have:=HSM.out;simp;omega
  case hn=>have:=HSM.out;simp;omega
  case hz=>simp;omega
  intro v4 w4 ho4 hb4
  have HO4:=h_ (ho4.base (base':=w.heap.size) (by simp;omega))
  have HB4:=h_ hb4
  clear hb0 hr0 h4 hcv ho4 hb4
  go_wp2
  go_ret2
  exact ⟨_,rfl,HO4.out,HB4.out⟩
 ·rw [if_pos h0] at hH
  have q:((E:Int) != 0)=true:=by rw [bne_iff_ne];omega
  have HH:=h_ hH
  clear hH hE hR hC
  go_enter Tryz.func19,Tryz.ntmps19
  go_wp2_with fail
  refine (SC.out w (Below.refl _ _)).mono ?_
  rintro e w1 ⟨rfl,hb⟩
  have HB1:=h_ hb
  clear hb SC
  go_wp2
  go_ret2
  rw [HH.out]
  exact ⟨_,rfl,own_nil _ _,HB1.out⟩
def WkO (w:World) (r:List UInt8 × Int × List PairB × Nat × Nat) (e:Ending) (w':World):Prop :=
 ∃ ov vv,e=.returned (.tuple #[ov,.int .i64 r.2.1,vv,.int .i64 (r.2.2.2.1:Nat),.int .i64 (r.2.2.2.2:Nat)])∧Own w' w.heap.size ov r.1∧RdP w' vv r.2.2.1∧Below w.heap.size w w'
theorem WkO.no {w w':World} {r:List UInt8 × Int × List PairB × Nat × Nat} {k E:Nat} {y z:Int} (h:r=([],0,[],k,E)) (hy:y=(k:Int)) (hz:z=(E:Int)) (hb:Below w.heap.size w w') :
  WkO w r (.returned (.tuple #[.slice none 0 0,.int .i64 0,.slice none 0 0,.int .i64 y,.int .i64 z])) w':=by
 subst h hy hz
 exact ⟨_,_,rfl,own_nil _ _,RdP.nil _,hb⟩
set_option maxHeartbeats 16000000 in
theorem ref_walk13 (v:Value) (cs:List ColB) (es:List EntB) (w:World) (hT:RdT13 w v cs es) (hC:CS cs) (hO:∀ x ∈ es,EnO x) :
  Calls Tryz.prog 36 #[v] w (WkO w (trE cs es)):=by
 obtain ⟨sv,ev,rfl,hR,hZ⟩:=hT
 obtain ⟨ae,ne,ce,rfl⟩:=hZ.lit
 obtain ⟨ac,nc,cc,rfl⟩:=hR.lit12
 have HD:=fun wz (hz:Below w.heap.size w wz)=>ref_Head13 (.slice ac nc cc) cs wz (hR.later hz l_) hC
 have hH:hdW (colsL cs)=if errS (colsL cs)≠0 then ([],errS (colsL cs)) else (hdB (colsL cs),0):=rfl
 have hE:trE cs es=if errS (colsL cs)≠0 then ([],0,[],0,errS (colsL cs)) else if (trW cs 0 0 [] es).2.2.2.2≠0 then trW cs 0 0 [] es else (hdB (colsL cs) ++ (trW cs 0 0 [] es).1,(trW cs 0 0 [] es).2):=rfl
 have hlen:=hZ.len
 have hsm:=hZ.small
 obtain ⟨N1,N2⟩:=new_one12 w (.cells #[.slice ac nc cc,.slice ae ne ce] 25)
 obtain ⟨w0,hw0⟩:∃ w0,w0=w.alloc (.cells #[.slice ac nc cc,.slice ae ne ce] 25):=⟨_,rfl⟩
 rw [← hw0] at N1 N2
 obtain ⟨g,hg⟩:∃ g,g=w.heap.size:=⟨_,rfl⟩
 rw [← hg] at N1
 have HX0:=h_ (show Tbox w0 g (.slice ac nc cc) (.slice ae ne ce) from N1)
 have HB0:=h_ N2
 have HW0:=h_ hw0
 have HG:=h_ hg
 clear N1 N2 hw0 hg
 by_cases h0:errS (colsL cs)=0
 ·rw [if_neg (fun h=>h h0)] at hH hE
  rw [hH] at HD
  have HDH:=h_ HD
  have hdl:=hdB_small h0
  obtain ⟨H,hHd⟩:∃ H,H=hdB (colsL cs):=⟨_,rfl⟩
  rw [← hHd] at hE hdl HDH
  have HE:=h_ hE
  have HDL:=h_ hdl
  have HO:=h_ hO
  have HZ:=h_ (fun wz (hz:Below w.heap.size w wz)=>hZ.later hz l_)
  have HRC:=h_ (fun wz (hz:Below w.heap.size w wz)=>hR.later hz l_)
  obtain ⟨n,hn⟩:∃ n,n=es.length:=⟨_,rfl⟩
  rw [← hn] at hlen hsm
  have HN:=h_ hn
  clear HD hH hE hdl hHd hO hZ hR hn
  go_enter Tryz.func36,Tryz.ntmps36
  have hx0:=HX0.out.cells
  obtain ⟨c0,c1⟩:=hx0
  go_wp2_with fail
  rw [← HW0.out,← HG.out]
  refine (HDH.out w0 HB0.out).mono ?_
  rintro e w1 ⟨hv,rfl,hO1,hb⟩
  have HB1:=h_ (HB0.out.trans (hb.mono HB0.out.size))
  have HX1:=h_ (HX0.out.later hb)
  have HO1:=h_ (hO1.base (base':=w.heap.size) HB0.out.size)
  clear hb hO1 HDH c0 c1 HX0 HB0
  go_wp2
  go_loopw [7,9,10,11] (fun o s vv i wr=>∃ (k:Nat) (A:List UInt8) (sq:Int) (view:List PairB),k≤n∧i=.int .i64 k∧s=.int .i64 sq∧Hid (trW cs 0 0 [] (es.take k)=(A,sq,view,k,0))∧Hid (Own wr w.heap.size o (H ++ A))∧Hid (RdP wr vv view∧∀ gb,o.ownBlock=some gb→OffP wr vv view gb)∧Hid (Tbox wr g (.slice ac nc cc) (.slice ae ne ce))∧Hid (Below w.heap.size w wr)) (fun _ _ _ i _=>n - (intOf i).toNat)
  case atStart=>exact ⟨0,[],0,[],by omega,rfl,rfl,h_ (by rw [List.take_zero,trW]),h_ (by rw [List.append_nil];exact HO1.out),h_ ⟨RdP.nil _,fun gb _=>OffP.nil _ _⟩,HX1,HB1⟩
  case round =>
   clear HX1 HB1 HO1
   obtain ⟨k,A,sq,view,hk,rfl,rfl,HS,HA,HV,HXr,HB⟩:=hrel
   have hx9:=HXr.out.cells
   obtain ⟨c0,c1⟩:=hx9
   by_cases hlt:k < n
   ·have hkn:k < es.length:=by rw [← HN.out];exact hlt
    by_cases hlim:4096≤k
    ·have HT:=h_ (tr_limit HS.out hkn hlim)
     have hd:decide ((k:Int) ≥ 4096)=true:=decide_eq_true (by omega)
     clear hlim hkn
     go_wp2
     (try simp only [Exit.inBlock,Exit.then]);refine bodyPost_ret (results_tmp5 rfl _ _ _) rfl ?_
     exact WkO.no (by rw [HE.out,HT.out];exact if_pos (by simp)) rfl rfl HB.out
    ·have hd:decide ((k:Int) ≥ 4096)=false:=decide_eq_false (by omega)
     have hk4:k < 4096:=by omega
     obtain ⟨b9,o9,pv,hidx,e0,e1,e2,hpv,hbl⟩:=(HZ.out wr HB.out).get hkn
     obtain ⟨x,hx⟩:∃ x,x=es.getD k default:=⟨_,rfl⟩
     have hXO:EnO x:=by rw [hx];exact HO.out _ (getD_mem13 hkn default)
     rw [← hx] at e0 e1 hpv
     obtain ⟨kd,s2,ps⟩:=x
     dsimp only at e0 e1 e2 hpv
     obtain ⟨ap,np,cp,rfl⟩:=hpv.lit12
     obtain ⟨av,nv,cv,rfl⟩:=HV.out.1.lit12
     obtain ⟨n1,n2,n3⟩:=tr_known HO.out HS.out (by omega) (by omega)
     have hRw:=HRC.out wr HB.out
     have hal:∀ b,u7.ownBlock=some b→b < wr.heap.size:=fun b hb=>(World.ownsRow.lt HA.out b hb).2
     have AP:=h_ (fun wz (hz:Below wr.heap.size wr wz)=>(ref_Apply12N (.slice ac nc cc) (.slice av nv cv) (.agg #[.int .i64 kd,.int .i64 s2,.slice ap np cp]) cs sq view (kd,s2,ps) wz (hRw.later hz l_) (HV.out.1.later hz l_) ⟨_,rfl,hpv.later hz l_⟩ hC n1 hXO n2).mono
      (fun e w' h=>show (∃ rv,e=.returned (.tuple #[.int .i64 (apN cs sq view (kd,s2,ps)),rv,.int .i64 (apE cs sq view (kd,s2,ps):Nat)])∧RdP w' rv (apV cs sq view (kd,s2,ps))∧∀ gb,u7.ownBlock=some gb→OffP w' rv (apV cs sq view (kd,s2,ps)) gb)∧Below wr.heap.size wr w' from by
       obtain ⟨rv,he,hr,hq,hb⟩:=h
       have hbw:=hz.trans (hb.mono hz.size)
       refine ⟨⟨rv,he,hr,fun gb hgb=>?_⟩,hbw⟩
       rcases hq with ⟨e1,e2⟩ | hq
       ·rw [e1,e2];exact (HV.out.2 gb hgb).later hbw l_
       ·exact hq.off (Nat.lt_of_lt_of_le (hal gb hgb) hz.size)))
     have WR:=h_ (fun wz (hz:Below wr.heap.size wr wz)=>(ref_Write12 (.slice ac nc cc) (.agg #[.int .i64 kd,.int .i64 s2,.slice ap np cp]) cs (kd,s2,ps) wz (hRw.later hz l_) ⟨_,rfl,hpv.later hz l_⟩ hC hXO).mono
      (fun e w' h=>show ((∃ bv,e=.returned (.tuple #[bv,.int .i64 ((entW cs (kd,s2,ps)).2:Nat)])∧Own w' wr.heap.size bv (entW cs (kd,s2,ps)).1)∧Below wz.heap.size wz w')∧Below wr.heap.size wr w' from by
       obtain ⟨bv,he,hO,hb⟩:=h
       exact ⟨⟨⟨bv,he,hO.base hz.size⟩,hb⟩,hz.trans (hb.mono hz.size)⟩))
     have hXr:=HXr.out
     have Q:=h_ (fun wz (hz:Below wr.heap.size wr wz)=>And.intro hz (And.intro (hXr.later hz).cells.1 (And.intro (hXr.later hz).cells.2 (And.intro (keep_cell hz e0) (And.intro (keep_cell hz e1) (keep_cell hz e2))))))
     have hL:=tr_apply HS.out hkn hk4 hx
     have hM:=tr_write HS.out hkn hk4 hx
     have hNx:=tr_next HO.out HS.out hkn hk4 hx
     have HLN:=h_ (And.intro n3 (entW_small cs (kd,s2,ps)))
     have m0:Below wr.heap.size wr wr.drew:=(Below.refl _ _).drew
     have HB2:=h_ (fun wz (hz:Below wr.heap.size wr wz)=>HB.out.trans (hz.mono HB.out.size))
     obtain ⟨E,hEd⟩:∃ E,E=apE cs sq view (kd,s2,ps):=⟨_,rfl⟩
     obtain ⟨W,hWd⟩:∃ W,W=entW cs (kd,s2,ps):=⟨_,rfl⟩
     rw [← hEd] at AP hL hM hNx
     rw [← hWd] at WR hM hNx HLN
     obtain ⟨V,hVd⟩:∃ V,V=apV cs sq view (kd,s2,ps):=⟨_,rfl⟩
     obtain ⟨S,hSd⟩:∃ S,S=apN cs sq view (kd,s2,ps):=⟨_,rfl⟩
     rw [← hVd,← hSd] at AP hNx
     clear hEd hWd hVd hSd hx hXO hpv hRw n1 n2 n3 hlim hkn hbl e0 e1 e2 hXr hal
     by_cases hE0:E=0
     ·subst hE0
      obtain ⟨B,y⟩:=W
      dsimp only at hM hNx WR HLN
      by_cases hW0:y=0
      ·subst hW0
       have HNx:=h_ (hNx rfl rfl)
       clear hL hM hNx
       go_wp2
       go_region_held3 (fun z=>Below wr.heap.size wr z∧z.cell? ⟨g,0,none⟩=some (.slice ac nc cc)∧z.cell? ⟨g,1,none⟩=some (.slice ae ne ce)∧z.cell? ⟨b9,o9,none⟩=some (.int .i64 kd)∧z.cell? ⟨b9,o9 + 1,none⟩=some (.int .i64 s2)∧z.cell? ⟨b9,o9 + 2,none⟩=some (.slice ap np cp)) (first | (exact Q.out _ m0) | go_keep)
        ((first
         | (go_at_call 69;refine (AP.out _ (by assumption)).mono ?_;rintro e w6 ⟨⟨rv,rfl,hrv⟩,m3⟩;clear m0;have m0:=m3;clear m3)))
       replace m0:=m0.drew
       have HR6:=h_ (And.intro hrv.1.drew (fun gb hgb=>(hrv.2 gb hgb).drew))
       clear hrv
       go_wp2
       go_region_held3 (fun z=>Below wr.heap.size wr z∧z.cell? ⟨g,0,none⟩=some (.slice ac nc cc)∧z.cell? ⟨g,1,none⟩=some (.slice ae ne ce)∧z.cell? ⟨b9,o9,none⟩=some (.int .i64 kd)∧z.cell? ⟨b9,o9 + 1,none⟩=some (.int .i64 s2)∧z.cell? ⟨b9,o9 + 2,none⟩=some (.slice ap np cp)) (first | (exact Q.out _ m0) | go_keep)
        ((first
         | (go_at_call 70;refine (WR.out _ (by assumption)).mono ?_;rintro e w7 ⟨⟨⟨bv,rfl,hbv⟩,hq⟩,m3⟩;clear m0;have m0:=m3;clear m3)))
       have HR7:=h_ (show RdP w7 rv V∧∀ gb,u7.ownBlock=some gb→OffP w7 rv V gb from ⟨HR6.out.1.later hq l_,fun gb hgb=>(HR6.out.2 gb hgb).later hq l_⟩)
       have HB7:=h_ (HB2.out _ m0)
       have HX7:=h_ (HXr.out.later m0)
       have ha7:=HA.out.later m0 l_
       have hb9:B.length≤1048591:=HLN.out.2
       have hr7:Rd w7 bv B:=hbv.rd (by show B.length≤_;omega)
       have hb7:=HB7.out
       clear m0 hbv hq HR6 AP WR Q HB2 HA HV HB
       go_wp2_with (with_reducible refine wpl_appendPl w.heap.size _ (H ++ A) ?hs ha7 _ B ?hx hr7 ?hn ?hbase w.heap.size w hb7 l_ ?_)
       case hs=>rfl
       case hx=>rfl
       case hn=>have h1:A.length≤k * 1048591:=HLN.out.1;have h2:=HDL.out;rw [List.length_append];omega
       case hbase=>exact hb7.size
       intro v8 w8 ho8 hb8 hg8 hp8
       have HA8:=h_ (show Own w8 w.heap.size v8 (H ++ (A ++ B)) from by rw [← List.append_assoc];exact ho8)
       have HB8:=h_ hb8
       have HR8:=h_ (off_after HR7.out hg8 hp8)
       have HX8:=h_ (show Tbox w8 g (.slice ac nc cc) (.slice ae ne ce) from by
        unfold Tbox
        have h1:=HX7.out
        unfold Tbox at h1
        rw [hg8.block g (Array.getElem?_eq_some_iff.1 h1).1 (fun e=>by
         obtain ⟨cur,h2⟩:=own_type13 ha7 e.symm
         rw [h1] at h2
         injection h2 with h2
         injection h2 with _ h3 _
         exact absurd h3 (by decide))]
        exact h1)
       clear ho8 hb8 hg8 hp8 ha7 hr7 hb7 HR7 HX7
       go_wp2
       go_roundw
       case rel=>exact ⟨k + 1,A ++ B,S,V,by omega,by go_num,rfl,HNx,HA8,HR8,HX8,HB8⟩
       case measure=>simp [intOf];omega
      ·have HT:=h_ (hM rfl hW0)
       have HW9:=h_ hW0
       have q:((y:Int) != 0)=true:=by rw [bne_iff_ne];omega
       clear hL hM hNx hW0
       go_wp2
       go_region_held3 (fun z=>Below wr.heap.size wr z∧z.cell? ⟨g,0,none⟩=some (.slice ac nc cc)∧z.cell? ⟨g,1,none⟩=some (.slice ae ne ce)∧z.cell? ⟨b9,o9,none⟩=some (.int .i64 kd)∧z.cell? ⟨b9,o9 + 1,none⟩=some (.int .i64 s2)∧z.cell? ⟨b9,o9 + 2,none⟩=some (.slice ap np cp)) (first | (exact Q.out _ m0) | go_keep)
        ((first
         | (go_at_call 69;refine (AP.out _ (by assumption)).mono ?_;rintro e w6 ⟨⟨rv,rfl,hrv⟩,m3⟩;clear m0;have m0:=m3;clear m3)))
       clear hrv
       replace m0:=m0.drew
       go_wp2
       go_region_held3 (fun z=>Below wr.heap.size wr z∧z.cell? ⟨g,0,none⟩=some (.slice ac nc cc)∧z.cell? ⟨g,1,none⟩=some (.slice ae ne ce)∧z.cell? ⟨b9,o9,none⟩=some (.int .i64 kd)∧z.cell? ⟨b9,o9 + 1,none⟩=some (.int .i64 s2)∧z.cell? ⟨b9,o9 + 2,none⟩=some (.slice ap np cp)) (first | (exact Q.out _ m0) | go_keep)
        ((first
         | (go_at_call 70;refine (WR.out _ (by assumption)).mono ?_;rintro e w7 ⟨⟨⟨bv,rfl,hbv⟩,hq⟩,m3⟩;clear m0;have m0:=m3;clear m3)))
       have HB7:=h_ (HB2.out _ m0)
       clear m0 hbv
       go_wp2
       (try simp only [Exit.inBlock,Exit.then]);refine bodyPost_ret (results_tmp5 rfl _ _ _) rfl ?_
       exact WkO.no (by rw [HE.out,HT.out];exact if_pos HW9.out) rfl rfl HB7.out
     ·have HT:=h_ (hL hE0)
      have q:((E:Int) != 0)=true:=by rw [bne_iff_ne];omega
      have HE0:=h_ hE0
      clear hL hM hNx hE0
      go_wp2
      go_region_held3 (fun z=>Below wr.heap.size wr z∧z.cell? ⟨g,0,none⟩=some (.slice ac nc cc)∧z.cell? ⟨g,1,none⟩=some (.slice ae ne ce)∧z.cell? ⟨b9,o9,none⟩=some (.int .i64 kd)∧z.cell? ⟨b9,o9 + 1,none⟩=some (.int .i64 s2)∧z.cell? ⟨b9,o9 + 2,none⟩=some (.slice ap np cp)) (first | (exact Q.out _ m0) | go_keep)
       ((first
        | (go_at_call 69;refine (AP.out _ (by assumption)).mono ?_;rintro e w6 ⟨⟨rv,rfl,hrv⟩,m3⟩;clear m0;have m0:=m3;clear m3)))
      have HB7:=h_ (HB2.out _ m0)
      clear m0 hrv
      go_wp2
      (try simp only [Exit.inBlock,Exit.then]);refine bodyPost_ret (results_tmp5 rfl _ _ _) rfl ?_
      exact WkO.no (by rw [HE.out,HT.out];exact if_pos HE0.out) rfl rfl HB7.out
   ·obtain rfl:k=n:=by omega
    have HT:=h_ (show trW cs 0 0 [] es=(A,sq,view,k,0) from by have:=HS.out;rwa [List.take_of_length_le (by rw [HN.out];exact l_)] at this)
    have HR:=h_ (show trE cs es=(H ++ A,sq,view,k,0) from by rw [HE.out,HT.out];exact if_neg (by simp))
    clear hlt
    go_wp2
    go_quiet (fail)
    go_wp2
    (try simp only [Exit.inBlock,Exit.then]);refine bodyPost_ret (results_tmp5 rfl _ _ _) rfl ?_
    exact ⟨_,_,by rw [HR.out];rfl,by rw [HR.out];exact HA.out.later (Go.below_drewN (Below.refl _ _) _) l_,by rw [HR.out];exact HV.out.1.later (Go.below_drewN (Below.refl _ _) _) l_,Go.below_drewN HB.out _⟩
 ·rw [if_pos h0] at hH hE
  rw [hH] at HD
  have HDH:=h_ HD
  have HE:=h_ hE
  obtain ⟨E,hEd⟩:∃ E,E=errS (colsL cs):=⟨_,rfl⟩
  rw [← hEd] at h0 HDH HE
  have q:((E:Int) != 0)=true:=by rw [bne_iff_ne];omega
  clear HD hH hE hEd hO hZ hR h0 hlen hsm
  go_enter Tryz.func36,Tryz.ntmps36
  have hx0:=HX0.out.cells
  obtain ⟨c0,c1⟩:=hx0
  go_wp2_with fail
  rw [← HW0.out,← HG.out]
  refine (HDH.out w0 HB0.out).mono ?_
  rintro e w1 ⟨hv,rfl,hO1,hb⟩
  have HB1:=h_ (HB0.out.trans (hb.mono HB0.out.size))
  clear hb hO1 HDH c0 c1
  go_wp2
  (try simp only [Exit.inBlock,Exit.then]);refine bodyPost_ret (results_tmp5 rfl _ _ _) rfl ?_
  exact WkO.no HE.out rfl rfl HB1.out
end Go.Proofs.YtmbpdpcinhhclaaGreatDoor


/- -/
namespace Go.Proofs.YtmbpdpcinhhclaaGreatDoor
open Go.RowKit Go.Shelf
def EnO13 (w:World) (r:List UInt8 × Int × List PairB × Nat × Nat) (e:Ending) (w':World):Prop :=
 ∃ ov,e=.returned (.tuple #[ov,.int .i64 (r.2.2.2.1:Nat),.int .i64 (r.2.2.2.2:Nat)])∧Own w' w.heap.size ov r.1∧Below w.heap.size w w'
def VwO13 (w:World) (r:List UInt8 × Int × List PairB × Nat × Nat) (e:Ending) (w':World):Prop :=
 ∃ vv,e=.returned (.tuple #[.int .i64 r.2.1,vv,.int .i64 (r.2.2.2.2:Nat)])∧RdP w' vv r.2.2.1∧Below w.heap.size w w'
set_option maxHeartbeats 2000000 in
theorem ref_Encode13 (v:Value) (cs:List ColB) (es:List EntB) (w:World) (hT:RdT13 w v cs es) (hC:CS cs) (hO:∀ x ∈ es,EnO x) :
  Calls Tryz.prog 15 #[v] w (EnO13 w (trE cs es)):=by
 obtain ⟨sv,ev,rfl,hR,hZ⟩:=hT
 obtain ⟨ae,ne,ce,rfl⟩:=hZ.lit
 obtain ⟨ac,nc,cc,rfl⟩:=hR.lit12
 obtain ⟨N1,N2⟩:=new_one12 w (.cells #[.slice ac nc cc,.slice ae ne ce] 25)
 have WK:=h_ (ref_walk13 (.agg #[.slice ac nc cc,.slice ae ne ce]) cs es _ ⟨_,_,rfl,hR.later N2 l_,hZ.later N2 l_⟩ hC hO)
 obtain ⟨c0,c1⟩:=(show Tbox _ _ (.slice ac nc cc) (.slice ae ne ce) from N1).cells
 have HB0:=h_ N2
 obtain ⟨r,hr⟩:∃ r,r=trE cs es:=⟨_,rfl⟩
 rw [← hr] at WK ⊢
 clear N1 N2 hR hZ hC hO hr
 go_enter Tryz.func15,Tryz.ntmps15
 go_wp2_with fail
 refine WK.out.mono ?_
 rintro e w1 ⟨ov,vv,rfl,ho,hv,hb⟩
 have HB1:=h_ (HB0.out.trans (hb.mono HB0.out.size))
 have HO1:=h_ (ho.base (base':=w.heap.size) HB0.out.size)
 clear ho hv hb WK c0 c1
 go_wp2
 go_ret3
 exact ⟨_,rfl,HO1.out,HB1.out⟩
set_option maxHeartbeats 2000000 in
theorem ref_View13 (v:Value) (cs:List ColB) (es:List EntB) (w:World) (hT:RdT13 w v cs es) (hC:CS cs) (hO:∀ x ∈ es,EnO x) :
  Calls Tryz.prog 17 #[v] w (VwO13 w (trE cs es)):=by
 obtain ⟨sv,ev,rfl,hR,hZ⟩:=hT
 obtain ⟨ae,ne,ce,rfl⟩:=hZ.lit
 obtain ⟨ac,nc,cc,rfl⟩:=hR.lit12
 obtain ⟨N1,N2⟩:=new_one12 w (.cells #[.slice ac nc cc,.slice ae ne ce] 25)
 have WK:=h_ (ref_walk13 (.agg #[.slice ac nc cc,.slice ae ne ce]) cs es _ ⟨_,_,rfl,hR.later N2 l_,hZ.later N2 l_⟩ hC hO)
 obtain ⟨c0,c1⟩:=(show Tbox _ _ (.slice ac nc cc) (.slice ae ne ce) from N1).cells
 have HB0:=h_ N2
 obtain ⟨r,hr⟩:∃ r,r=trE cs es:=⟨_,rfl⟩
 rw [← hr] at WK ⊢
 clear N1 N2 hR hZ hC hO hr
 go_enter Tryz.func17,Tryz.ntmps17
 go_wp2_with fail
 refine WK.out.mono ?_
 rintro e w1 ⟨ov,vv,rfl,ho,hv,hb⟩
 have HB1:=h_ (HB0.out.trans (hb.mono HB0.out.size))
 have HV1:=h_ hv
 clear ho hv hb WK c0 c1
 go_wp2
 go_ret3
 exact ⟨_,rfl,HV1.out,HB1.out⟩
end Go.Proofs.YtmbpdpcinhhclaaGreatDoor


/- -/
namespace Go.Proofs.YtmbpdpcinhhclaaGreatDoor
open Go.RowKit Go.Shelf
def SaO13 (w:World) (P:Prop) (e:Ending) (w':World):Prop:=∃ b:Bool,e=.returned (.bool b)∧(b=true ↔ P)∧Below w.heap.size w w'
end Go.Proofs.YtmbpdpcinhhclaaGreatDoor


/- -/
namespace Go.Proofs.YtmbpdpcinhhclaaGreatDoor
open Go.RowKit Go.Shelf
def sum13 (es:List EntB):Nat:=(es.map fun x=>x.2.2.length).sum
def flat13 (es:List EntB):List PairB:=es.flatMap fun x=>x.2.2
theorem sum13_snoc {es:List EntB} {k:Nat} (h:k < es.length):sum13 (es.take (k + 1))=sum13 (es.take k) + (es.getD k default).2.2.length:=by
 rw [take_succD h default];unfold sum13;rw [List.map_append,List.sum_append];simp
theorem flat13_snoc {es:List EntB} {k:Nat} (h:k < es.length):flat13 (es.take (k + 1))=flat13 (es.take k) ++ (es.getD k default).2.2:=by
 rw [take_succD h default];unfold flat13;rw [List.flatMap_append];simp
theorem flat13_len:∀ es:List EntB,(flat13 es).length=sum13 es
 | []=>rfl
 | x :: t=>by
  have:=flat13_len t
  unfold flat13 sum13 at this ⊢
  rw [List.flatMap_cons,List.length_append,this,List.map_cons,List.sum_cons]
theorem sum13_take_le (es:List EntB) (k:Nat):sum13 (es.take k)≤sum13 es:=by
 have h:=List.take_append_drop k es
 have:sum13 es=sum13 (es.take k) + sum13 (es.drop k):=by
  unfold sum13
  rw [← List.sum_append,← List.map_append,h]
 omega
def few13 (cs:List ColB) (es:List EntB):Prop:=es.length≤30∧cs.length≤30∧sum13 es≤200∧fewG (flat13 es)
def GrO13 (w:World) (P:Prop) (e:Ending) (w':World):Prop:=∃ x:Int,e=.returned (.int .i64 x)∧(x=0∨x=1)∧(x=0→P)∧Below w.heap.size w w'
theorem great_one13 (pv:Value) (ps:List PairB) (w:World) (h:RdP w pv ps) :
  Calls Tryz.prog 32 #[.slice (some ⟨w.heap.size,0,none⟩) 1 1] (w.alloc (.cells #[pv] 34)) (GrO13 (w.alloc (.cells #[pv] 34)) (fewG ps)):=by
 have hb:=(Below.refl w.heap.size w).alloc l_ (.cells #[pv] 34)
 refine (law08_greatG (.slice (some ⟨w.heap.size,0,none⟩) 1 1) [pv] [ps] _ (rdPs_block (z:=(0,0)) (heap_alloc_new _ _) (by simp)) (by simp) rfl (fun i hi wz hz=>?_)).mono ?_
 ·obtain rfl:i=0:=by simpa using hi
  exact (h.later hb l_).later hz l_
 ·rintro e w' ⟨x,he,hx,hf,hb'⟩
  exact ⟨x,he,hx,fun h0=>by simpa using hf h0,hb'⟩
set_option maxHeartbeats 8000000 in
theorem law13_great (v:Value) (cs:List ColB) (es:List EntB) (w:World) (hT:RdT13 w v cs es) :
  Calls Tryz.prog 13 #[v] w (GrO13 w (few13 cs es)):=by
 obtain ⟨sv,ev,rfl,hR,hZ⟩:=hT
 obtain ⟨ae,ne,ce,rfl⟩:=hZ.lit
 obtain ⟨ac,nc,cc,rfl⟩:=hR.lit12
 have hlen:=hZ.len
 have hsm:=hZ.small
 have hclen:=hR.len
 have hcsm:=hR.small
 have HZ:=h_ (fun wz (hz:Below w.heap.size w wz)=>hZ.later hz l_)
 obtain ⟨n,hn⟩:∃ n,n=es.length:=⟨_,rfl⟩
 rw [← hn] at hlen hsm
 have HN:=h_ hn
 obtain ⟨N1,N2⟩:=new_one12 w (.cells #[.slice ac nc cc,.slice ae ne ce] 25)
 have HX0:=h_ (show Tbox (w.alloc (.cells #[.slice ac nc cc,.slice ae ne ce] 25)) w.heap.size (.slice ac nc cc) (.slice ae ne ce) from N1)
 have HB0:=h_ N2
 clear hR hZ hn N1 N2
 go_enter Tryz.func13,Tryz.ntmps13
 have hx9:=HX0.out.cells
 obtain ⟨c0,c1⟩:=hx9
 go_wp2
 go_loopw [3,12] (fun a i wr=>∃ (k:Nat) (x:Int),k≤n∧i=.int .i64 k∧a=.int .i64 x∧Hid (n≤30→(sum13 (es.take k):Int)≤x∧x≤(sum13 (es.take k):Int) + (k:Int))∧Hid (Tbox wr w.heap.size (.slice ac nc cc) (.slice ae ne ce))∧Hid (Below w.heap.size w wr)) (fun _ i _=>n - (intOf i).toNat)
 case atStart=>exact ⟨0,0,by omega,rfl,rfl,h_ (fun _=>by simp [sum13]),HX0,HB0⟩
 case round =>
  clear HX0 HB0 c0 c1
  obtain ⟨k,x,hk,rfl,rfl,HS,HX,HB⟩:=hrel
  by_cases hlt:k < n
  ·have hkn:k < es.length:=by rw [← HN.out];exact hlt
   obtain ⟨b9,o9,pv,hidx,e0,e1,e2,hpv,hbl⟩:=(HZ.out wr HB.out).get hkn
   have HSN:=h_ (sum13_snoc hkn)
   have HPS:=h_ (show ∀ j,j < es.length→(es.getD j default).2.2.length≤140737488351232 from fun j hj=>by
    obtain ⟨_,_,_,_,_,_,_,h,_⟩:=(HZ.out wr HB.out).get hj
    exact h.small)
   have HSB:=h_ (show n≤30→sum13 (es.take k)≤k * 140737488351232 from fun hn=>by
    have key:∀ j,j≤k→sum13 (es.take j)≤j * 140737488351232:=by
     intro j
     induction j with
     | zero=>intro _;simp [sum13]
     | succ j ih =>
      intro hj
      have h1:=ih (by omega)
      have h2:=HPS.out j (by omega)
      rw [sum13_snoc (by omega)]
      omega
    exact key k l_)
   obtain ⟨⟨kd,s2,ps⟩,hx⟩:∃ x,x=es.getD k default:=⟨_,rfl⟩
   rw [← hx] at e0 e1 hpv HSN
   dsimp only at e0 e1 hpv HSN
   obtain ⟨ap,np,cp,rfl⟩:=hpv.lit12
   have hlp:=hpv.len
   have hps:=hpv.small
   obtain ⟨m,hm⟩:∃ m,m=ps.length:=⟨_,rfl⟩
   rw [← hm] at hlp hps HSN
   obtain ⟨w7,hw7⟩:∃ w7,w7=wr.alloc (.cells #[.int .i64 kd,.int .i64 s2,.slice ap np cp] 71):=⟨_,rfl⟩
   have hbb:=(Below.refl wr.heap.size wr).alloc l_ (.cells #[.int .i64 kd,.int .i64 s2,.slice ap np cp] 71)
   have hg7:=heap_alloc_new wr (.cells #[.int .i64 kd,.int .i64 s2,.slice ap np cp] 71)
   rw [← hw7] at hbb hg7
   have HB7:=h_ (HB.out.trans (hbb.mono HB.out.size)).drew
   have hp7:=(hpv.later hbb l_).drew
   have HX7:=h_ (show Tbox w7.drew w.heap.size (.slice ac nc cc) (.slice ae ne ce) from HX.out.later hbb.drew)
   have hsz7:w7.drew.heap.size=wr.heap.size + 1:=by rw [hw7];simp
   have GG:=great_one13 (.slice ap np cp) ps w7.drew hp7
   rw [hsz7] at GG
   have hA7:Below w7.drew.heap.size w7.drew (w7.drew.alloc (.cells #[.slice ap np cp] 34)):=(Below.refl _ _).alloc l_ _
   have HX8:=h_ (fun wz (hz:Below w7.drew.heap.size w7.drew wz)=>HX7.out.later hz)
   have HB8:=h_ (fun wz (hz:Below w7.drew.heap.size w7.drew wz)=>HB7.out.trans (hz.mono HB7.out.size))
   have hW7:=Below.refl w7.drew.heap.size w7.drew
   have hg7':(w7.drew).heap[wr.heap.size]?=_:=hg7
   have s0:=fun x:Ord.GW w7.drew=>keep_cell x.grew (cell_of_row _ _ 2 _ _ _ hg7')
   simp at s0
   clear hg7 hg7' hbb hp7 hpv hx hm HPS HX HB hkn hsz7 HB7 HX7
   subst hw7
   have GG:=h_ GG
   go_wp2_with fail
   refine Ord.wp_region_ord [(0,false),(1,false),(2,false),(5,false),(6,false),(7,false),(3,true),(4,true),(8,false),(9,false),(10,false)] (by kernel_rfl) rfl (by kernel_rfl) (by kernel_rfl) (fun _ _ _ d _ h=>by cases d <;> exact h) ?_
   refine Ord.ord_still rfl rfl (by kernel_rfl) (fun K hK=>?_)
   go_big_quiet_op
   refine hK _ ?_;clear hK K
   refine Ord.ord_still rfl rfl (by kernel_rfl) (fun K hK=>?_)
   go_big_quiet_op
   refine hK _ ?_;clear hK K
   refine Ord.ord_still rfl rfl (by kernel_rfl) (fun K hK=>?_)
   go_big_quiet_op
   refine hK _ ?_;clear hK K
   refine Ord.ord_still rfl rfl (by kernel_rfl) (fun K hK=>?_)
   go_big_quiet_op
   refine hK _ ?_;clear hK K
   refine Ord.ord_still rfl rfl (by kernel_rfl) (fun K hK=>?_)
   go_big_quiet_op
   refine hK _ ?_;clear hK K
   refine Ord.ord_still rfl rfl (by kernel_rfl) (fun K hK=>?_)
   go_big_quiet_op
   refine hK _ ?_;clear hK K
   refine Ord.ord_loud rfl (by kernel_rfl) (fun K hK=>?_)
   go_big_op
   refine hK _ _ hA7 ?_;clear hK K
   refine Ord.ord_loud rfl (by kernel_rfl) (fun K hK=>?_)
   go_big_op
   refine GG.out.mono ?_
   rintro e w8 ⟨y,rfl,hy,_,hb⟩
   have hA8:=hA7.trans (hb.mono hA7.size)
   refine hK _ _ hb ?_
   have HXn:=h_ (HX8.out _ hA8)
   have HBn:=h_ (HB8.out _ hA8)
   clear hK K hb hA7 hA8 GG
   refine Ord.ord_still rfl rfl (by kernel_rfl) (fun K hK=>?_)
   go_big_quiet_op
   refine hK _ ?_;clear hK K
   refine Ord.ord_still rfl rfl (by kernel_rfl) (fun K hK=>?_)
   go_big_quiet_op
   refine hK _ ?_;clear hK K
   refine Ord.ord_still rfl rfl (by kernel_rfl) (fun K hK=>?_)
   go_big_quiet_op
   refine hK _ ?_;clear hK K
   refine Ord.ord_nil ?_
   have HS2:=h_ (show n≤30→(sum13 (es.take (k + 1)):Int)≤wrap64 (x + (y + (m:Int)))∧wrap64 (x + (y + (m:Int)))≤(sum13 (es.take (k + 1)):Int) + ((k + 1:Nat):Int) from fun hn=>by
    obtain ⟨h1,h2⟩:=HS.out hn
    have h3:=HSB.out hn
    have h4:sum13 (es.take (k + 1))=sum13 (es.take k) + m:=HSN.out
    have w2:wrap64 (x + (y + (m:Int)))=x + (y + (m:Int)):=w64_inG ⟨by omega,by omega⟩
    rw [w2,h4]
    push_cast
    omega)
   clear hy
   go_wp2
   go_roundw
   case rel=>exact ⟨k + 1,_,by omega,by go_num,rfl,HS2,HXn,HBn⟩
   case measure=>simp [intOf];omega
  ·obtain rfl:k=n:=by omega
   have hsl:sum13 (es.take k)=sum13 es:=by rw [List.take_of_length_le (by rw [HN.out];exact l_)]
   rw [hsl] at HS
   have hx9:=HX.out.cells
   obtain ⟨c0,c1⟩:=hx9
   clear hlt hsl
   by_cases hx2:200 < x
   ·have d1:decide ((200:Int) < x)=true:=decide_eq_true hx2
    go_wp2
    go_ret
    exact ⟨1,rfl,.inr rfl,fun h=>absurd h (by decide),HB.out⟩
   ·have d1:decide ((200:Int) < x)=false:=decide_eq_false hx2
    by_cases hn3:30 < k
    ·have d2:decide ((30:Int) < (k:Int))=true:=decide_eq_true (by omega)
     go_wp2
     go_ret
     exact ⟨1,rfl,.inr rfl,fun h=>absurd h (by decide),HB.out⟩
    ·have d2:decide ((30:Int) < (k:Int))=false:=decide_eq_false (by omega)
     by_cases hc3:30 < cs.length
     ·have d3:decide ((30:Int) < (cs.length:Int))=true:=decide_eq_true (by omega)
      go_wp2
      go_ret
      exact ⟨1,rfl,.inr rfl,fun h=>absurd h (by decide),HB.out⟩
     ·have d3:decide ((30:Int) < (cs.length:Int))=false:=decide_eq_false (by omega)
      have HS200:=h_ (show sum13 es≤200 from by have:=HS.out (by omega);omega)
      have hn30:k≤30:=by omega
      have hc30:=h_ (show cs.length≤30 from by omega)
      clear hx2 hn3 hc3 HS
      go_wp2
      go_loopw [6,44] (fun a i wr=>∃ (j:Nat) (av:Value),av=a∧j≤k∧i=.int .i64 j∧Hid (OwnP wr w.heap.size av (flat13 (es.take j)))∧Hid (Tbox wr w.heap.size (.slice ac nc cc) (.slice ae ne ce))∧Hid (Below w.heap.size w wr)) (fun _ i _=>k - (intOf i).toNat)
      case atStart=>exact ⟨0,_,rfl,by omega,rfl,h_ (OwnP.nil _ _),HX,HB⟩
      case round =>
       clear HX HB c0 c1
       obtain ⟨j,av,rfl,hj,rfl,HA,HX,HB⟩:=hrel
       by_cases hjl:j < k
       ·have hjn:j < es.length:=by rw [← HN.out];exact hjl
        obtain ⟨b9,o9,pv,hidx,e0,e1,e2,hpv,hbl⟩:=(HZ.out w (Below.refl _ _)).get hjn
        replace e0:=keep_cell HB.out e0
        replace e1:=keep_cell HB.out e1
        replace e2:=keep_cell HB.out e2
        have hfs:=flat13_snoc hjn
        have hfl:(flat13 (es.take (j + 1))).length≤200:=by
         rw [flat13_len]
         exact Nat.le_trans (sum13_take_le es (j + 1)) HS200.out
        obtain ⟨⟨kd,s2,ps⟩,hx⟩:∃ x,x=es.getD j default:=⟨_,rfl⟩
        rw [← hx] at e0 e1 hpv hfs
        dsimp only at e0 e1 hpv hfs
        rw [hfs,List.length_append] at hfl
        have HFS:=h_ hfs
        have HFL:=h_ hfl
        obtain ⟨ap,np,cp,rfl⟩:=hpv.lit12
        obtain ⟨us,hu1,hu2,hu3⟩:=hpv.app
        obtain ⟨w7,hw7⟩:∃ w7,w7=wr.alloc (.cells #[.int .i64 kd,.int .i64 s2,.slice ap np cp] 71):=⟨_,rfl⟩
        have hbb:=(Below.refl wr.heap.size wr).alloc l_ (.cells #[.int .i64 kd,.int .i64 s2,.slice ap np cp] 71)
        have hg7:=heap_alloc_new wr (.cells #[.int .i64 kd,.int .i64 s2,.slice ap np cp] 71)
        have ha7:=HA.out.alloc (.cells #[.int .i64 kd,.int .i64 s2,.slice ap np cp] 71)
        rw [← hw7] at hbb hg7 ha7
        have hb7:=HB.out.trans (hbb.mono HB.out.size)
        have hx7:=HX.out.later hbb
        obtain ⟨hu4,hu5⟩:=hu3 w7 hb7
        have hu6:=hu5 av (fun g hg=>(HA.out.lt hg).1)
        have q2:=cell_of_row _ _ 2 _ _ _ hg7
        simp at q2
        have HX7:=h_ hx7
        clear hx hfs hfl hu3 hu5 hg7 hbb hpv hx7 HB HX hjn
        subst hw7
        go_wp2_with (with_reducible refine wplP_appendAll w.heap.size av ?hs ha7 (.slice ap np cp) ?hx us hu4 hu6 ?hn ?hbase w.heap.size w hb7 l_ ?_)
        case hs=>rfl
        case hx=>rfl
        case hn=>have:=HFL.out;rw [hu2];omega
        case hbase=>exact hb7.size
        intro v8 w8 ho8 hb8 hg8 _
        have HA8:=h_ (show OwnP w8 w.heap.size v8 (flat13 (es.take (j + 1))) from by rw [HFS.out,← hu1];exact ho8)
        have HB8:=h_ hb8
        have HX8:=h_ (show Tbox w8 w.heap.size (.slice ac nc cc) (.slice ae ne ce) from by
         obtain ⟨ts,_,hG,_⟩:=ha7
         exact HX7.out.grown hG (by decide) hg8)
        clear ho8 hb8 hg8 ha7 hb7 hu4 hu6 hu1 hu2 HX7 q2 e0 e1 e2
        go_wp2
        go_roundw
        case rel=>exact ⟨j + 1,_,rfl,by omega,by go_num,HA8,HX8,HB8⟩
        case measure=>simp [intOf];omega
       ·obtain rfl:j=k:=by omega
        have ha:OwnP wr w.heap.size av (flat13 es):=by
         have:=HA.out
         rwa [List.take_of_length_le (by rw [HN.out];exact l_)] at this
        have hr:=ha.rd (by rw [flat13_len];have:=HS200.out;omega)
        obtain ⟨ar,nr,cr,rfl⟩:=hr.lit12
        have GG:=h_ (great_one13 (.slice ar nr cr) (flat13 es) wr hr)
        have HB9:=h_ (HB.out.alloc HB.out.size (.cells #[.slice ar nr cr] 34))
        have hn30':es.length≤30:=by rw [← HN.out];exact hn30
        clear hjl ha hr HA
        go_wp2_with fail
        refine GG.out.mono ?_
        rintro e w8 ⟨y,rfl,hy,hf,hb⟩
        have HF:=h_ hf
        have HB10:=h_ (HB9.out.trans (hb.mono HB9.out.size))
        have HY:=h_ hy
        clear hf hb hy GG
        go_wp2
        go_ret
        exact ⟨y,rfl,HY.out,fun h=>⟨hn30',hc30.out,HS200.out,HF.out h⟩,HB10.out⟩
end Go.Proofs.YtmbpdpcinhhclaaGreatDoor


/- -/
namespace Go.Proofs.YtmbpdpcinhhclaaGreatDoor
open Go.RowKit Go.Shelf
def DcO13 (w:World) (b:List UInt8) (e:Ending) (w':World):Prop :=
 ∃ v,e=.returned (.tuple #[v,.int .i64 ((trD b).2.2.2.1:Nat),.int .i64 ((trD b).2.2.2.2:Nat)])∧RdT13 w' v (trD b).1 (trD b).2.1∧CS (trD b).1∧Below w.heap.size w w'
def curs13 (cs:List ColB) (ms:List (Int × Nat)):List CurB:=ms.map fun m=>(m.1,(m.2:Int),((Crc.sum (wrS (colsL cs)):Nat):Int))
def MkO13 (w:World) (b:List UInt8) (e:Ending) (w':World):Prop :=
 ∃ v,e=.returned (.tuple #[v,.int .i64 ((trD b).2.2.2.1:Nat),.int .i64 ((trD b).2.2.2.2:Nat)])∧RdG cursorE w' v ((curs13 (trD b).1 (trD b).2.2.1).map cuV)∧Below w.heap.size w w'
structure TrcK (w:World):Prop where
 alive:∀ wz,Below w.heap.size w wz→Calls Tryz.prog 12 #[] wz fun e w'=>e=.returned (.bool true)∧Below wz.heap.size wz w'
 encode:∀ wz v cs es,Below w.heap.size w wz→RdT13 wz v cs es→CS cs→(∀ x ∈ es,EnO x)→Calls Tryz.prog 14 #[v] wz (EnO13 wz (trE cs es))
 view:∀ wz v cs es,Below w.heap.size w wz→RdT13 wz v cs es→CS cs→(∀ x ∈ es,EnO x)→Calls Tryz.prog 16 #[v] wz (VwO13 wz (trE cs es))
 head:∀ wz v cs,Below w.heap.size w wz→RdC wz v cs→CS cs→Calls Tryz.prog 18 #[v] wz (RetW wz (hdW (colsL cs)))
 decode:∀ wz v b,Below w.heap.size w wz→Rd wz v b→Calls Tryz.prog 21 #[v] wz (DcO13 wz b)
 marks:∀ wz v b,Below w.heap.size w wz→Rd wz v b→Calls Tryz.prog 23 #[v] wz (MkO13 wz b)
 same:∀ wz v1 v2 cs ds es fs,Below w.heap.size w wz→RdT13 wz v1 cs es→RdT13 wz v2 ds fs→Calls Tryz.prog 26 #[v1,v2] wz (SaO13 wz (cs=ds∧es=fs))
theorem trE_small {cs:List ColB} {es:List EntB} (h:es.length≤4096):(trE cs es).1.length≤4400000000:=by
 have h1:=trW_bytes_le (cs:=cs) es 0 0 []
 have h2:es.length * 1048591≤4096 * 1048591:=Nat.mul_le_mul_right _ h
 unfold trE
 by_cases h0:errS (colsL cs)=0
 ·have h3:=hdB_small h0
  rw [if_neg (fun h=>h h0)]
  split
  ·omega
  ·dsimp only;rw [List.length_append];omega
 ·rw [if_pos h0];simp
theorem hdW_small (cols:List Col):(hdW cols).1.length≤1048600:=by
 unfold hdW
 by_cases h0:errS cols=0
 ·rw [if_neg (fun h=>h h0)];exact hdB_small h0
 ·rw [if_pos h0];simp
end Go.Proofs.YtmbpdpcinhhclaaGreatDoor

