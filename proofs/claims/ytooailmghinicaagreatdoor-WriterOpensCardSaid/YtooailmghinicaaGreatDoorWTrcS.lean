/- -/
import Derived.Test.YtooailmghinicaaGreatDoorWTrcL
import Derived.Test.YtooailmghinicaaGreatDoorWEntR
set_option maxHeartbeats 16000000
set_option linter.unusedVariables false
set_option linter.unusedSimpArgs false
set_option maxRecDepth 1000000
namespace Go.Proofs.YtooailmghinicaaGreatDoor
open _root_.Go.Proofs.Tryz
open Go.RowKit Go.Shelf
theorem zc3 {fn:Func} {t u v x y:Tmp} (h:fn.results=#[.tmp t,.tmp u,.tmp v,.tmp x,.tmp y]) (tmps:Array Value) (P:Program) (w:World) :
  (results fn tmps).run P w=.ok (.tuple #[tmps.getD t undef,tmps.getD u undef,tmps.getD v undef,tmps.getD x undef,tmps.getD y undef]) w:=by
 simp [results,h]
theorem ref_Head13 (v:Value) (cs:List ColB) (w:World) (hR:RdC w v cs) (hC:CS cs) :
  Calls prog 82 #[v] w (RetW w (hdW (colsL cs))):=by
 have SC:=h_ (fun wz (hz:Below w.heap.size w wz)=>zbH v cs wz (hR.later hz l_) hC);have hH:hdW (colsL cs)=if errS (colsL cs)≠0 then ([],errS (colsL cs)) else (hdB (colsL cs),0):=rfl
 obtain ⟨E,hE⟩:=nm_ (errS (colsL cs));rw [<- hE] at SC hH;by_cases h0:E=0
 ·subst h0;rw [if_neg (by simp)] at hH;have SW:=h_ (fun wz (hz:Below w.heap.size w wz)=>zjC v cs wz (hR.later hz l_) hC hE.symm);have hsm:=zfF hE.symm;have hwf:wrF 0 (wrS (colsL cs))=(frB 0 (wrS (colsL cs)),0):=by unfold wrF;rw [if_neg (by omega),if_neg (by omega)];rfl
  have hfs:=zgD 0 hsm;have hfp:=ze1 0 (wrS (colsL cs));have hH:hdW (colsL cs)=([68,75,76,49] ++ frB 0 (wrS (colsL cs)),0):=hH;have HH:=h_ hH;obtain ⟨L,hL⟩:=nm_ (wrS (colsL cs));rw [<- hL] at SW hsm hwf hfs hfp hH;rw [hH];have FW:=h_ (fun u wz (h:Rd wz u L)=>by have:=zfM 0 u L wz h;rw [hwf] at this;exact this);have HSM:=h_ (And.intro hsm (And.intro hfs hfp));obtain ⟨F,hF⟩:=nm_ (frB 0 L);rw [<- hF] at FW HSM ⊢;clear hsm hwf hfs hfp hH hL hF hE hR hC;go_enter func82,ntmps82;go_wp2_with fail;refine (SC.o w (Below.refl _ _)).mono ?_;rintro e w1 ⟨rfl,hb⟩;have HB1:=h_ hb;clear hb SC;go_wp2_with fail;refine (SW.o w1 HB1.o).mono ?_;rintro e w2 ⟨bv,rfl,hO,hb⟩;have HB2:=bT HB1 hb;have HR2:=h_ (hO.rd (by have:=HSM.o;omega));clear hb hO SW HB1;go_wp2_with fail;refine (FW.o bv w2 HR2.o).mono ?_;rintro e w3 ⟨fv,rfl,hO,hb⟩;replace hO:Own w3 w2.heap.size fv F:=hO;have HB3:=bT HB2 hb;have HO3:=h_ hO;have hcv:=Lib.run_convert_bytes_const (P:=prog) w3 22 5 #[.int .u8 68,.int .u8 75,.int .u8 76,.int .u8 49] 4 4 underlying22 underlying5;have h4:=rd_lit w3 [68,75,76,49] (by decide) (4,5);have hb0:Below w.heap.size w (w3.alloc (.cells #[.int .u8 68,.int .u8 75,.int .u8 76,.int .u8 49] 5 (4,5))):=HB3.alloc HB3.size _;have hr0:=(hO.rd (by have:=HSM.o;omega)).alloc (.cells #[.int .u8 68,.int .u8 75,.int .u8 76,.int .u8 49] 5 (4,5));have hs0:w.heap.size<=w3.heap.size:=HB3.size;clear hb hO FW HB2 HR2;go_wp2_with (refine zf7 w3.heap.size 4 [68,75,76,49] F ?hs h4 fv ?hx hr0 ?hp ?hf ?hn w.heap.size w hb0 ?hz ?_)
  case hs=>rfl
  case hx=>rfl
  case hp=>have:=HSM.o;omega
  case hf=>have:=HSM.o;simp;omega
  case hn=>have:=HSM.o;simp;omega
  case hz=>simp;omega
  intro v4 w4 ho4 hb4;have HO4:=h_ (ho4.base (base':=w.heap.size) (by simp;omega));have HB4:=h_ hb4;clear hb0 hr0 h4 hcv ho4 hb4;go_wp2;go_ret2;exact ⟨_,rfl,HO4.o,HB4.o⟩
 rw [if_pos h0] at hH;have q:((E:Int) != 0)=true:=by rw [bne_iff_ne];omega
 have HH:=h_ hH;clear hH hE hR hC;go_enter func82,ntmps82;go_wp2_with fail;refine (SC.o w (Below.refl _ _)).mono ?_;rintro e w1 ⟨rfl,hb⟩;have HB1:=h_ hb;clear hb SC;go_wp2;go_ret2;rw [HH.o];exact ⟨_,rfl,zaG _ _,HB1.o⟩
def WkO (w:World) (r:Bs × Int × List PairB × Nat × Nat) (e:Ending) (w':World):Prop :=
 ∃ ov vv,e=.returned (.tuple #[ov,.int .i64 r.2.1,vv,.int .i64 (r.2.2.2.1:Nat),.int .i64 (r.2.2.2.2:Nat)])/\Own w' w.heap.size ov r.1/\OffS w' vv r.2.2.1 (fun j=>j < w.heap.size)/\Below w.heap.size w w'
theorem WkO.no {w w':World} {r:Bs × Int × List PairB × Nat × Nat} {k E:Nat} {y z:Int} (h:r=([],0,[],k,E)) (hy:y=(k:Int)) (hz:z=(E:Int)) (hb:Below w.heap.size w w') :
  WkO w r (.returned (.tuple #[.slice none 0 0,.int .i64 0,.slice none 0 0,.int .i64 y,.int .i64 z])) w':=by
 subst h hy hz;exact ⟨_,_,rfl,zaG _ _,OffS.nil _ _,hb⟩
theorem OffS.grow13 {w w':World} {v ov vn:Value} {ps:List PairB} {N:Nat} (h:OffS w v ps fun j=>j < N∨ov.ownBlock=some j) (hg:w.grownBy w' ov.ownBlock) (hp:Place w ov vn):OffS w' v ps fun j=>j < N∨vn.ownBlock=some j:=by
 have h1:=h.more (Q':=fun j=>(j < N∨ov.ownBlock=some j)∨(j < N∨vn.ownBlock=some j)) fun j hj hn hq=>by
  rcases hq with hq | hq | hq
  ·exact hn hq
  ·exact hn (.inl hq)
  rcases hp with e | hp
  ·rw [e] at hq;exact hn (.inr hq)
  have:=hp j hq;omega
 exact (h1.keep fun j hj hn=>hg.block j hj fun e=>hn (.inl (.inr e.symm))).more fun j _ hn hq=>hn (.inr hq)
theorem ref_walk13 (v:Value) (cs:List ColB) (es:List EntB) (w:World) (hT:RdT13 w v cs es) (hC:CS cs) (hO:∀ x ∈ es,EnO x) :
  Calls prog 49 #[v] w (WkO w (trE cs es)):=by
 obtain ⟨sv,ev,rfl,hR,hZ⟩:=hT;obtain ⟨ae,ne,ce,rfl⟩:=hZ.lit;obtain ⟨ac,nc,cc,rfl⟩:=hR.lit12;have HD:=fun wz (hz:Below w.heap.size w wz)=>ref_Head13 (.slice ac nc cc) cs wz (hR.later hz l_) hC;have hH:hdW (colsL cs)=if errS (colsL cs)≠0 then ([],errS (colsL cs)) else (hdB (colsL cs),0):=rfl
 have hE:trE cs es=if errS (colsL cs)≠0 then ([],0,[],0,errS (colsL cs)) else if (trW cs 0 0 [] es).2.2.2.2≠0 then trW cs 0 0 [] es else (hdB (colsL cs) ++ (trW cs 0 0 [] es).1,(trW cs 0 0 [] es).2):=rfl
 have hlen:=hZ.len;have hsm:=hZ.small;obtain ⟨N1,N2⟩:=za8 w (.cells #[.slice ac nc cc,.slice ae ne ce] 71);obtain ⟨w0,hw0⟩:=nm_ (w.alloc (.cells #[.slice ac nc cc,.slice ae ne ce] 71));rw [<- hw0] at N1 N2;obtain ⟨g,hg⟩:=nm_ w.heap.size;rw [<- hg] at N1;have HX0:=h_ (show Tbox w0 g (.slice ac nc cc) (.slice ae ne ce) from N1);have HB0:=h_ N2;have HW0:=h_ hw0;have HG:=h_ hg;clear N1 N2 hw0 hg;by_cases h0:errS (colsL cs)=0
 ·rw [if_neg (fun h=>h h0)] at hH hE;rw [hH] at HD;have HDH:=h_ HD;have hdl:=zjX h0;obtain ⟨H,hHd⟩:=nm_ (hdB (colsL cs));rw [<- hHd] at hE hdl HDH;have HE:=h_ hE;have HDL:=h_ hdl;have HO:=h_ hO;have HZ:=h_ (fun wz (hz:Below w.heap.size w wz)=>hZ.later hz l_);have HRC:=h_ (fun wz (hz:Below w.heap.size w wz)=>hR.later hz l_);obtain ⟨n,hn⟩:=nm_ es.length;rw [<- hn] at hlen hsm;have HN:=h_ hn;clear HD hH hE hdl hHd hO hZ hR hn;go_enter func49,ntmps49;have hx0:=HX0.cells;obtain ⟨c0,c1⟩:=hx0;go_wp2_with fail;rw [<- HW0.o,<- HG.o];refine (HDH.o w0 HB0.o).mono ?_;rintro e w1 ⟨hv,rfl,hO1,hb⟩;have HB1:=bT HB0 hb;have HX1:=h_ (HX0.later hb);have HO1:=h_ (hO1.base (base':=w.heap.size) HB0.size);clear hb hO1 HDH c0 c1 HX0 HB0;go_wp2;go_loopw [7,9,10,11] (fun o s vv i wr=>∃ (k:Nat) (A:Bs) (sq:Int) (view:List PairB),k<=n/\i=.int .i64 k/\s=.int .i64 sq/\Hid (trW cs 0 0 [] (es.take k)=(A,sq,view,k,0))/\Hid (Own wr w.heap.size o (H ++ A))/\Hid (OffS wr vv view fun j=>j < w.heap.size∨o.ownBlock=some j)/\Hid (Tbox wr g (.slice ac nc cc) (.slice ae ne ce))/\Hid (Below w.heap.size w wr)) (fun _ _ _ i _=>n - (intOf i).toNat)
  case atStart=>exact ⟨0,[],0,[],by omega,rfl,rfl,h_ (by rw [List.take_zero,trW]),h_ (by rw [List.append_nil];exact HO1.o),h_ (OffS.nil _ _),HX1,HB1⟩
  clear HX1 HB1 HO1;obtain ⟨k,A,sq,view,hk,rfl,rfl,HS,HA,HV,HXr,HB⟩:=hrel;have hx9:=HXr.cells;obtain ⟨c0,c1⟩:=hx9;by_cases hlt:k < n
  ·have hkn:k < es.length:=(by rw [<- HN.o];exact hlt);by_cases hlim:4096<=k
   ·have HT:=h_ (tr_limit HS.o hkn hlim);have hd:decide ((k:Int) ≥ 4096)=true:=decide_eq_true (by omega);clear hlim hkn;go_wp2
    (try simp only [Exit.inBlock,Exit.then]);refine bodyPost_ret (zc3 rfl _ _ _) rfl ?_
    exact WkO.no (by rw [HE.o,HT.o];exact if_pos (by simp)) rfl rfl HB.o
   have hd:decide ((k:Int) ≥ 4096)=false:=decide_eq_false (by omega);have hk4:k < 4096:=(by omega);obtain ⟨b9,o9,pv,hidx,e0,e1,e2,hpv,hbl⟩:=(HZ.o wr HB.o).get hkn;obtain ⟨x,hx⟩:=nm_ (es.getD k default);have hXO:EnO x:=(by rw [hx];exact HO.o _ (getD_mem13 hkn default));rw [<- hx] at e0 e1 hpv;obtain ⟨kd,s2,ps⟩:=x;dsimp only at e0 e1 e2 hpv;obtain ⟨ap,np,cp,rfl⟩:=hpv.lit12;obtain ⟨av,nv,cv,rfl⟩:=HV.rd.lit12;obtain ⟨n1,n2,n3⟩:=tr_known HO.o HS.o (by omega) (by omega);have hRw:=HRC.o wr HB.o;have hal:∀ b,u7.ownBlock=some b->b < wr.heap.size:=fun b hb=>(World.ownsRow.lt HA.o b hb).2
   have AP:=h_ (fun wz (hz:Below wr.heap.size wr wz)=>(zhJ (.slice ac nc cc) (.slice av nv cv) (.agg #[.int .i64 kd,.int .i64 s2,.slice ap np cp]) cs sq view (kd,s2,ps) wz (hRw.later hz l_) (HV.rd.later hz l_) ⟨_,rfl,hpv.later hz l_⟩ hC n1 hXO n2).mono
    (fun e w' h=>show (∃ rv,e=.returned (.tuple #[.int .i64 (apN cs sq view (kd,s2,ps)),rv,.int .i64 (apE cs sq view (kd,s2,ps):Nat)])/\OffS w' rv (apV cs sq view (kd,s2,ps)) fun j=>j < w.heap.size∨u7.ownBlock=some j)/\Below wr.heap.size wr w' from by
     obtain ⟨rv,he,hr,hq,hb⟩:=h
     have hbw:=hz.trans (hb.mono hz.size)
     refine ⟨⟨rv,he,?_⟩,hbw⟩
     rcases hq with ⟨e1,e2⟩ | hq
     ·rw [e1,e2];exact HV.later hbw
     ·exact hq.offS fun j hj hq=>by
       have h1:=HB.size
       have h2:=hz.size
       rcases hq with hq | hq
       ·omega
       ·have:=hal j hq;omega))
   have WR:=h_ (fun wz (hz:Below wr.heap.size wr wz)=>(ref_Write12 (.slice ac nc cc) (.agg #[.int .i64 kd,.int .i64 s2,.slice ap np cp]) cs (kd,s2,ps) wz (hRw.later hz l_) ⟨_,rfl,hpv.later hz l_⟩ hC hXO).mono
    (fun e w' h=>show ((∃ bv,e=.returned (.tuple #[bv,.int .i64 ((entW cs (kd,s2,ps)).2:Nat)])/\Own w' wr.heap.size bv (entW cs (kd,s2,ps)).1)/\Below wz.heap.size wz w')/\Below wr.heap.size wr w' from by
     obtain ⟨bv,he,hO,hb⟩:=h
     exact ⟨⟨⟨bv,he,hO.base hz.size⟩,hb⟩,hz.trans (hb.mono hz.size)⟩))
   have hXr:=HXr.o;have Q:=h_ (fun wz (hz:Below wr.heap.size wr wz)=>And.intro hz (And.intro (hXr.later hz).cells.1 (And.intro (hXr.later hz).cells.2 (And.intro (za5 hz e0) (And.intro (za5 hz e1) (za5 hz e2))))));have hL:=tr_apply HS.o hkn hk4 hx;have hM:=tr_write HS.o hkn hk4 hx;have hNx:=tr_next HO.o HS.o hkn hk4 hx;have HLN:=h_ (And.intro n3 (entW_small cs (kd,s2,ps)));have m0:Below wr.heap.size wr wr.drew:=(Below.refl _ _).drew;have HB2:=h_ (fun wz (hz:Below wr.heap.size wr wz)=>HB.trans (hz.mono HB.size));obtain ⟨E,hEd⟩:=nm_ (apE cs sq view (kd,s2,ps));obtain ⟨W,hWd⟩:=nm_ (entW cs (kd,s2,ps));rw [<- hEd] at AP hL hM hNx;rw [<- hWd] at WR hM hNx HLN;obtain ⟨V,hVd⟩:=nm_ (apV cs sq view (kd,s2,ps));obtain ⟨S,hSd⟩:=nm_ (apN cs sq view (kd,s2,ps));rw [<- hVd,<- hSd] at AP hNx;clear hEd hWd hVd hSd hx hXO hpv hRw n1 n2 n3 hlim hkn hbl e0 e1 e2 hXr hal;by_cases hE0:E=0
   ·subst hE0;obtain ⟨B,y⟩:=W;dsimp only at hM hNx WR HLN;by_cases hW0:y=0
    ·subst hW0;have HNx:=h_ (hNx rfl rfl);clear hL hM hNx;go_wp2;go_region_held3 (fun z=>Below wr.heap.size wr z/\z.cell? ⟨g,0,none⟩=some (.slice ac nc cc)/\z.cell? ⟨g,1,none⟩=some (.slice ae ne ce)/\z.cell? ⟨b9,o9,none⟩=some (.int .i64 kd)/\z.cell? ⟨b9,o9 + 1,none⟩=some (.int .i64 s2)/\z.cell? ⟨b9,o9 + 2,none⟩=some (.slice ap np cp)) (first | (exact Q.o _ m0) | go_keep)
      ((first
       | (go_at_call 81;refine (AP.o _ (by assumption)).mono ?_;rintro e w6 ⟨⟨rv,rfl,hrv⟩,m3⟩;clear m0;have m0:=m3;clear m3)))
     replace m0:=m0.drew;have HR6:=h_ (hrv.later (Below.refl _ _).drew);clear hrv;go_wp2;go_region_held3 (fun z=>Below wr.heap.size wr z/\z.cell? ⟨g,0,none⟩=some (.slice ac nc cc)/\z.cell? ⟨g,1,none⟩=some (.slice ae ne ce)/\z.cell? ⟨b9,o9,none⟩=some (.int .i64 kd)/\z.cell? ⟨b9,o9 + 1,none⟩=some (.int .i64 s2)/\z.cell? ⟨b9,o9 + 2,none⟩=some (.slice ap np cp)) (first | (exact Q.o _ m0) | go_keep)
      ((first
       | (go_at_call 83;refine (WR.o _ (by assumption)).mono ?_;rintro e w7 ⟨⟨⟨bv,rfl,hbv⟩,hq⟩,m3⟩;clear m0;have m0:=m3;clear m3)))
     have HR7:=h_ (HR6.later hq);have HB7:=h_ (HB2.o _ m0);have HX7:=h_ (HXr.later m0);have ha7:=HA.later m0 l_;have hb9:B.length<=1048591:=HLN.2;have hr7:Rd w7 bv B:=hbv.rd (by show B.length<=_;omega);have hb7:=HB7.o;clear m0 hbv hq HR6 AP WR Q HB2 HA HV HB;go_wp2_with (with_reducible refine zeI w.heap.size _ (H ++ A) ?hs ha7 _ B ?hx hr7 ?hn ?hbase w.heap.size w hb7 l_ ?_)
     case hs=>rfl
     case hx=>rfl
     case hn=>have h1:A.length<=k * 1048591:=HLN.1;have h2:=HDL.o;rw [List.length_append];omega
     case hbase=>exact hb7.size
     intro v8 w8 ho8 hb8 hg8 hp8;have HA8:=h_ (show Own w8 w.heap.size v8 (H ++ (A ++ B)) from by rw [<- List.append_assoc];exact ho8);have HB8:=h_ hb8;have HR8:=h_ (HR7.grow13 hg8 hp8)
     have HX8:=h_ (show Tbox w8 g (.slice ac nc cc) (.slice ae ne ce) from by
      unfold Tbox
      have h1:=HX7.o
      unfold Tbox at h1
      rw [hg8.block g (Array.getElem?_eq_some_iff.1 h1).1 (fun e=>by
       obtain ⟨cur,h2⟩:=own_type13 ha7 e.symm
       rw [h1] at h2
       injection h2 with h2
       injection h2 with _ h3 _
       exact absurd h3 (by decide))]
      exact h1)
     clear ho8 hb8 hg8 hp8 ha7 hr7 hb7 HR7 HX7;go_wp2;go_roundw
     case rel=>exact ⟨k + 1,A ++ B,S,V,by omega,by go_num,rfl,HNx,HA8,HR8,HX8,HB8⟩
     simp [intOf];omega
    have HT:=h_ (hM rfl hW0);have HW9:=h_ hW0;have q:((y:Int) != 0)=true:=(by rw [bne_iff_ne];omega);clear hL hM hNx hW0;go_wp2;go_region_held3 (fun z=>Below wr.heap.size wr z/\z.cell? ⟨g,0,none⟩=some (.slice ac nc cc)/\z.cell? ⟨g,1,none⟩=some (.slice ae ne ce)/\z.cell? ⟨b9,o9,none⟩=some (.int .i64 kd)/\z.cell? ⟨b9,o9 + 1,none⟩=some (.int .i64 s2)/\z.cell? ⟨b9,o9 + 2,none⟩=some (.slice ap np cp)) (first | (exact Q.o _ m0) | go_keep)
     ((first
      | (go_at_call 81;refine (AP.o _ (by assumption)).mono ?_;rintro e w6 ⟨⟨rv,rfl,hrv⟩,m3⟩;clear m0;have m0:=m3;clear m3)))
    clear hrv;replace m0:=m0.drew;go_wp2;go_region_held3 (fun z=>Below wr.heap.size wr z/\z.cell? ⟨g,0,none⟩=some (.slice ac nc cc)/\z.cell? ⟨g,1,none⟩=some (.slice ae ne ce)/\z.cell? ⟨b9,o9,none⟩=some (.int .i64 kd)/\z.cell? ⟨b9,o9 + 1,none⟩=some (.int .i64 s2)/\z.cell? ⟨b9,o9 + 2,none⟩=some (.slice ap np cp)) (first | (exact Q.o _ m0) | go_keep)
     ((first
      | (go_at_call 83;refine (WR.o _ (by assumption)).mono ?_;rintro e w7 ⟨⟨⟨bv,rfl,hbv⟩,hq⟩,m3⟩;clear m0;have m0:=m3;clear m3)))
    have HB7:=h_ (HB2.o _ m0);clear m0 hbv;go_wp2
    (try simp only [Exit.inBlock,Exit.then]);refine bodyPost_ret (zc3 rfl _ _ _) rfl ?_
    exact WkO.no (by rw [HE.o,HT.o];exact if_pos HW9.o) rfl rfl HB7.o
   have HT:=h_ (hL hE0);have q:((E:Int) != 0)=true:=(by rw [bne_iff_ne];omega);have HE0:=h_ hE0;clear hL hM hNx hE0;go_wp2;go_region_held3 (fun z=>Below wr.heap.size wr z/\z.cell? ⟨g,0,none⟩=some (.slice ac nc cc)/\z.cell? ⟨g,1,none⟩=some (.slice ae ne ce)/\z.cell? ⟨b9,o9,none⟩=some (.int .i64 kd)/\z.cell? ⟨b9,o9 + 1,none⟩=some (.int .i64 s2)/\z.cell? ⟨b9,o9 + 2,none⟩=some (.slice ap np cp)) (first | (exact Q.o _ m0) | go_keep)
    ((first
     | (go_at_call 81;refine (AP.o _ (by assumption)).mono ?_;rintro e w6 ⟨⟨rv,rfl,hrv⟩,m3⟩;clear m0;have m0:=m3;clear m3)))
   have HB7:=h_ (HB2.o _ m0);clear m0 hrv;go_wp2
   (try simp only [Exit.inBlock,Exit.then]);refine bodyPost_ret (zc3 rfl _ _ _) rfl ?_
   exact WkO.no (by rw [HE.o,HT.o];exact if_pos HE0.o) rfl rfl HB7.o
  obtain rfl:k=n:=by omega
  have HT:=h_ (show trW cs 0 0 [] es=(A,sq,view,k,0) from by have:=HS.o;rwa [List.take_of_length_le (by rw [HN.o];exact l_)] at this);have HR:=h_ (show trE cs es=(H ++ A,sq,view,k,0) from by rw [HE.o,HT.o];exact if_neg (by simp));clear hlt;go_wp2;go_quiet (fail);go_wp2
  (try simp only [Exit.inBlock,Exit.then]);refine bodyPost_ret (zc3 rfl _ _ _) rfl ?_
  exact ⟨_,_,by rw [HR.o];rfl,by rw [HR.o];exact HA.later (Go.below_drewN (Below.refl _ _) _) l_,by rw [HR.o];exact (HV.later (Go.below_drewN (Below.refl _ _) _)).more fun j _ hn hq=>hn (.inl hq),Go.below_drewN HB.o _⟩
 rw [if_pos h0] at hH hE;rw [hH] at HD;have HDH:=h_ HD;have HE:=h_ hE;obtain ⟨E,hEd⟩:=nm_ (errS (colsL cs));rw [<- hEd] at h0 HDH HE;have q:((E:Int) != 0)=true:=by rw [bne_iff_ne];omega
 clear HD hH hE hEd hO hZ hR h0 hlen hsm;go_enter func49,ntmps49;have hx0:=HX0.cells;obtain ⟨c0,c1⟩:=hx0;go_wp2_with fail;rw [<- HW0.o,<- HG.o];refine (HDH.o w0 HB0.o).mono ?_;rintro e w1 ⟨hv,rfl,hO1,hb⟩;have HB1:=bT HB0 hb;clear hb hO1 HDH c0 c1;go_wp2
 (try simp only [Exit.inBlock,Exit.then]);refine bodyPost_ret (zc3 rfl _ _ _) rfl ?_
 exact WkO.no HE.o rfl rfl HB1.o
/- -/
def EnO13 (w:World) (r:Bs × Int × List PairB × Nat × Nat) (e:Ending) (w':World):Prop :=
 ∃ ov,e=.returned (.tuple #[ov,.int .i64 (r.2.2.2.1:Nat),.int .i64 (r.2.2.2.2:Nat)])/\Own w' w.heap.size ov r.1/\Below w.heap.size w w'
def VwO13 (w:World) (r:Bs × Int × List PairB × Nat × Nat) (e:Ending) (w':World):Prop :=
 ∃ vv,e=.returned (.tuple #[.int .i64 r.2.1,vv,.int .i64 (r.2.2.2.2:Nat)])/\RdP w' vv r.2.2.1/\Below w.heap.size w w'
def VwN13 (w:World) (r:Bs × Int × List PairB × Nat × Nat) (e:Ending) (w':World):Prop :=
 ∃ vv,e=.returned (.tuple #[.int .i64 r.2.1,vv,.int .i64 (r.2.2.2.2:Nat)])/\OffS w' vv r.2.2.1 (fun j=>j < w.heap.size)/\Below w.heap.size w w'
theorem ref_Encode13 (v:Value) (cs:List ColB) (es:List EntB) (w:World) (hT:RdT13 w v cs es) (hC:CS cs) (hO:∀ x ∈ es,EnO x) :
  Calls prog 50 #[v] w (EnO13 w (trE cs es)):=by
 obtain ⟨sv,ev,rfl,hR,hZ⟩:=hT;obtain ⟨ae,ne,ce,rfl⟩:=hZ.lit;obtain ⟨ac,nc,cc,rfl⟩:=hR.lit12;obtain ⟨N1,N2⟩:=za8 w (.cells #[.slice ac nc cc,.slice ae ne ce] 71);have WK:=h_ (ref_walk13 (.agg #[.slice ac nc cc,.slice ae ne ce]) cs es _ ⟨_,_,rfl,hR.later N2 l_,hZ.later N2 l_⟩ hC hO);obtain ⟨c0,c1⟩:=(show Tbox _ _ (.slice ac nc cc) (.slice ae ne ce) from N1).cells;have HB0:=h_ N2;obtain ⟨r,hr⟩:=nm_ (trE cs es);rw [<- hr] at WK ⊢;clear N1 N2 hR hZ hC hO hr;go_enter func50,ntmps50;go_wp2_with fail;refine WK.mono ?_;rintro e w1 ⟨ov,vv,rfl,ho,hv,hb⟩;have HB1:=bT HB0 hb;have HO1:=h_ (ho.base (base':=w.heap.size) HB0.size);clear ho hv hb WK c0 c1;go_wp2;go_ret3;exact ⟨_,rfl,HO1.o,HB1.o⟩
theorem ref_View13N (v:Value) (cs:List ColB) (es:List EntB) (w:World) (hT:RdT13 w v cs es) (hC:CS cs) (hO:∀ x ∈ es,EnO x) :
  Calls prog 29 #[v] w (VwN13 w (trE cs es)):=by
 obtain ⟨sv,ev,rfl,hR,hZ⟩:=hT;obtain ⟨ae,ne,ce,rfl⟩:=hZ.lit;obtain ⟨ac,nc,cc,rfl⟩:=hR.lit12;obtain ⟨N1,N2⟩:=za8 w (.cells #[.slice ac nc cc,.slice ae ne ce] 71);have WK:=h_ (ref_walk13 (.agg #[.slice ac nc cc,.slice ae ne ce]) cs es _ ⟨_,_,rfl,hR.later N2 l_,hZ.later N2 l_⟩ hC hO);obtain ⟨c0,c1⟩:=(show Tbox _ _ (.slice ac nc cc) (.slice ae ne ce) from N1).cells;have HB0:=h_ N2;obtain ⟨r,hr⟩:=nm_ (trE cs es);rw [<- hr] at WK ⊢;clear N1 N2 hR hZ hC hO hr;go_enter func29,ntmps29;go_wp2_with fail;refine WK.mono ?_;rintro e w1 ⟨ov,vv,rfl,ho,hv,hb⟩;have HB1:=bT HB0 hb;have HV1:=h_ hv;clear ho hv hb WK c0 c1;go_wp2;go_ret3;exact ⟨_,rfl,HV1.more fun j _ hn hq=>hn (by have:=HB0.size;omega),HB1.o⟩
/- -/
/- -/
/- -/
def DcO13 (w:World) (b:Bs) (e:Ending) (w':World):Prop :=
 ∃ v,e=.returned (.tuple #[v,.int .i64 ((trD b).2.2.2.1:Nat),.int .i64 ((trD b).2.2.2.2:Nat)])/\RdT13 w' v (trD b).1 (trD b).2.1/\CS (trD b).1/\Below w.heap.size w w'
def zcQ (cs:List ColB) (ms:List (Int × Nat)):List CurB:=ms.map fun m=>(m.1,(m.2:Int),((Crc.sum (wrS (colsL cs)):Nat):Int))
