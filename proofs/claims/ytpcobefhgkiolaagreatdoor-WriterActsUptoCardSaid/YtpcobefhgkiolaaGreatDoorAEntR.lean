/- -/
import Derived.Test.YtpcobefhgkiolaaGreatDoorAColRd
import Derived.Test.YtpcobefhgkiolaaGreatDoorAEntP
import Derived.Test.YtpcobefhgkiolaaGreatDoorABatRef
import Derived.Test.YtpcobefhgkiolaaGreatDoorAFrame
import Derived.Test.YtpcobefhgkiolaaGreatDoorASchW
import Derived.Test.YtpcobefhgkiolaaGreatDoorACrc
import Derived.Test.YtpcobefhgkiolaaGreatDoorABaseA
import Derived.Test.YtpcobefhgkiolaaGreatDoorAZN
import Derived.Test.YtpcobefhgkiolaaGreatDoorAColRR
import Derived.Test.YtpcobefhgkiolaaGreatDoorAZRefS
set_option linter.unusedVariables false
set_option linter.unusedSimpArgs false
set_option maxRecDepth 1000000
namespace Go.Proofs.YtpcobefhgkiolaaGreatDoor
open Go.RowKit Go.Shelf
set_option maxHeartbeats 4000000 in
theorem ref_Check12 (sv ev:Value) (cs:List ColB) (x:EntB) (w:World) (hR:RdC w sv cs) (hE:RdN w ev x) (hC:CS cs) (hX:EnO x) :
  Calls Tryz.prog 108 #[sv,ev] w fun e w'=>e=.returned (.int .i64 (entE cs x:Nat))∧Below w.heap.size w w':=by
 obtain ⟨kind,seq,ps⟩:=x
 obtain ⟨pv,rfl,hP⟩:=hE
 obtain ⟨hk,hs,hO⟩:=hX
 dsimp only at hP hk hs hO ⊢
 obtain ⟨ao,no,co,rfl⟩:=hP.lit12
 obtain ⟨N1,N2⟩:=new_one12 w (.cells #[.int .i64 kind,.int .i64 seq,.slice ao no co] 70)
 obtain ⟨w0,hw0⟩:∃ w0,w0=w.alloc (.cells #[.int .i64 kind,.int .i64 seq,.slice ao no co] 70):=⟨_,rfl⟩
 rw [← hw0] at N1 N2
 have SC:=h_ (ref_Check05 sv cs w0 (hR.later N2 l_) hC)
 have ZC:=h_ (fun wz (hz:Below w.heap.size w wz)=>ref_Check08 sv (.slice ao no co) cs ps wz (hR.later hz l_) (hP.later hz l_) hC hO)
 obtain ⟨g,hg⟩:∃ g,g=w.heap.size:=⟨_,rfl⟩
 rw [← hg] at N1
 have HE0:=h_ (show Ebox w0 g kind seq (.slice ao no co) from N1)
 have HB0:=h_ N2
 have HW0:=h_ hw0
 have HG:=h_ hg
 obtain ⟨E,hE⟩:∃ E,E=errS (colsL cs):=⟨_,rfl⟩
 obtain ⟨R,hRR⟩:∃ R,R=entE cs (kind,seq,ps):=⟨_,rfl⟩
 rw [← hE] at SC
 rw [← hRR]
 unfold entE at hRR
 dsimp only at hRR
 rw [← hE] at hRR
 clear hR hP hC hO N1 N2 hw0 hg hE
 by_cases hE0:E=0
 ·subst hE0
  rw [if_neg (by simp)] at hRR
  by_cases h1:kind < 0∨1 < kind
  ·rw [if_pos h1] at hRR
   subst hRR
   have hd:(decide (kind < 0)=true)∨(decide (kind < 0)=false∧decide (kind > 1)=true):=by
    by_cases h:kind < 0
    ·exact .inl (decide_eq_true h)
    ·exact .inr ⟨decide_eq_false h,decide_eq_true (by omega)⟩
   clear h1 ZC
   rcases hd with d1 | ⟨d1,d2⟩
   all_goals (
    go_enter Tryz.func108,Tryz.ntmps108
    go_wp2_with fail
    rw [← HW0.out,← HG.out]
    refine SC.out.mono ?_
    rintro e w1 ⟨rfl,hb⟩
    have HB1:=h_ (HB0.out.trans (hb.mono HB0.out.size))
    obtain ⟨c0,c1,c2⟩:=(HE0.out.later hb).cells
    clear hb SC HE0
    go_wp2
    go_ret
    exact ⟨rfl,HB1.out⟩)
  ·rw [if_neg h1] at hRR
   have d1:decide (kind < 0)=false:=decide_eq_false (by omega)
   have d2:decide (kind > 1)=false:=decide_eq_false (by omega)
   clear h1
   by_cases h2:seq < 0∨281474976710656 < seq
   ·rw [if_pos h2] at hRR
    subst hRR
    have hd:(decide (seq < 0)=true)∨(decide (seq < 0)=false∧decide (seq > 281474976710656)=true):=by
     by_cases h:seq < 0
     ·exact .inl (decide_eq_true h)
     ·exact .inr ⟨decide_eq_false h,decide_eq_true (by omega)⟩
    clear h2 ZC
    rcases hd with d3 | ⟨d3,d4⟩
    all_goals (
     go_enter Tryz.func108,Tryz.ntmps108
     go_wp2_with fail
     rw [← HW0.out,← HG.out]
     refine SC.out.mono ?_
     rintro e w1 ⟨rfl,hb⟩
     have HB1:=h_ (HB0.out.trans (hb.mono HB0.out.size))
     obtain ⟨c0,c1,c2⟩:=(HE0.out.later hb).cells
     clear hb SC HE0
     go_wp2
     go_ret
     exact ⟨rfl,HB1.out⟩)
   ·rw [if_neg h2] at hRR
    have d3:decide (seq < 0)=false:=decide_eq_false (by omega)
    have d4:decide (seq > 281474976710656)=false:=decide_eq_false (by omega)
    rw [← hRR] at ZC
    clear h2 hRR
    go_enter Tryz.func108,Tryz.ntmps108
    go_wp2_with fail
    rw [← HW0.out,← HG.out]
    refine SC.out.mono ?_
    rintro e w1 ⟨rfl,hb⟩
    have HB1:=h_ (HB0.out.trans (hb.mono HB0.out.size))
    obtain ⟨c0,c1,c2⟩:=(HE0.out.later hb).cells
    clear hb SC HE0
    go_wp2_with fail
    refine (ZC.out w1 HB1.out).mono ?_
    rintro e w3 ⟨rfl,hb⟩
    have HB3:=h_ (HB1.out.trans (hb.mono HB1.out.size))
    clear hb
    go_wp2
    go_ret
    exact ⟨rfl,HB3.out⟩
 ·rw [if_pos hE0] at hRR
  subst hRR
  have q:((R:Int) != 0)=true:=by rw [bne_iff_ne];omega
  clear hE0 ZC
  go_enter Tryz.func108,Tryz.ntmps108
  go_wp2_with fail
  rw [← HW0.out,← HG.out]
  refine SC.out.mono ?_
  rintro e w1 ⟨rfl,hb⟩
  have HB1:=h_ (HB0.out.trans (hb.mono HB0.out.size))
  clear hb SC HE0
  go_wp2
  go_ret
  exact ⟨rfl,HB1.out⟩
set_option maxHeartbeats 8000000 in
theorem ref_Write12 (sv ev:Value) (cs:List ColB) (x:EntB) (w:World) (hR:RdC w sv cs) (hE:RdN w ev x) (hC:CS cs) (hX:EnO x) :
  Calls Tryz.prog 77 #[sv,ev] w (RetW w (entW cs x)):=by
 obtain ⟨kind,seq,ps⟩:=x
 obtain ⟨pv,rfl,hP⟩:=hE
 dsimp only at hP
 obtain ⟨ao,no,co,rfl⟩:=hP.lit12
 have EC:=h_ (fun wz (hz:Below w.heap.size w wz)=>ref_Check12 sv _ cs (kind,seq,ps) wz (hR.later hz l_) ⟨_,rfl,hP.later hz l_⟩ hC hX)
 have hW:entW cs (kind,seq,ps)=if entE cs (kind,seq,ps)≠0 then ([],entE cs (kind,seq,ps)) else wrF (2 - kind) (entP cs (kind,seq,ps)):=rfl
 have hz:=entE_zero (cs:=cs) (x:=(kind,seq,ps))
 obtain ⟨N1,N2⟩:=new_one12 w (.cells #[.int .i64 kind,.int .i64 seq,.slice ao no co] 70)
 obtain ⟨w0,hw0⟩:∃ w0,w0=w.alloc (.cells #[.int .i64 kind,.int .i64 seq,.slice ao no co] 70):=⟨_,rfl⟩
 rw [← hw0] at N1 N2
 obtain ⟨g,hg⟩:∃ g,g=w.heap.size:=⟨_,rfl⟩
 rw [← hg] at N1
 have HE0:=h_ (show Ebox w0 g kind seq (.slice ao no co) from N1)
 have HB0:=h_ N2
 have HW0:=h_ hw0
 have HG:=h_ hg
 obtain ⟨E,hE⟩:∃ E,E=entE cs (kind,seq,ps):=⟨_,rfl⟩
 rw [← hE] at EC hW hz
 by_cases h0:E=0
 ·subst h0
  rw [if_neg (by simp)] at hW
  obtain ⟨_,hk,hs,hck⟩:=hz.1 rfl
  dsimp only at hk hs hck
  have hws:=wr_small hX.2.2 hck
  have hwp:=wr_pos cs ps
  dsimp only at hws
  have BW:=h_ (fun wz (hz:Below w.heap.size w wz)=>ref_Write10F sv (.slice ao no co) cs ps wz (hR.later hz l_) (hP.later hz l_) hC hX.2.2)
  rw [hck,if_pos rfl] at BW
  obtain ⟨n,rfl⟩:=Int.eq_ofNat_of_zero_le hs.1
  have hn:n≤281474976710656:=by omega
  have hle:=encU_le n (by omega)
  have hW:entW cs (kind,(n:Int),ps)=wrF (2 - kind) (encU n ++ btWr (kindsL cs) (psL ps)):=hW
  obtain ⟨L,hL⟩:∃ L,L=btWr (kindsL cs) (psL ps):=⟨_,rfl⟩
  rw [← hL] at hws BW hW hwp
  have HLp:=h_ hwp
  have HW:=h_ hW
  rw [hW]
  have HLs:=h_ (And.intro hle hws)
  clear hR hP hC hX hz hck hW hL hE hws hwp hle hs N1 N2 hw0 hg
  rcases hk with rfl | rfl
  ·go_enter Tryz.func77,Tryz.ntmps77
   go_wp2_with fail
   rw [← HW0.out,← HG.out]
   refine (EC.out w0 HB0.out).mono ?_
   rintro e w1 ⟨rfl,hb⟩
   have HB1:=h_ (HB0.out.trans (hb.mono HB0.out.size))
   have HE1:=h_ (HE0.out.later hb)
   obtain ⟨c0,c1,c2⟩:=HE1.out.cells
   clear hb HE0
   go_wp2_with fail
   refine (BW.out w1 HB1.out).mono ?_
   rintro e w2 ⟨bv,rfl,hO,hb⟩
   have HB2:=h_ (HB1.out.trans (hb.mono HB1.out.size))
   have hE2:=HE1.out.later hb
   have hR2:=hO.rd (by have:=HLs.out.2;omega)
   have HR2:=h_ (fun wz (hz:Below w2.heap.size w2 wz)=>hR2.later hz l_)
   clear c0 c1 c2
   have q0:=fun wz (hz:Below w2.heap.size w2 wz)=>(hE2.later hz).cells
   have Q:=h_ (fun wz (hz:Below w2.heap.size w2 wz)=>And.intro hz (And.intro (q0 wz hz).1 (q0 wz hz).2.1))
   have WU:=h_ (fun wz (hz:Below w2.heap.size w2 wz)=>(ref_Uint (n:Int) (by omega) (by omega) wz).mono (fun e w' (h:RetB wz (encU (n:Int).toNat) e w')=>show (∃ uv,e=.returned uv∧Own w' w2.heap.size uv (encU n))∧Below w2.heap.size w2 w' from by
    obtain ⟨uv,he,hO,hb⟩:=h
    rw [Int.toNat_natCast] at hO
    exact ⟨⟨uv,he,hO.base hz.size⟩,hz.trans (hb.mono hz.size)⟩))
   have FW:=h_ (fun k wz v (hz:Below w2.heap.size w2 wz) (ho:Own wz w2.heap.size v (encU n ++ L))=>(ref_Write11 k v (encU n ++ L) wz (ho.rd (by have:=HLs.out;rw [List.length_append];omega))).mono (fun e w' h=>show (∃ fv,e=.returned (.tuple #[fv,.int .i64 ((wrF k (encU n ++ L)).2:Nat)])∧Own w' w2.heap.size fv (wrF k (encU n ++ L)).1)∧Below w2.heap.size w2 w' from by
    obtain ⟨fv,he,hO,hb⟩:=h
    exact ⟨⟨fv,he,hO.base hz.size⟩,hz.trans (hb.mono hz.size)⟩))
   have hcv:IntKind.u64.wrap (n:Int)=(n:Int):=by
    have:IntKind.u64.wrap (n:Int)=(n:Int) % 18446744073709551616:=by simp [IntKind.wrap,IntKind.signed,IntKind.bits]
    omega
   have m0:Below w2.heap.size w2 w2.drew:=(Below.refl _ _).drew
   clear hb hO hR2 hE2 q0 HE1 BW EC
   go_wp2
   go_region_held3 (fun z=>Below w2.heap.size w2 z∧z.cell? ⟨g,0,none⟩=some (.int .i64 0)∧z.cell? ⟨g,1,none⟩=some (.int .i64 (n:Int))) (first | (exact Q.out _ m0) | go_keep)
    ((first
     | (go_at_call 112;refine (WU.out _ (by assumption)).mono ?_;rintro e w6 ⟨⟨uv,rfl,hOu⟩,m3⟩;clear m0;have m0:=m3;clear m3)
     | (go_at_call 111;refine (FW.out _ _ _ (by assumption) (by assumption)).mono ?_;rintro e w8 ⟨⟨fv,rfl,hOf⟩,m3⟩;clear m0;have m0:=m3;clear m3)
     | (refine stepB_append w2.heap.size uv (encU n) bv L (by rfl) (by rfl) (by assumption) (by rfl) (HR2.out _ m0) HLp.out (by have:=HLs.out;omega) m0.size w2.heap.size w2 m0 l_ ?_;intro va wa hOa m3 hga;clear m0 hga hOu;have m0:=m3;clear m3)))
   have HB3:=h_ (HB2.out.trans (m0.mono HB2.out.size))
   have HO3:=h_ (hOf.base (base':=w.heap.size) HB2.out.size)
   clear m0 hOf WU FW Q HR2
   go_wp2
   go_ret2
   exact ⟨_,rfl,HO3.out,HB3.out⟩
  ·go_enter Tryz.func77,Tryz.ntmps77
   go_wp2_with fail
   rw [← HW0.out,← HG.out]
   refine (EC.out w0 HB0.out).mono ?_
   rintro e w1 ⟨rfl,hb⟩
   have HB1:=h_ (HB0.out.trans (hb.mono HB0.out.size))
   have HE1:=h_ (HE0.out.later hb)
   obtain ⟨c0,c1,c2⟩:=HE1.out.cells
   clear hb HE0
   go_wp2_with fail
   refine (BW.out w1 HB1.out).mono ?_
   rintro e w2 ⟨bv,rfl,hO,hb⟩
   have HB2:=h_ (HB1.out.trans (hb.mono HB1.out.size))
   have hE2:=HE1.out.later hb
   have hR2:=hO.rd (by have:=HLs.out.2;omega)
   have HR2:=h_ (fun wz (hz:Below w2.heap.size w2 wz)=>hR2.later hz l_)
   clear c0 c1 c2
   have q0:=fun wz (hz:Below w2.heap.size w2 wz)=>(hE2.later hz).cells
   have Q:=h_ (fun wz (hz:Below w2.heap.size w2 wz)=>And.intro hz (And.intro (q0 wz hz).1 (q0 wz hz).2.1))
   have WU:=h_ (fun wz (hz:Below w2.heap.size w2 wz)=>(ref_Uint (n:Int) (by omega) (by omega) wz).mono (fun e w' (h:RetB wz (encU (n:Int).toNat) e w')=>show (∃ uv,e=.returned uv∧Own w' w2.heap.size uv (encU n))∧Below w2.heap.size w2 w' from by
    obtain ⟨uv,he,hO,hb⟩:=h
    rw [Int.toNat_natCast] at hO
    exact ⟨⟨uv,he,hO.base hz.size⟩,hz.trans (hb.mono hz.size)⟩))
   have FW:=h_ (fun k wz v (hz:Below w2.heap.size w2 wz) (ho:Own wz w2.heap.size v (encU n ++ L))=>(ref_Write11 k v (encU n ++ L) wz (ho.rd (by have:=HLs.out;rw [List.length_append];omega))).mono (fun e w' h=>show (∃ fv,e=.returned (.tuple #[fv,.int .i64 ((wrF k (encU n ++ L)).2:Nat)])∧Own w' w2.heap.size fv (wrF k (encU n ++ L)).1)∧Below w2.heap.size w2 w' from by
    obtain ⟨fv,he,hO,hb⟩:=h
    exact ⟨⟨fv,he,hO.base hz.size⟩,hz.trans (hb.mono hz.size)⟩))
   have hcv:IntKind.u64.wrap (n:Int)=(n:Int):=by
    have:IntKind.u64.wrap (n:Int)=(n:Int) % 18446744073709551616:=by simp [IntKind.wrap,IntKind.signed,IntKind.bits]
    omega
   have m0:Below w2.heap.size w2 w2.drew:=(Below.refl _ _).drew
   clear hb hO hR2 hE2 q0 HE1 BW EC
   go_wp2
   go_region_held3 (fun z=>Below w2.heap.size w2 z∧z.cell? ⟨g,0,none⟩=some (.int .i64 1)∧z.cell? ⟨g,1,none⟩=some (.int .i64 (n:Int))) (first | (exact Q.out _ m0) | go_keep)
    ((first
     | (go_at_call 112;refine (WU.out _ (by assumption)).mono ?_;rintro e w6 ⟨⟨uv,rfl,hOu⟩,m3⟩;clear m0;have m0:=m3;clear m3)
     | (go_at_call 111;refine (FW.out _ _ _ (by assumption) (by assumption)).mono ?_;rintro e w8 ⟨⟨fv,rfl,hOf⟩,m3⟩;clear m0;have m0:=m3;clear m3)
     | (refine stepB_append w2.heap.size uv (encU n) bv L (by rfl) (by rfl) (by assumption) (by rfl) (HR2.out _ m0) HLp.out (by have:=HLs.out;omega) m0.size w2.heap.size w2 m0 l_ ?_;intro va wa hOa m3 hga;clear m0 hga hOu;have m0:=m3;clear m3)))
   have HB3:=h_ (HB2.out.trans (m0.mono HB2.out.size))
   have HO3:=h_ (hOf.base (base':=w.heap.size) HB2.out.size)
   clear m0 hOf WU FW Q HR2
   go_wp2
   go_ret2
   exact ⟨_,rfl,HO3.out,HB3.out⟩
 ·rw [if_pos h0] at hW
  have q:((E:Int) != 0)=true:=by rw [bne_iff_ne];omega
  have HW:=h_ hW
  clear hR hP hC hX hz h0 hW hE N1 N2 hw0 hg
  go_enter Tryz.func77,Tryz.ntmps77
  go_wp2_with fail
  rw [← HW0.out,← HG.out]
  refine (EC.out w0 HB0.out).mono ?_
  rintro e w1 ⟨rfl,hb⟩
  have HB1:=h_ (HB0.out.trans (hb.mono HB0.out.size))
  clear hb HE0
  go_wp2
  go_ret2
  rw [HW.out]
  exact ⟨_,rfl,own_nil _ _,HB1.out⟩
end Go.Proofs.YtpcobefhgkiolaaGreatDoor


/- -/
namespace Go.Proofs.YtpcobefhgkiolaaGreatDoor
open Go.RowKit Go.Shelf
def ApOV (w:World) (cs:List ColB) (seq:Int) (view:List PairB) (x:EntB) (vv:Value) (e:Ending) (w':World):Prop :=
 ∃ v,e=.returned (.tuple #[.int .i64 (apN cs seq view x),v,.int .i64 (apE cs seq view x:Nat)])∧RdP w' v (apV cs seq view x)∧((v=vv∧apV cs seq view x=view)∨NewP w' w.heap.size v (apV cs seq view x))∧Below w.heap.size w w'
theorem ApOV.no {w w':World} {cs:List ColB} {seq:Int} {view:List PairB} {x:EntB} {vv:Value} {k:Nat} {y:Int} (h:apE cs seq view x=k) (hk:k≠0) (hy:y=(k:Int)) (hb:Below w.heap.size w w') :
  ApOV w cs seq view x vv (.returned (.tuple #[.int .i64 0,.slice none 0 0,.int .i64 y])) w':=by
 subst hy
 refine ⟨.slice none 0 0,?_,?_,.inr ?_,hb⟩
 ·unfold apN;rw [h,if_neg hk]
 ·unfold apV;rw [h,if_neg hk];exact RdP.nil w'
 ·unfold apV;rw [h,if_neg hk];exact NewP.nil _ _
theorem ApOV.yes {w w':World} {cs:List ColB} {seq:Int} {view qs:List PairB} {x:EntB} {v vv:Value} {n:Int} (h:apE cs seq view x=0) (hn:x.2.1=n) (hv:apV cs seq view x=qs) (hr:RdP w' v qs) (hq:(v=vv∧qs=view)∨NewP w' w.heap.size v qs) (hb:Below w.heap.size w w') :
  ApOV w cs seq view x vv (.returned (.tuple #[.int .i64 n,v,.int .i64 0])) w':=by
 subst hn hv
 refine ⟨v,?_,hr,hq,hb⟩
 unfold apN;rw [h,if_pos rfl];rfl
set_option maxHeartbeats 8000000 in
theorem ref_Apply12N (sv vv ev:Value) (cs:List ColB) (seq:Int) (view:List PairB) (x:EntB) (w:World) (hR:RdC w sv cs) (hV:RdP w vv view) (hE:RdN w ev x) (hC:CS cs) (hVO:PSO view) (hX:EnO x) (hq:inW seq) :
  Calls Tryz.prog 76 #[sv,.int .i64 seq,vv,ev] w (ApOV w cs seq view x vv):=by
 obtain ⟨kind,s2,ps⟩:=x
 obtain ⟨pv,rfl,hP⟩:=hE
 dsimp only at hP
 obtain ⟨ao,no,co,rfl⟩:=hP.lit12
 obtain ⟨av,nv,cv,rfl⟩:=hV.lit12
 have VC:=h_ (fun wz (hz:Below w.heap.size w wz)=>ref_Check08 sv (.slice av nv cv) cs view wz (hR.later hz l_) (hV.later hz l_) hC hVO)
 have EC:=h_ (fun wz (hz:Below w.heap.size w wz)=>ref_Check12 sv _ cs (kind,s2,ps) wz (hR.later hz l_) ⟨_,rfl,hP.later hz l_⟩ hC hX)
 have SM:=h_ (fun wz (hz:Below w.heap.size w wz)=>ref_Same08 (.slice av nv cv) (.slice ao no co) view ps wz (hV.later hz l_) (hP.later hz l_))
 have SU:=h_ (fun wz (hz:Below w.heap.size w wz)=>ref_Sum08N sv (.slice av nv cv) (.slice ao no co) cs view ps wz (hR.later hz l_) (hV.later hz l_) (hP.later hz l_) hC hVO hX.2.2)
 have RV:=h_ (fun wz (hz:Below w.heap.size w wz)=>hV.later hz l_)
 obtain ⟨N1,N2⟩:=new_one12 w (.cells #[.int .i64 kind,.int .i64 s2,.slice ao no co] 70)
 obtain ⟨w0,hw0⟩:∃ w0,w0=w.alloc (.cells #[.int .i64 kind,.int .i64 s2,.slice ao no co] 70):=⟨_,rfl⟩
 rw [← hw0] at N1 N2
 obtain ⟨g,hg⟩:∃ g,g=w.heap.size:=⟨_,rfl⟩
 rw [← hg] at N1
 have HE0:=h_ (show Ebox w0 g kind s2 (.slice ao no co) from N1)
 have HB0:=h_ N2
 have HW0:=h_ hw0
 have HG:=h_ hg
 have hA:apE cs seq view (kind,s2,ps)=if chkZ cs view≠0 then chkZ cs view else if seq < 0∨281474976710656 < seq then 3 else if entE cs (kind,s2,ps)≠0 then entE cs (kind,s2,ps)
   else if (kind=0∧s2≠seq + 1)∨(kind=1∧s2≠seq) then 14 else if kind=1 then (if ps=view then 0 else 15) else sumE cs view ps:=rfl
 have hVw:apE cs seq view (kind,s2,ps)=0→apV cs seq view (kind,s2,ps)=if kind=1 then view else sumO cs view ps:=fun h=>by unfold apV;rw [if_pos h]
 have hZs:chkZ cs view=0→Zs cs view:=fun h=>⟨hVO,h⟩
 have hez:=entE_zero (cs:=cs) (x:=(kind,s2,ps))
 obtain ⟨E1,hE1⟩:∃ E1,E1=chkZ cs view:=⟨_,rfl⟩
 obtain ⟨E2,hE2⟩:∃ E2,E2=entE cs (kind,s2,ps):=⟨_,rfl⟩
 rw [← hE1] at VC hA hZs
 rw [← hE2] at EC hA hez
 clear hR hV hP hC hVO hX N1 N2 hw0 hg hE1 hE2
 by_cases h1:E1=0
 ·subst h1
  rw [if_neg (by simp)] at hA
  clear hZs
  by_cases h2:seq < 0∨281474976710656 < seq
  ·rw [if_pos h2] at hA
   have HA:=h_ hA
   have hd:(decide (seq < 0)=true)∨(decide (seq < 0)=false∧decide (seq > 281474976710656)=true):=by
    by_cases h:seq < 0
    ·exact .inl (decide_eq_true h)
    ·exact .inr ⟨decide_eq_false h,decide_eq_true (by omega)⟩
   clear hA hVw h2 EC SM SU RV hez hq
   rcases hd with d5 | ⟨d5,d6⟩
   all_goals (
    go_enter Tryz.func76,Tryz.ntmps76
    go_wp2_with fail
    rw [← HW0.out,← HG.out]
    refine (VC.out w0 HB0.out).mono ?_
    rintro e w1 ⟨rfl,hb⟩
    replace HB0:=h_ (HB0.out.trans (hb.mono HB0.out.size))
    replace HE0:=h_ (HE0.out.later hb)
    clear hb VC
    go_wp2
    go_ret3
    exact ApOV.no HA.out (by decide) rfl HB0.out)
  ·rw [if_neg h2] at hA
   have h2':0≤seq∧seq≤281474976710656:=by omega
   have d5:decide (seq < 0)=false:=decide_eq_false (by omega)
   have d6:decide (seq > 281474976710656)=false:=decide_eq_false (by omega)
   clear h2
   by_cases h3:E2=0
   ·subst h3
    rw [if_neg (by simp)] at hA
    obtain ⟨_,hk,hs,hck⟩:=hez.1 rfl
    dsimp only at hk hs hck
    clear hez
    by_cases h4:(kind=0∧s2≠seq + 1)∨(kind=1∧s2≠seq)
    ·rw [if_pos h4] at hA
     have HA:=h_ hA
     have h2q:=h2'
     clear hA hVw SM SU RV hck hk hq hs h2'
     rcases h4 with ⟨rfl,h4⟩ | ⟨rfl,h4⟩
     ·have d1:(s2 != seq + 1)=true:=by rw [bne_iff_ne];exact h4
      clear h4
      go_enter Tryz.func76,Tryz.ntmps76
      go_wp2_with fail
      rw [← HW0.out,← HG.out]
      refine (VC.out w0 HB0.out).mono ?_
      rintro e w1 ⟨rfl,hb⟩
      replace HB0:=h_ (HB0.out.trans (hb.mono HB0.out.size))
      replace HE0:=h_ (HE0.out.later hb)
      clear hb VC
      obtain ⟨c0,c1,c2⟩:=HE0.out.cells
      go_wp2_with fail
      refine (EC.out w1 HB0.out).mono ?_
      rintro e w3 ⟨rfl,hb⟩
      replace HB0:=h_ (HB0.out.trans (hb.mono HB0.out.size))
      replace HE0:=h_ (HE0.out.later hb)
      clear hb EC c0 c1 c2
      obtain ⟨c0,c1,c2⟩:=HE0.out.cells
      go_wp2
      go_ret3
      exact ApOV.no HA.out (by decide) rfl HB0.out
     ·have d1:(s2 != seq)=true:=by rw [bne_iff_ne];exact h4
      clear h4
      go_enter Tryz.func76,Tryz.ntmps76
      go_wp2_with fail
      rw [← HW0.out,← HG.out]
      refine (VC.out w0 HB0.out).mono ?_
      rintro e w1 ⟨rfl,hb⟩
      replace HB0:=h_ (HB0.out.trans (hb.mono HB0.out.size))
      replace HE0:=h_ (HE0.out.later hb)
      clear hb VC
      obtain ⟨c0,c1,c2⟩:=HE0.out.cells
      go_wp2_with fail
      refine (EC.out w1 HB0.out).mono ?_
      rintro e w3 ⟨rfl,hb⟩
      replace HB0:=h_ (HB0.out.trans (hb.mono HB0.out.size))
      replace HE0:=h_ (HE0.out.later hb)
      clear hb EC c0 c1 c2
      obtain ⟨c0,c1,c2⟩:=HE0.out.cells
      go_wp2
      go_ret3
      exact ApOV.no HA.out (by decide) rfl HB0.out
    ·rw [if_neg h4] at hA
     have h0:(0:Int)≠1:=by decide
     rcases hk with rfl | rfl
     ·rw [if_neg h0] at hA
      rw [if_neg h0] at hVw
      obtain rfl:s2=seq + 1:=by omega
      have d1:((seq + 1:Int) != seq + 1)=false:=by simp
      obtain ⟨E4,hE4⟩:∃ E4,E4=sumE cs view ps:=⟨_,rfl⟩
      rw [← hE4] at hA SU
      have HA:=h_ hA
      have HV:=h_ hVw
      clear hA hVw h4 h0 SM RV hck hq hs hE4
      go_enter Tryz.func76,Tryz.ntmps76
      go_wp2_with fail
      rw [← HW0.out,← HG.out]
      refine (VC.out w0 HB0.out).mono ?_
      rintro e w1 ⟨rfl,hb⟩
      replace HB0:=h_ (HB0.out.trans (hb.mono HB0.out.size))
      replace HE0:=h_ (HE0.out.later hb)
      clear hb VC
      obtain ⟨c0,c1,c2⟩:=HE0.out.cells
      go_wp2_with fail
      refine (EC.out w1 HB0.out).mono ?_
      rintro e w3 ⟨rfl,hb⟩
      replace HB0:=h_ (HB0.out.trans (hb.mono HB0.out.size))
      replace HE0:=h_ (HE0.out.later hb)
      clear hb EC c0 c1 c2
      obtain ⟨c0,c1,c2⟩:=HE0.out.cells
      go_wp2_with fail
      refine (SU.out w3 HB0.out).mono ?_
      rintro e w5 ⟨rv,rfl,hr,hb⟩
      have HB5:=h_ (HB0.out.trans (hb.mono HB0.out.size))
      have HR5:=h_ hr
      have hr9:=hr.rd.lit12
      clear hb SU hr c0 c1 c2
      obtain ⟨ar,nr,cr,rfl⟩:=hr9
      by_cases h9:E4=0
      ·subst h9
       go_wp2
       go_ret3
       exact ApOV.yes HA.out rfl (HV.out HA.out) HR5.out.rd (.inr (HR5.out.lower HB0.out.size)) HB5.out
      ·have q9:((E4:Int) != 0)=true:=by rw [bne_iff_ne];omega
       have H9:=h_ h9
       clear h9
       go_wp2
       go_ret3
       exact ApOV.no HA.out H9.out rfl HB5.out
     ·rw [if_pos rfl] at hA
      rw [if_pos rfl] at hVw
      obtain rfl:s2=seq:=by omega
      have d1:((s2:Int) != s2)=false:=by simp
      clear h4 h0
      by_cases h5:ps=view
      ·rw [if_pos h5] at hA
       have HA:=h_ hA
       have HV:=h_ hVw
       rw [decide_eq_true h5.symm] at SM
       clear hA hVw SU hck hq hs h5
       go_enter Tryz.func76,Tryz.ntmps76
       go_wp2_with fail
       rw [← HW0.out,← HG.out]
       refine (VC.out w0 HB0.out).mono ?_
       rintro e w1 ⟨rfl,hb⟩
       replace HB0:=h_ (HB0.out.trans (hb.mono HB0.out.size))
       replace HE0:=h_ (HE0.out.later hb)
       clear hb VC
       obtain ⟨c0,c1,c2⟩:=HE0.out.cells
       go_wp2_with fail
       refine (EC.out w1 HB0.out).mono ?_
       rintro e w3 ⟨rfl,hb⟩
       replace HB0:=h_ (HB0.out.trans (hb.mono HB0.out.size))
       replace HE0:=h_ (HE0.out.later hb)
       clear hb EC c0 c1 c2
       obtain ⟨c0,c1,c2⟩:=HE0.out.cells
       go_wp2_with fail
       refine (SM.out w3 HB0.out).mono ?_
       rintro e w5 ⟨rfl,hb⟩
       have HB5:=h_ (HB0.out.trans (hb.mono HB0.out.size))
       clear hb SM c0 c1 c2
       go_wp2
       go_ret3
       exact ApOV.yes HA.out rfl (HV.out HA.out) (RV.out w5 HB5.out) (.inl ⟨rfl,rfl⟩) HB5.out
      ·rw [if_neg h5] at hA
       have HA:=h_ hA
       rw [decide_eq_false (fun e=>h5 e.symm)] at SM
       clear hA hVw SU RV hck hq hs h5
       go_enter Tryz.func76,Tryz.ntmps76
       go_wp2_with fail
       rw [← HW0.out,← HG.out]
       refine (VC.out w0 HB0.out).mono ?_
       rintro e w1 ⟨rfl,hb⟩
       replace HB0:=h_ (HB0.out.trans (hb.mono HB0.out.size))
       replace HE0:=h_ (HE0.out.later hb)
       clear hb VC
       obtain ⟨c0,c1,c2⟩:=HE0.out.cells
       go_wp2_with fail
       refine (EC.out w1 HB0.out).mono ?_
       rintro e w3 ⟨rfl,hb⟩
       replace HB0:=h_ (HB0.out.trans (hb.mono HB0.out.size))
       replace HE0:=h_ (HE0.out.later hb)
       clear hb EC c0 c1 c2
       obtain ⟨c0,c1,c2⟩:=HE0.out.cells
       go_wp2_with fail
       refine (SM.out w3 HB0.out).mono ?_
       rintro e w5 ⟨rfl,hb⟩
       have HB5:=h_ (HB0.out.trans (hb.mono HB0.out.size))
       clear hb SM c0 c1 c2
       go_wp2
       go_ret3
       exact ApOV.no HA.out (by decide) rfl HB5.out
   ·rw [if_pos h3] at hA
    have HA:=h_ hA
    have q3:((E2:Int) != 0)=true:=by rw [bne_iff_ne];omega
    have H3:=h_ h3
    clear hA hVw h3 SM SU RV hez hq
    go_enter Tryz.func76,Tryz.ntmps76
    go_wp2_with fail
    rw [← HW0.out,← HG.out]
    refine (VC.out w0 HB0.out).mono ?_
    rintro e w1 ⟨rfl,hb⟩
    replace HB0:=h_ (HB0.out.trans (hb.mono HB0.out.size))
    replace HE0:=h_ (HE0.out.later hb)
    clear hb VC
    obtain ⟨c0,c1,c2⟩:=HE0.out.cells
    go_wp2_with fail
    refine (EC.out w1 HB0.out).mono ?_
    rintro e w3 ⟨rfl,hb⟩
    replace HB0:=h_ (HB0.out.trans (hb.mono HB0.out.size))
    replace HE0:=h_ (HE0.out.later hb)
    clear hb EC c0 c1 c2
    go_wp2
    go_ret3
    exact ApOV.no HA.out H3.out rfl HB0.out
 ·rw [if_pos h1] at hA
  have HA:=h_ hA
  have q1:((E1:Int) != 0)=true:=by rw [bne_iff_ne];omega
  have H1:=h_ h1
  clear hA hVw h1 hZs EC SM SU RV hez hq
  go_enter Tryz.func76,Tryz.ntmps76
  go_wp2_with fail
  rw [← HW0.out,← HG.out]
  refine (VC.out w0 HB0.out).mono ?_
  rintro e w1 ⟨rfl,hb⟩
  replace HB0:=h_ (HB0.out.trans (hb.mono HB0.out.size))
  replace HE0:=h_ (HE0.out.later hb)
  clear hb VC
  go_wp2
  go_ret3
  exact ApOV.no HA.out H1.out rfl HB0.out
end Go.Proofs.YtpcobefhgkiolaaGreatDoor

