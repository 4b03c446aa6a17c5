/- -/
import Derived.Test.YtpcobefhgkiolaaGreatDoorCAppFull
import Derived.Test.YtpcobefhgkiolaaGreatDoorCZSameW
import Derived.Test.YtpcobefhgkiolaaGreatDoorCZDefs
import Derived.Test.YtpcobefhgkiolaaGreatDoorCTrcM
import Derived.Test.YtpcobefhgkiolaaGreatDoorCWrtM
import Derived.Test.YtpcobefhgkiolaaGreatDoorCTrcS
import Derived.Test.YtpcobefhgkiolaaGreatDoorCTrcL
import Derived.Test.YtpcobefhgkiolaaGreatDoorCWrtP
import Derived.Test.YtpcobefhgkiolaaGreatDoorCBaseB
import Derived.Test.YtpcobefhgkiolaaGreatDoorCBatW
set_option linter.unusedVariables false
set_option linter.unusedSimpArgs false
set_option maxRecDepth 1000000
namespace Go.Proofs.YtpcobefhgkiolaaGreatDoor
open Go.RowKit Go.Shelf
theorem ins_len10 {R:Type} [DecidableEq R] (cmp:R→R→Int) (r:R) (x:Int):∀ ps:List (R × Int),(Z.ins cmp r x ps).length≤ps.length + 1
 | []=>by simp [Z.ins]
 | p :: t=>by
  have ih:=ins_len10 cmp r x t
  rw [Z.ins]
  split
  ·rw [List.length_cons,List.length_cons];omega
  ·split
   ·rw [List.length_cons,List.length_cons];omega
   ·rw [List.length_cons,List.length_cons];omega
theorem from_len10 {R:Type} [DecidableEq R] (cmp:R→R→Int):∀ (ps acc:List (R × Int)),(Z.partsFrom cmp acc ps).length≤acc.length + ps.length
 | [],acc=>by simp [Z.partsFrom]
 | p :: t,acc=>by
  have h1:=ins_len10 cmp p.1 p.2 acc
  have h2:=from_len10 cmp t (Z.ins cmp p.1 p.2 acc)
  have e:Z.partsFrom cmp acc (p :: t)=Z.partsFrom cmp (Z.ins cmp p.1 p.2 acc) t:=rfl
  rw [e,List.length_cons];omega
theorem clc_len (cs:List ColB) (ps:List PairB):(clcO cs ps).length≤ps.length:=by
 unfold clcO
 split
 ·have h1:=from_len10 (cmpR cs) ps []
  have h2:(Z.nz (Z.parts (cmpR cs) ps)).length≤(Z.parts (cmpR cs) ps).length:=List.length_filter_le _ _
  have e:canonC cs ps=Z.nz (Z.parts (cmpR cs) ps):=rfl
  have e2:Z.parts (cmpR cs) ps=Z.partsFrom (cmpR cs) [] ps:=rfl
  rw [e2] at h2 e
  rw [e]
  simp at h1
  omega
 ·simp
end Go.Proofs.YtpcobefhgkiolaaGreatDoor


/- -/
namespace Go.Proofs.YtpcobefhgkiolaaGreatDoor
open Go.RowKit Go.Shelf
theorem entP_small {cs:List ColB} {x:EntB} (hS:errS (colsL cs)=0) (hs:0≤x.2.1∧x.2.1≤281474976710656) (hz:Zs cs x.2.2) (hl:x.2.2.length≤400):(entP cs x).length≤1048576:=by
 have h1:=wr_le hz.1 hz.2
 have h2:=text_small (cs:=cs) (ps:=x.2.2) (fun p hp=>hz.all p hp)
 have hc:cs.length≤8:=by have:=(errS_zero hS).2.1;rw [colsL_length] at this;exact this
 have h3:10 * x.2.2.length * (cs.length + 1)≤10 * x.2.2.length * 9:=Nat.mul_le_mul_left _ (by omega)
 have h4:=encU_le x.2.1.toNat (by omega)
 unfold entP
 rw [List.length_append]
 omega
end Go.Proofs.YtpcobefhgkiolaaGreatDoor


/- -/
namespace Go.Proofs.YtpcobefhgkiolaaGreatDoor
open Go.RowKit Go.Shelf
section
variable {w w':World} {v:Value} {l:List ActB}
end
end Go.Proofs.YtpcobefhgkiolaaGreatDoor


/- -/
namespace Go.Proofs.YtpcobefhgkiolaaGreatDoor
open Go.RowKit Go.Shelf
def ex14P:List PairB:=[(ex10A,2),(ex10A,-1)]
def ex14Q:List PairB:=[(ex10A,1)]
theorem ex14A_ok:CES ex10A:=fun c hc=>by
 simp [ex10A] at hc
 rcases hc with rfl | rfl <;> exact ⟨by decide,by decide⟩
theorem ex14P_ok:PSO ex14P:=by
 intro p hp
 simp [ex14P] at hp
 rcases hp with rfl | rfl
 ·exact ⟨ex14A_ok,by decide,by decide⟩
 ·exact ⟨ex14A_ok,by decide,by decide⟩
theorem ex14Q_ok:PSO ex14Q:=by
 intro p hp
 simp [ex14Q] at hp
 subst hp
 exact ⟨ex14A_ok,by decide,by decide⟩
theorem ex14_fine:errS (colsL ex10C)=0:=by decide +kernel
theorem ex14_clc:clcE ex10C ex14P=0∧clcO ex10C ex14P=ex14Q:=by decide +kernel
theorem ex14_d:apE ex10C 0 [] (0,1,ex14Q)=0∧apN ex10C 0 [] (0,1,ex14Q)=1∧apV ex10C 0 [] (0,1,ex14Q)=ex14Q:=by decide +kernel
theorem ex14_s:apE ex10C 1 ex14Q (1,1,ex14Q)=0∧apN ex10C 1 ex14Q (1,1,ex14Q)=1:=by decide +kernel
theorem ex14_w1:(entW ex10C (0,1,ex14Q)).2=0:=by decide +kernel
theorem ex14_w2:(entW ex10C (1,1,ex14Q)).2=0:=by decide +kernel
def ex14X:List EntB:=[(0,1,ex14Q)]
theorem ex14_start:TrS ex10C []∧trE ex10C []=(hdB (colsL ex10C),0,[],0,0):=TrS.nil ex10C_ok ex14_fine
theorem ex14_act1:actE ex10C [] (0,ex14P)=0∧actX ex10C [] (0,ex14P)=(0,1,ex14Q):=by
 have hX:actX ex10C [] (0,ex14P)=(0,1,ex14Q):=by
  unfold actX
  rw [if_pos rfl,ex14_start.2]
  dsimp only
  rw [ex14_clc.2]
  rfl
 refine ⟨?_,hX⟩
 unfold actE
 rw [if_neg (by simp),if_neg (by rw [ex14_clc.1];simp),hX]
 unfold layE
 rw [ex14_start.2]
 dsimp only
 rw [ex14_d.1,if_neg (by simp)]
 exact ex14_w1
theorem ex14_out1:actB ex10C [] (0,ex14P)=(entW ex10C (0,1,ex14Q)).1∧actS ex10C [] (0,ex14P)=ex14X:=by
 unfold actB actS
 rw [ex14_act1.1,ex14_act1.2]
 exact ⟨if_pos rfl,if_pos rfl⟩
theorem ex14_mid:TrS ex10C ex14X∧(trE ex10C ex14X).2.1=1∧(trE ex10C ex14X).2.2.1=ex14Q:=by
 obtain ⟨t1,t2⟩:=act_next ex14_start.1 (a:=(0,ex14P)) ex14P_ok ex14_act1.1
 rw [ex14_act1.2] at t1 t2
 rw [ex14_start.2] at t2
 dsimp only at t2
 rw [ex14_d.2.1,ex14_d.2.2] at t2
 refine ⟨t1,?_,?_⟩
 ·show (trE ex10C ([] ++ [(0,1,ex14Q)])).2.1=1
  rw [t2]
 ·show (trE ex10C ([] ++ [(0,1,ex14Q)])).2.2.1=ex14Q
  rw [t2]
theorem ex14_act2:actE ex10C ex14X (1,[])=0∧actX ex10C ex14X (1,[])=(1,1,ex14Q):=by
 have hX:actX ex10C ex14X (1,[])=(1,1,ex14Q):=by
  unfold actX
  rw [if_neg (by decide),ex14_mid.2.1,ex14_mid.2.2]
 refine ⟨?_,hX⟩
 unfold actE
 rw [if_neg (by simp [ex14X]),if_neg (by simp),hX]
 unfold layE
 rw [ex14_mid.2.1,ex14_mid.2.2,ex14_s.1,if_neg (by simp)]
 exact ex14_w2
theorem ex14_out2:actB ex10C ex14X (1,[])=(entW ex10C (1,1,ex14Q)).1∧actS ex10C ex14X (1,[])=ex14X ++ [(1,1,ex14Q)]:=by
 unfold actB actS
 rw [ex14_act2.1,ex14_act2.2]
 exact ⟨if_pos rfl,if_pos rfl⟩
theorem ex14_end:(trE ex10C (ex14X ++ [(1,1,ex14Q)])).2.1=1:=by
 obtain ⟨t1,t2⟩:=act_next ex14_mid.1 (a:=(1,[])) (fun p hp=>absurd hp (by simp)) ex14_act2.1
 rw [ex14_act2.2] at t1 t2
 rw [t2]
 dsimp only
 rw [ex14_mid.2.1,ex14_mid.2.2,ex14_s.2]
set_option maxHeartbeats 1000000 in
theorem law14_example (w:World):Calls Tryz.prog 34 #[] w fun e w'=>∃ v,e=.returned v∧RdC w' v ex10C∧Below w.heap.size w w':=by
 have HV1:=h_ (rdC_two10 w (⟨#[105,100]⟩,0) (⟨#[110,97,109,101]⟩,4))
 go_enter Tryz.func34,Tryz.ntmps34
 go_wp2
 go_ret
 exact ⟨_,rfl,HV1.out,(Below.refl _ _).alloc l_ _⟩
theorem rdP14_of (w:World) (ts:List TriB) (h:∀ t ∈ ts,RdE w t.1 t.2.1) (hs:ts.length≤100) {b:Nat} (hb:w.heap[b]?=some (.cells (ts.map triV).flatten.toArray 78 (0,0))) :
  RdP w (.slice (some ⟨b,0,none⟩) ts.length ts.length) (ts.map (·.2)):=by
 have hf:(ts.map triV).flatten.length=ts.length * 2:=by
  rw [flatG_len (n:=2) _ (fun x hx=>by obtain ⟨t,_,rfl⟩:=List.mem_map.1 hx;rfl),List.length_map]
 have ho:OwnG pairE w b (.slice (some ⟨b,0,none⟩) ts.length ts.length) (ts.map triV):=by
  refine ⟨⟨by rw [hf,List.length_map];rfl,.inr ⟨b,ts.length,(ts.map triV).flatten.toArray,by rw [List.length_map],l_,hb,?_⟩⟩,fun x hx=>?_,fun x hx u hu=>?_⟩
  ·refine ⟨by rw [List.length_map];exact l_,Nat.le_trans hs (by decide),by rw [List.size_toArray,hf];rfl,?_⟩
   rw [List.length_map]
   exact List.take_of_length_le (by show (ts.map triV).flatten.length≤ts.length * 2;rw [hf];exact l_)
  ·obtain ⟨t,_,rfl⟩:=List.mem_map.1 hx;rfl
  ·obtain ⟨t,ht,rfl⟩:=List.mem_map.1 hx;exact triV_one (h t ht) u hu
 exact ⟨ts,rfl,ho.rd (by rw [List.length_map];omega),h⟩
theorem row14 {w w':World} {r n c:Nat} {l:List CellB} (h:RdE w (.slice (some ⟨r,0,none⟩) n c) l) (hk:w'.heap[r]?=w.heap[r]?):RdE w' (.slice (some ⟨r,0,none⟩) n c) l :=
 RdG.same h fun i hi=>by rw [adr_lit];exact hk
set_option maxHeartbeats 16000000 in
theorem law14_alive (w:World) (hT:Tabs w) (hF:Frs w) :
  Calls Tryz.prog 10 #[] w fun e w'=>e=.returned (.bool true)∧Below w.heap.size w w':=by
 have HT:=h_ (fun wz (hz:Below w.heap.size w wz)=>hT.later hz)
 have HF:=h_ (fun wz (hz:Below w.heap.size w wz)=>hF.later hz)
 clear hT hF
 go_enter Tryz.func10,Tryz.ntmps10
 go_wp2_with fail
 refine (law14_example w).mono ?_
 rintro e w1 ⟨v1,rfl,hc,hb⟩
 have HB1:=h_ hb
 have NW:=h_ (writer_New v1 ex10C w1 hc ex10C_ok (HT.out w1 hb))
 clear hc hb
 go_wp2_with fail
 refine NW.out.mono ?_
 rintro e w2 ⟨v2,rfl,hb,hw⟩
 rcases hw with ⟨h0,_⟩ | ⟨_,g,bv,rfl,hw⟩
 ·exact absurd ex14_fine h0
 have HB2:=h_ (HB1.out.trans (hb.mono HB1.out.size))
 have HWR2:=h_ (hw (fun _=>False) (fun j h=>h.elim))
 have HS2:=h_ (show ∀ j,(j=g∨bv.ownBlock=some j)→j < w2.heap.size from fun j hj=>hj.elim (fun e=>by rw [e];exact HWR2.out.lt) fun e=>(HWR2.out.own.lt14 e).2)
 have hN1:=HB1.out.size
 rw [ex14_fine]
 clear hw hb NW
 go_wp2_with fail
 refine (cell_Int10 1 1 (by decide) _).mono ?_
 rintro e w3 ⟨rfl,hb⟩
 have HB3:=h_ (HB2.out.trans (hb.mono HB2.out.size))
 have hw23:=hb.size
 have HWR3:=h_ (HWR2.out.later hb)
 have HR3:=h_ (rdE_two10 w3 (1,⟨#[]⟩) (0,⟨#[97]⟩))
 clear hb HWR2
 have b4:=(Below.refl w3.heap.size w3).alloc l_ (.cells #[.int .u64 1,.string ⟨#[]⟩,.int .u64 0,.string ⟨#[97]⟩] 83)
 have hs4:(w3.alloc (.cells #[.int .u64 1,.string ⟨#[]⟩,.int .u64 0,.string ⟨#[97]⟩] 83)).heap.size=w3.heap.size + 1:=by simp
 have hb5:=fun o=>(Below.refl (w3.alloc (.cells #[.int .u64 1,.string ⟨#[]⟩,.int .u64 0,.string ⟨#[97]⟩] 83)).heap.size _).alloc l_ o
 have hn5:=fun o=>heap_alloc_new (w3.alloc (.cells #[.int .u64 1,.string ⟨#[]⟩,.int .u64 0,.string ⟨#[97]⟩] 83)) o
 rw [hs4] at hn5
 obtain ⟨w5,hw5⟩:∃ w5,w5=(w3.alloc (.cells #[.int .u64 1,.string ⟨#[]⟩,.int .u64 0,.string ⟨#[97]⟩] 83)).alloc (.cells #[.slice (some ⟨w3.heap.size,0,none⟩) 2 2,.int .i64 2,.slice (some ⟨w3.heap.size,0,none⟩) 2 2,.int .i64 (-1)] 78):=⟨_,rfl⟩
 have HR5:=h_ (HR3.out.later (hb5 (.cells #[.slice (some ⟨w3.heap.size,0,none⟩) 2 2,.int .i64 2,.slice (some ⟨w3.heap.size,0,none⟩) 2 2,.int .i64 (-1)] 78)) l_)
 have HP5:RdP w5 (.slice (some ⟨w3.heap.size + 1,0,none⟩) 2 2) ex14P:=by
  rw [hw5]
  exact rdP14_of _ [(.slice (some ⟨w3.heap.size,0,none⟩) 2 2,(ex10A,2)),(.slice (some ⟨w3.heap.size,0,none⟩) 2 2,(ex10A,-1))] (fun t ht=>by
   simp at ht
   rcases ht with rfl | rfl
   ·exact HR5.out
   ·exact HR5.out) (by simp) (hn5 _)
 have h35:Below w3.heap.size w3 w5:=by rw [hw5];exact b4.trans ((hb5 _).mono b4.size)
 rw [← hw5] at HR5
 have HB5:=h_ (HB3.out.trans (h35.mono HB3.out.size))
 have HWR5:=HWR3.out.later h35
 have AP:=h_ (writer_Append w1.heap.size g bv (.slice (some ⟨w3.heap.size + 1,0,none⟩) 2 2) ex10C [] ex14P (fun _=>False) w5 HWR5 (fun j h=>h.elim) HP5 ex14P_ok (by decide) (HT.out w5 HB5.out) (HF.out w5 HB5.out))
 rw [ex14_act1.1,ex14_out1.1,ex14_out1.2] at AP
 obtain ⟨r3,hr3⟩:∃ r3,r3=w3.heap.size:=⟨_,rfl⟩
 have HG3:=h_ (And.intro hr3 hw5)
 have HRR:=h_ (show RdE w5 (.slice (some ⟨r3,0,none⟩) 2 2) ex10A from by rw [hr3];exact HR5.out)
 have HWR5:=h_ HWR5
 have hr3l:w2.heap.size≤r3∧r3 < w5.heap.size:=by
  rw [hr3,hw5]
  refine ⟨hw23,?_⟩
  simp;omega
 clear h35 HP5 hn5 hb5 hs4 b4 HR5 HR3 HWR3 HB3 hw23
 go_wp2_with fail
 rw [← hw5]
 refine AP.out.mono ?_
 rintro e w6 ⟨xa,bn,rfl,hx,hw,hO,hp⟩
 obtain ⟨a6,n6,c6,rfl⟩:=hx.lit13
 rw [← hr3]
 have HB6:=h_ (HB5.out.trans ((HWR5.out.below hO).mono hN1))
 have HR6:=h_ (row14 HRR.out (hO.block r3 hr3l.2 fun hs=>by have:=HS2.out r3 hs;omega))
 have HS6:=h_ (show ¬ (r3=g∨bn.ownBlock=some r3) from fun hs=>by
  rcases hs with hs | hs
  ·have:=HS2.out r3 (.inl hs);omega
  ·rcases hp with e | hp
   ·rw [e] at hs;have:=HS2.out r3 (.inr hs);omega
   ·have:=hp r3 hs;omega)
 have hr6:r3 < w6.heap.size:=Nat.lt_of_lt_of_le hr3l.2 hO.size
 have HX6:=h_ hx
 have HWR6:=h_ hw
 have SN:=h_ (writer_Snap w1.heap.size g bn ex10C ex14X [] (fun j=>False∨(Value.slice a6 n6 c6).ownBlock=some j) w6 hw (fun j hj=>hj.elim (fun h=>h.elim) fun h=>(hx.lt14 h).2) (fun p hp=>absurd hp (by simp)) 1 (by decide) (HT.out w6 HB6.out) (HF.out w6 HB6.out))
 rw [ex14_act2.1,ex14_out2.1,ex14_out2.2] at SN
 clear hw5 HG3 hr3 hx hw hO hp AP HRR HWR5 HS2 hr3l
 go_wp2_with fail
 refine SN.out.mono ?_
 rintro e w7 ⟨xb,bm,rfl,hx2,hw2,hO2,hp2⟩
 obtain ⟨a7,n7,c7,rfl⟩:=hx2.lit13
 have HB7:=h_ (HB6.out.trans ((HWR6.out.below hO2).mono hN1))
 have HR7:=h_ (row14 HR6.out (hO2.block r3 hr6 HS6.out))
 have HX7:=h_ (show Own w7 w5.heap.size (.slice a6 n6 c6) _ from HX6.out.stay hO2 fun q hq hs=>by
  have:=HWR6.out.free q (.inr hq)
  rcases hs with hs | hs
  ·exact this.1 hs
  ·exact this.2 hs)
 have HY7:=h_ hx2
 have HWR7:=h_ hw2
 have hb8:=(Below.refl w7.heap.size w7).alloc l_ (.cells #[.slice (some ⟨r3,0,none⟩) 2 2,.int .i64 1] 78)
 have HP8:=h_ (rdP14_of (w7.alloc (.cells #[.slice (some ⟨r3,0,none⟩) 2 2,.int .i64 1] 78)) [(.slice (some ⟨r3,0,none⟩) 2 2,(ex10A,1))] (fun t ht=>by
  simp at ht
  subst ht
  exact HR7.out.later hb8 l_) (by simp) (heap_alloc_new _ _))
 obtain ⟨w8,hw8⟩:∃ w8,w8=w7.alloc (.cells #[.slice (some ⟨r3,0,none⟩) 2 2,.int .i64 1] 78):=⟨_,rfl⟩
 obtain ⟨p8,hp8⟩:∃ p8,p8=w7.heap.size:=⟨_,rfl⟩
 rw [← hw8,← hp8] at HP8
 have HB78:=h_ (show Below w7.heap.size w7 w8 from by rw [hw8];exact hb8)
 have HP8:=h_ (show RdP w8 (.slice (some ⟨p8,0,none⟩) 1 1) ex14Q from HP8.out)
 have HB8:=h_ (HB7.out.trans (HB78.out.mono HB7.out.size))
 have HW8:=h_ hw8
 have HPP:=h_ hp8
 clear hx2 hw2 hO2 hp2 SN HR6 HS6 hr6 HX6 HWR6 hb8 hw8 hp8
 go_wp2_with fail
 rw [← HW8.out,← HPP.out]
 refine (law14_example w8).mono ?_
 rintro e w9 ⟨v9,rfl,hc,hb⟩
 have HB89:=h_ hb
 have EW:=h_ (entry_Write v9 (.agg #[.int .i64 0,.int .i64 1,.slice (some ⟨p8,0,none⟩) 1 1]) ex10C (0,1,ex14Q) w9 hc ⟨_,rfl,HP8.out.later hb l_⟩ ex10C_ok ⟨by unfold inW;dsimp only;omega,by unfold inW;dsimp only;omega,ex14Q_ok⟩ (HT.out w9 (HB8.out.trans (hb.mono HB8.out.size))) (HF.out w9 (HB8.out.trans (hb.mono HB8.out.size))))
 unfold RetW at EW
 rw [ex14_w1] at EW
 clear hc hb
 go_wp2_with fail
 refine EW.out.mono ?_
 rintro e w10 ⟨xc,rfl,hx,hb⟩
 obtain ⟨a10,n10,c10,rfl⟩:=hx.lit13
 have HX10:=h_ hx
 have HB810:=h_ (HB89.out.trans (hb.mono HB89.out.size))
 clear hx hb EW HB89
 go_wp2_with fail
 refine (law14_example w10).mono ?_
 rintro e w11 ⟨v11,rfl,hc,hb⟩
 have HB811:=h_ (HB810.out.trans (hb.mono HB810.out.size))
 have HX11:=h_ (HX10.out.later hb l_)
 have HB11:=h_ (HB8.out.trans (HB811.out.mono HB8.out.size))
 have EW:=h_ (entry_Write v11 (.agg #[.int .i64 1,.int .i64 1,.slice (some ⟨p8,0,none⟩) 1 1]) ex10C (1,1,ex14Q) w11 hc ⟨_,rfl,HP8.out.later HB811.out l_⟩ ex10C_ok ⟨by unfold inW;dsimp only;omega,by unfold inW;dsimp only;omega,ex14Q_ok⟩ (HT.out w11 HB11.out) (HF.out w11 HB11.out))
 unfold RetW at EW
 rw [ex14_w2] at EW
 clear hc hb HB810 HX10
 go_wp2_with fail
 refine EW.out.mono ?_
 rintro e w12 ⟨xd,rfl,hx,hb⟩
 obtain ⟨a12,n12,c12,rfl⟩:=hx.lit13
 have HB712:=h_ (HB78.out.trans ((HB811.out.trans (hb.mono HB811.out.size)).mono HB78.out.size))
 have HB12:=h_ (HB7.out.trans (HB712.out.mono HB7.out.size))
 have hl1:(entW ex10C (0,1,ex14Q)).1.length≤140737488351232:=by have:=entW_small ex10C (0,1,ex14Q);omega
 have hl2:(entW ex10C (1,1,ex14Q)).1.length≤140737488351232:=by have:=entW_small ex10C (1,1,ex14Q);omega
 have SE:=h_ (writer_Seq (HWR7.out.later HB712.out))
 have MA:=h_ (writer_Many (HWR7.out.later HB712.out))
 rw [ex14_end] at SE
 have s1:=((HX7.out.later HB712.out l_).rd hl1).str
 have s2:=((HY7.out.later HB712.out l_).rd hl2).str
 have s3:=((HX11.out.later hb l_).rd hl1).str
 have s4:=(hx.rd hl2).str
 clear hx hb EW HX11 HB811 HB11 HX7 HY7 HP8 HW8 HPP HB78 HB8 hl1 hl2
 go_wp2_with fail
 refine SE.out.mono ?_
 rintro e w13 ⟨rfl,rfl⟩
 go_wp2_with fail
 refine MA.out.mono ?_
 rintro e w13 ⟨rfl,rfl⟩
 go_wp2
 go_ret
 exact ⟨rfl,HB12.out⟩
end Go.Proofs.YtpcobefhgkiolaaGreatDoor

