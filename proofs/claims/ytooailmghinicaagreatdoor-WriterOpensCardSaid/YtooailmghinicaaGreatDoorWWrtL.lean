/- -/
import Derived.Test.YtooailmghinicaaGreatDoorWWrtP
set_option maxHeartbeats 16000000
set_option linter.unusedVariables false
set_option linter.unusedSimpArgs false
set_option maxRecDepth 1000000
namespace Go.Proofs.YtooailmghinicaaGreatDoor
open _root_.Go.Proofs.Tryz
open Go.RowKit Go.Shelf
def zi5:List PairB:=[(ex10A,2),(ex10A,-1)]
def zbD:List PairB:=[(ex10A,1)]
theorem ex14A_ok:CES ex10A:=fun c hc=>by
 simp [ex10A] at hc
 rcases hc with rfl | rfl <;> exact ⟨by decide,by decide⟩
theorem ex14P_ok:PSO zi5:=by
 intro p hp;simp [zi5] at hp;rcases hp with rfl | rfl
 ·exact ⟨ex14A_ok,by decide,by decide⟩
 exact ⟨ex14A_ok,by decide,by decide⟩
theorem ex14Q_ok:PSO zbD:=by
 intro p hp;simp [zbD] at hp;subst hp;exact ⟨ex14A_ok,by decide,by decide⟩
theorem zk6:errS (colsL zaT)=0:=by decide +kernel
theorem ex14_clc:clcE zaT zi5=0/\clcO zaT zi5=zbD:=by decide +kernel
theorem ex14_d:apE zaT 0 [] (0,1,zbD)=0/\apN zaT 0 [] (0,1,zbD)=1/\apV zaT 0 [] (0,1,zbD)=zbD:=by decide +kernel
theorem ex14_s:apE zaT 1 zbD (1,1,zbD)=0/\apN zaT 1 zbD (1,1,zbD)=1:=by decide +kernel
theorem ex14_w1:(entW zaT (0,1,zbD)).2=0:=by decide +kernel
theorem ex14_w2:(entW zaT (1,1,zbD)).2=0:=by decide +kernel
def zh2:List EntB:=[(0,1,zbD)]
theorem zf0:TrS zaT []/\trE zaT []=(hdB (colsL zaT),0,[],0,0):=TrS.nil ziL zk6
theorem zeO:actE zaT [] (0,zi5)=0/\actX zaT [] (0,zi5)=(0,1,zbD):=by
 have hX:actX zaT [] (0,zi5)=(0,1,zbD):=by
  unfold actX;rw [if_pos rfl,zf0.2];dsimp only;rw [ex14_clc.2];rfl
 refine ⟨?_,hX⟩;unfold actE;rw [if_neg (by simp),if_neg (by rw [ex14_clc.1];simp),hX];unfold layE;rw [zf0.2];dsimp only;rw [ex14_d.1,if_neg (by simp)];exact ex14_w1
theorem ex14_out1:actB zaT [] (0,zi5)=(entW zaT (0,1,zbD)).1/\actS zaT [] (0,zi5)=zh2:=by
 unfold actB actS;rw [zeO.1,zeO.2];exact ⟨if_pos rfl,if_pos rfl⟩
theorem ze2:TrS zaT zh2/\(trE zaT zh2).2.1=1/\(trE zaT zh2).2.2.1=zbD:=by
 obtain ⟨t1,t2⟩:=act_next zf0.1 (a:=(0,zi5)) ex14P_ok zeO.1;rw [zeO.2] at t1 t2;rw [zf0.2] at t2;dsimp only at t2;rw [ex14_d.2.1,ex14_d.2.2] at t2;refine ⟨t1,?_,?_⟩
 ·show (trE zaT ([] ++ [(0,1,zbD)])).2.1=1;rw [t2]
 show (trE zaT ([] ++ [(0,1,zbD)])).2.2.1=zbD;rw [t2]
theorem zeN:actE zaT zh2 (1,[])=0/\actX zaT zh2 (1,[])=(1,1,zbD):=by
 have hX:actX zaT zh2 (1,[])=(1,1,zbD):=by
  unfold actX;rw [if_neg (by decide),ze2.2.1,ze2.2.2]
 refine ⟨?_,hX⟩;unfold actE;rw [if_neg (by simp [zh2]),if_neg (by simp),hX];unfold layE;rw [ze2.2.1,ze2.2.2,ex14_s.1,if_neg (by simp)];exact ex14_w2
theorem ex14_out2:actB zaT zh2 (1,[])=(entW zaT (1,1,zbD)).1/\actS zaT zh2 (1,[])=zh2 ++ [(1,1,zbD)]:=by
 unfold actB actS;rw [zeN.1,zeN.2];exact ⟨if_pos rfl,if_pos rfl⟩
theorem ex14_end:(trE zaT (zh2 ++ [(1,1,zbD)])).2.1=1:=by
 obtain ⟨t1,t2⟩:=act_next ze2.1 (a:=(1,[])) (fun p hp=>absurd hp (by simp)) zeN.1;rw [zeN.2] at t1 t2;rw [t2];dsimp only;rw [ze2.2.1,ze2.2.2,ex14_s.2]
theorem ze0 (w:World):Calls prog 19 #[] w fun e w'=>∃ v,e=.returned v/\RdC w' v zaT/\Below w.heap.size w w':=by
 have HV1:=h_ (rdC_two10 w (⟨#[105,100]⟩,0) (⟨#[110,97,109,101]⟩,4));go_enter func19,ntmps19;go_wp2;go_ret;exact ⟨_,rfl,HV1.o,(Below.refl _ _).alloc l_ _⟩
theorem rdP14_of (w:World) (ts:List TriB) (h:∀ t ∈ ts,RdE w t.1 t.2.1) (hs:ts.length<=100) {b:Nat} (hb:w.heap[b]?=some (.cells (ts.map triV).flatten.toArray 61 (0,0))) :
  RdP w (.slice (some ⟨b,0,none⟩) ts.length ts.length) (ts.map (·.2)):=by
 have hf:(ts.map triV).flatten.length=ts.length * 2:=by
  rw [zbF (n:=2) _ (fun x hx=>by obtain ⟨t,_,rfl⟩:=List.mem_map.1 hx;rfl),List.length_map]
 have ho:OwnG pairE w b (.slice (some ⟨b,0,none⟩) ts.length ts.length) (ts.map triV):=by
  refine ⟨⟨by rw [hf,List.length_map];rfl,.inr ⟨b,ts.length,(ts.map triV).flatten.toArray,by rw [List.length_map],l_,hb,?_⟩⟩,fun x hx=>?_,fun x hx u hu=>?_⟩
  ·refine ⟨by rw [List.length_map];exact l_,Nat.le_trans hs (by decide),by rw [List.size_toArray,hf];rfl,?_⟩;rw [List.length_map];exact List.take_of_length_le (by show (ts.map triV).flatten.length<=ts.length * 2;rw [hf];exact l_)
  ·obtain ⟨t,_,rfl⟩:=List.mem_map.1 hx;rfl
  obtain ⟨t,ht,rfl⟩:=List.mem_map.1 hx;exact zcG (h t ht) u hu
 exact ⟨ts,rfl,ho.rd (by rw [List.length_map];omega),h⟩
theorem row14 {w w':World} {r n c:Nat} {l:List CellB} (h:RdE w (.slice (some ⟨r,0,none⟩) n c) l) (hk:w'.heap[r]?=w.heap[r]?):RdE w' (.slice (some ⟨r,0,none⟩) n c) l :=
 RdG.same h fun i hi=>by rw [zaJ];exact hk
theorem law14_alive (w:World) (hT:Tabs w) (hF:Frs w) :
  Calls prog 6 #[] w fun e w'=>e=.returned (.bool true)/\Below w.heap.size w w':=by
 have HT:=h_ (fun wz (hz:Below w.heap.size w wz)=>hT.later hz);have HF:=h_ (fun wz (hz:Below w.heap.size w wz)=>hF.later hz);clear hT hF;go_enter func6,ntmps6;go_wp2_with fail;refine (ze0 w).mono ?_;rintro e w1 ⟨v1,rfl,hc,hb⟩;have HB1:=h_ hb;have NW:=h_ (writer_New v1 zaT w1 hc ziL (HT.o w1 hb));clear hc hb;go_wp2_with fail;refine NW.mono ?_;rintro e w2 ⟨v2,rfl,hb,hw⟩;rcases hw with ⟨h0,_⟩ | ⟨_,g,bv,rfl,hw⟩
 ·exact absurd zk6 h0
 have HB2:=bT HB1 hb;have HWR2:=h_ (hw (fun _=>False) (fun j h=>h.elim));have HS2:=h_ (show ∀ j,(j=g∨bv.ownBlock=some j)->j < w2.heap.size from fun j hj=>hj.elim (fun e=>by rw [e];exact HWR2.lt) fun e=>(HWR2.own.lt14 e).2);have hN1:=HB1.size;rw [zk6];clear hw hb NW;go_wp2_with fail;refine (cell_Int10 1 1 (by decide) _).mono ?_;rintro e w3 ⟨rfl,hb⟩;have HB3:=bT HB2 hb;have hw23:=hb.size;have HWR3:=h_ (HWR2.later hb);have HR3:=h_ (rdE_two10 w3 (1,⟨#[]⟩) (0,⟨#[97]⟩));clear hb HWR2;have b4:=(Below.refl w3.heap.size w3).alloc l_ (.cells #[.int .u64 1,.string ⟨#[]⟩,.int .u64 0,.string ⟨#[97]⟩] 57);have hs4:(w3.alloc (.cells #[.int .u64 1,.string ⟨#[]⟩,.int .u64 0,.string ⟨#[97]⟩] 57)).heap.size=w3.heap.size + 1:=by simp
 have hb5:=fun o=>(Below.refl (w3.alloc (.cells #[.int .u64 1,.string ⟨#[]⟩,.int .u64 0,.string ⟨#[97]⟩] 57)).heap.size _).alloc l_ o;have hn5:=fun o=>heap_alloc_new (w3.alloc (.cells #[.int .u64 1,.string ⟨#[]⟩,.int .u64 0,.string ⟨#[97]⟩] 57)) o;rw [hs4] at hn5;obtain ⟨w5,hw5⟩:=nm_ ((w3.alloc (.cells #[.int .u64 1,.string ⟨#[]⟩,.int .u64 0,.string ⟨#[97]⟩] 57)).alloc (.cells #[.slice (some ⟨w3.heap.size,0,none⟩) 2 2,.int .i64 2,.slice (some ⟨w3.heap.size,0,none⟩) 2 2,.int .i64 (-1)] 61));have HR5:=h_ (HR3.later (hb5 (.cells #[.slice (some ⟨w3.heap.size,0,none⟩) 2 2,.int .i64 2,.slice (some ⟨w3.heap.size,0,none⟩) 2 2,.int .i64 (-1)] 61)) l_);have HP5:RdP w5 (.slice (some ⟨w3.heap.size + 1,0,none⟩) 2 2) zi5:=by
  rw [hw5]
  exact rdP14_of _ [(.slice (some ⟨w3.heap.size,0,none⟩) 2 2,(ex10A,2)),(.slice (some ⟨w3.heap.size,0,none⟩) 2 2,(ex10A,-1))] (fun t ht=>by
   simp at ht
   rcases ht with rfl | rfl
   ·exact HR5.o
   ·exact HR5.o) (by simp) (hn5 _)
 have h35:Below w3.heap.size w3 w5:=by rw [hw5];exact b4.trans ((hb5 _).mono b4.size)
 rw [<- hw5] at HR5;have HB5:=bT HB3 h35;have HWR5:=HWR3.later h35;have AP:=h_ (writer_Append w1.heap.size g bv (.slice (some ⟨w3.heap.size + 1,0,none⟩) 2 2) zaT [] zi5 (fun _=>False) w5 HWR5 (fun j h=>h.elim) HP5 ex14P_ok (by decide) (HT.o w5 HB5.o) (HF.o w5 HB5.o));rw [zeO.1,ex14_out1.1,ex14_out1.2] at AP;obtain ⟨r3,hr3⟩:=nm_ w3.heap.size;have HG3:=h_ (And.intro hr3 hw5);have HRR:=h_ (show RdE w5 (.slice (some ⟨r3,0,none⟩) 2 2) ex10A from by rw [hr3];exact HR5.o);have HWR5:=h_ HWR5;have hr3l:w2.heap.size<=r3/\r3 < w5.heap.size:=by
  rw [hr3,hw5];refine ⟨hw23,?_⟩;simp;omega
 clear h35 HP5 hn5 hb5 hs4 b4 HR5 HR3 HWR3 HB3 hw23;go_wp2_with fail;rw [<- hw5];refine AP.mono ?_;rintro e w6 ⟨xa,bn,rfl,hx,hw,hO,hp⟩;obtain ⟨a6,n6,c6,rfl⟩:=hx.lit13;rw [<- hr3];have HB6:=h_ (HB5.trans ((HWR5.below hO).mono hN1));have HR6:=h_ (row14 HRR.o (hO.block r3 hr3l.2 fun hs=>by have:=HS2.o r3 hs;omega))
 have HS6:=h_ (show ¬ (r3=g∨bn.ownBlock=some r3) from fun hs=>by
  rcases hs with hs | hs
  ·have:=HS2.o r3 (.inl hs);omega
  ·rcases hp with e | hp
   ·rw [e] at hs;have:=HS2.o r3 (.inr hs);omega
   ·have:=hp r3 hs;omega)
 have hr6:r3 < w6.heap.size:=Nat.lt_of_lt_of_le hr3l.2 hO.size;have HX6:=h_ hx;have HWR6:=h_ hw;have SN:=h_ (writer_Snap w1.heap.size g bn zaT zh2 [] (fun j=>False∨(Value.slice a6 n6 c6).ownBlock=some j) w6 hw (fun j hj=>hj.elim (fun h=>h.elim) fun h=>(hx.lt14 h).2) (fun p hp=>absurd hp (by simp)) 1 (by decide) (HT.o w6 HB6.o) (HF.o w6 HB6.o));rw [zeN.1,ex14_out2.1,ex14_out2.2] at SN;clear hw5 HG3 hr3 hx hw hO hp AP HRR HWR5 HS2 hr3l;go_wp2_with fail;refine SN.mono ?_;rintro e w7 ⟨xb,bm,rfl,hx2,hw2,hO2,hp2⟩;obtain ⟨a7,n7,c7,rfl⟩:=hx2.lit13;have HB7:=h_ (HB6.trans ((HWR6.below hO2).mono hN1));have HR7:=h_ (row14 HR6.o (hO2.block r3 hr6 HS6.o))
 have HX7:=h_ (show Own w7 w5.heap.size (.slice a6 n6 c6) _ from HX6.stay hO2 fun q hq hs=>by
  have:=HWR6.free q (.inr hq)
  rcases hs with hs | hs
  ·exact this.1 hs
  ·exact this.2 hs)
 have HY7:=h_ hx2;have HWR7:=h_ hw2;have hb8:=(Below.refl w7.heap.size w7).alloc l_ (.cells #[.slice (some ⟨r3,0,none⟩) 2 2,.int .i64 1] 61)
 have HP8:=h_ (rdP14_of (w7.alloc (.cells #[.slice (some ⟨r3,0,none⟩) 2 2,.int .i64 1] 61)) [(.slice (some ⟨r3,0,none⟩) 2 2,(ex10A,1))] (fun t ht=>by
  simp at ht
  subst ht
  exact HR7.later hb8 l_) (by simp) (heap_alloc_new _ _))
 obtain ⟨w8,hw8⟩:=nm_ (w7.alloc (.cells #[.slice (some ⟨r3,0,none⟩) 2 2,.int .i64 1] 61));obtain ⟨p8,hp8⟩:=nm_ w7.heap.size;rw [<- hw8,<- hp8] at HP8;have HB78:=h_ (show Below w7.heap.size w7 w8 from by rw [hw8];exact hb8);have HP8:=h_ (show RdP w8 (.slice (some ⟨p8,0,none⟩) 1 1) zbD from HP8.o);have HB8:=bT HB7 HB78.o;have HW8:=h_ hw8;have HPP:=h_ hp8;clear hx2 hw2 hO2 hp2 SN HR6 HS6 hr6 HX6 HWR6 hb8 hw8 hp8;go_wp2_with fail;rw [<- HW8.o,<- HPP.o];refine (ze0 w8).mono ?_;rintro e w9 ⟨v9,rfl,hc,hb⟩;have HB89:=h_ hb;have EW:=h_ (ze3 v9 (.agg #[.int .i64 0,.int .i64 1,.slice (some ⟨p8,0,none⟩) 1 1]) zaT (0,1,zbD) w9 hc ⟨_,rfl,HP8.later hb l_⟩ ziL ⟨by unfold inW;dsimp only;omega,by unfold inW;dsimp only;omega,ex14Q_ok⟩ (HT.o w9 (HB8.trans (hb.mono HB8.size))) (HF.o w9 (HB8.trans (hb.mono HB8.size))));unfold RetW at EW;rw [ex14_w1] at EW;clear hc hb;go_wp2_with fail;refine EW.mono ?_;rintro e w10 ⟨xc,rfl,hx,hb⟩;obtain ⟨a10,n10,c10,rfl⟩:=hx.lit13;have HX10:=h_ hx;have HB810:=bT HB89 hb;clear hx hb EW HB89;go_wp2_with fail;refine (ze0 w10).mono ?_;rintro e w11 ⟨v11,rfl,hc,hb⟩;have HB811:=bT HB810 hb;have HX11:=h_ (HX10.later hb l_);have HB11:=bT HB8 HB811.o;have EW:=h_ (ze3 v11 (.agg #[.int .i64 1,.int .i64 1,.slice (some ⟨p8,0,none⟩) 1 1]) zaT (1,1,zbD) w11 hc ⟨_,rfl,HP8.later HB811.o l_⟩ ziL ⟨by unfold inW;dsimp only;omega,by unfold inW;dsimp only;omega,ex14Q_ok⟩ (HT.o w11 HB11.o) (HF.o w11 HB11.o));unfold RetW at EW;rw [ex14_w2] at EW;clear hc hb HB810 HX10;go_wp2_with fail;refine EW.mono ?_;rintro e w12 ⟨xd,rfl,hx,hb⟩;obtain ⟨a12,n12,c12,rfl⟩:=hx.lit13;have HB712:=h_ (HB78.trans ((HB811.trans (hb.mono HB811.size)).mono HB78.size));have HB12:=bT HB7 HB712.o;have hl1:(entW zaT (0,1,zbD)).1.length<=140737488351232:=by have:=entW_small zaT (0,1,zbD);omega
 have hl2:(entW zaT (1,1,zbD)).1.length<=140737488351232:=by have:=entW_small zaT (1,1,zbD);omega
 have SE:=h_ (writer_Seq (HWR7.later HB712.o));have MA:=h_ (ziW (HWR7.later HB712.o));rw [ex14_end] at SE;have s1:=((HX7.later HB712.o l_).rd hl1).str;have s2:=((HY7.later HB712.o l_).rd hl2).str;have s3:=((HX11.later hb l_).rd hl1).str;have s4:=(hx.rd hl2).str;clear hx hb EW HX11 HB811 HB11 HX7 HY7 HP8 HW8 HPP HB78 HB8 hl1 hl2;go_wp2_with fail;refine SE.mono ?_;rintro e w13 ⟨rfl,rfl⟩;go_wp2_with fail;refine MA.mono ?_;rintro e w13 ⟨rfl,rfl⟩;go_wp2;go_ret;exact ⟨rfl,HB12.o⟩
