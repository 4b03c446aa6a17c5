/- -/
import Derived.Test.YtpcobefhgkiolaaGreatDoorAWrtP
import Derived.Test.YtpcobefhgkiolaaGreatDoorAEntR
import Derived.Test.YtpcobefhgkiolaaGreatDoorATrcS
import Derived.Test.YtpcobefhgkiolaaGreatDoorARefR
import Derived.Test.YtpcobefhgkiolaaGreatDoorAZN
import Derived.BigRegion
import Derived.Deep.RegionLaw
import Derived.Test.YtpcobefhgkiolaaGreatDoorACrc
import Derived.Test.YtpcobefhgkiolaaGreatDoorASchema
import Derived.Test.YtpcobefhgkiolaaGreatDoorABaseA
set_option linter.unusedVariables false
set_option linter.unusedSimpArgs false
set_option maxRecDepth 1000000
namespace Go.Proofs.YtpcobefhgkiolaaGreatDoor
open Go.RowKit Go.Shelf
def NmO (w:World) (sv:Value) (cs:List ColB) (e:Ending) (w':World):Prop :=
 ∃ v,e=.returned (.tuple #[v,.int .i64 (errS (colsL cs):Nat)])∧Below w.heap.size w w' ∧
  ((errS (colsL cs)≠0∧v=.pointer none)∨(errS (colsL cs)=0∧∃ g,v=.pointer (some ⟨g,0,none⟩)∧∀ Q:Nat→Prop,OffG colE w sv (cs.map colV) Q→(∀ j,Q j→j < w.heap.size)→Mr w' w.heap.size g cs [] Q))
set_option maxHeartbeats 4000000 in
theorem ref_New14 (v:Value) (cs:List ColB) (w:World) (hR:RdC w v cs) (hC:CS cs):Calls Tryz.prog 13 #[v] w (NmO w v cs):=by
 have CK:=h_ (ref_Check05 v cs w hR hC)
 obtain ⟨ac,nc,cc,rfl⟩:=hR.lit12
 have HR:=h_ hR
 have HC:=h_ hC
 unfold NmO
 obtain ⟨E,hE⟩:∃ E,E=errS (colsL cs):=⟨_,rfl⟩
 have HEd:=h_ hE
 rw [← hE] at CK ⊢
 clear hR hC hE
 by_cases h0:E=0
 ·subst h0
  go_enter Tryz.func13,Tryz.ntmps13
  go_wp2_with fail
  refine CK.out.mono ?_
  rintro e w1 ⟨rfl,hb⟩
  have HB1:=h_ hb
  clear hb CK
  go_wp2
  go_ret2
  obtain ⟨N1,N2⟩:=new_one12 w1 (.cells #[.slice ac nc cc,.slice none 0 0,.int .i64 0,.slice none 0 0] 48)
  refine ⟨_,rfl,HB1.out.trans (N2.mono HB1.out.size),.inr ⟨by trivial,_,rfl,fun Q hq0 hQ=>?_⟩⟩
  obtain ⟨t1,t2⟩:=TrS.nil HC.out HEd.out.symm
  have h1:=HB1.out.size
  have hk:=HB1.out.trans (N2.mono h1)
  have hq:∀ j,j < w.heap.size→¬ Q j→¬ (Q j∨j=w1.heap.size):=fun j hj hn hq=>by
   rcases hq with hq | hq
   ·exact hn hq
   ·omega
  refine ⟨t1,by omega,fun h=>by have:=hQ _ h;omega,.slice ac nc cc,.slice none 0 0,.slice none 0 0,[],by rw [t2];exact N1,rfl,?_,⟨RdG.nil _ _,fun i hi=>absurd hi (by simp)⟩,by rw [t2];exact OffS.nil _ _,fun t ht=>absurd ht (by simp)⟩
  exact (hq0.more colOk hq).keep colOk fun j hj _=>hk.block j hj
 ·have q:((E:Int) != 0)=true:=by rw [bne_iff_ne];omega
  have HN:=h_ h0
  clear h0
  go_enter Tryz.func13,Tryz.ntmps13
  go_wp2_with fail
  refine CK.out.mono ?_
  rintro e w1 ⟨rfl,hb⟩
  have HB1:=h_ hb
  clear hb CK
  go_wp2
  go_ret2
  exact ⟨_,rfl,HB1.out,.inl ⟨HN.out,rfl⟩⟩
theorem SmO.from {w w1 w':World} {N g:Nat} {cs:List ColB} {Q:Nat→Prop} {E:Nat} {B:List UInt8} {es':List EntB} {e:Ending} (h:SmO w1 N g cs Q E B es' e w') (hb:Below w.heap.size w w1):SmO w N g cs Q E B es' e w':=by
 obtain ⟨x,he,hx,hw,hO⟩:=h
 exact ⟨x,he,hx.base hb.size,hw,(hidOnly hb l_).trans hO⟩
theorem SmO.as {w w':World} {N g:Nat} {cs:List ColB} {Q:Nat→Prop} {E E':Nat} {B B':List UInt8} {es es':List EntB} {e:Ending} (h:SmO w N g cs Q E B es e w') (hE:E'=E) (hB:B'=B) (hes:es'=es):SmO w N g cs Q E' B' es' e w':=by
 subst hE hB hes;exact h
theorem stepZ14_append {ops:Array Oper} {a:Act} {w:World} {K:Act→World→Prop} {Q:Exit→Act→World→Prop} {E:Prop} {dst:Option Tmp} {ty:TypeId} {pos:String} {aft:Array Edge} {s x:Operand} {gu:Option (Nat × Bool)} {ts:List EntV}
  (base:Nat) (sv xv:Value) (us:List EntV) (hw:Region.wanted ⟨dst,.call ⟨.builtin .append,#[s,x],#[44,44]⟩,ty,pos,aft,gu⟩ (yielded ops a.tmps)=true)
  (hs:a.eval s=sv) (ho:OwnG entryE w base sv (ts.map enV)) (hx:a.eval x=xv) (hr:RdG entryE w xv (us.map enV)) (hone:∀ t ∈ us,RdP w t.1 t.2.2.2)
  (hn:(ts.length + us.length) * 40≤140737488355328) (hbase:base≤w.heap.size)
  (B:Nat) (w0:World) (hb:Below B w0 w) (hBb:B≤base)
  (h:∀ v' w',OwnG entryE w' base v' ((ts ++ us).map enV)→Below B w0 w'→w.grownBy w' sv.ownBlock→K (a.put dst v') w') :
  if Region.wanted ⟨dst,.call ⟨.builtin .append,#[s,x],#[44,44]⟩,ty,pos,aft,gu⟩ (yielded ops a.tmps)=true then Oper.wp Tryz.prog ⟨dst,.call ⟨.builtin .append,#[s,x],#[44,44]⟩,ty,pos,aft,gu⟩ a w K Q else E:=by
 rw [if_pos hw]
 refine wpG_appendAll entryOk base sv hs ho xv hx hr ?_ (by rw [List.length_map,List.length_map];exact hn) (by rw [List.length_map,List.length_map];omega) hbase B w0 hb hBb (fun v' w' h1 h2 h3 _=>h v' w' (by rw [List.map_append];exact h1) h2 h3)
 intro y hy
 obtain ⟨t,ht,rfl⟩:=List.mem_map.1 hy
 exact enV_one (hone t ht)
theorem blk0_14 (w:World) (o:Obj):(w.alloc o).heap[w.heap.size]?=some o:=heap_alloc_new w o
theorem blk1_14 (w:World) (o p:Obj):((w.alloc o).alloc p).heap[w.heap.size + 1]?=some p:=by have:=heap_alloc_new (w.alloc o) p;simpa using this
theorem blk10_14 (w:World) (o p:Obj):((w.alloc o).alloc p).heap[w.heap.size]?=some o:=(Below.heap_alloc _ _ _ (by simp)).trans (blk0_14 w o)
theorem ownZ14_at {w:World} {base g:Nat} (hg:w.heap[g]?=some (.cells #[] 70 (0,0))) (hb:base≤g):OwnG entryE w base (.slice (some ⟨g,0,none⟩) 0 0) (([]:List EntV).map enV):=by
 refine ⟨⟨rfl,.inr ⟨g,0,#[],rfl,hb,hg,l_,?_⟩⟩,by simp,by simp⟩
 simp
def S14 (w8:World) (g eb:Nat) (ev:Value) (kd s2:Int) (pv:Value) (z:World):Prop :=
 Below w8.heap.size w8 z∧z.cell? ⟨g,1,none⟩=some ev∧z.cell? ⟨eb,0,none⟩=some (.int .i64 kd)∧z.cell? ⟨eb,1,none⟩=some (.int .i64 s2)∧z.cell? ⟨eb,2,none⟩=some pv
theorem refw_step {w w6 w7:World} {N g:Nat} {sv ev vv vn evn xv pv:Value} {ts:List EntV} {x:EntB} {cs:List ColB} {es:List EntB} {Q:Nat→Prop} {L B:List UInt8} {V:List PairB} {s S:Int} {k:Nat} {w8:World}
  (hM:Mr w N g cs es Q) (hQ:∀ j,Q j→j < w.heap.size) (hbox:Mbox w g sv ev s vv) (hes:es=ts.map (·.2)) (hS:OffG colE w sv (cs.map colV) fun j=>Q j∨j=g) (hH:Held w vv (trE cs es).2.2.1 ts fun j=>Q j∨j=g)
  (hb6:Below w.heap.size w w6) (hv:OffS w6 vn V fun j=>Q j∨j=g) (hp:OffS w6 pv x.2.2 fun j=>Q j∨j=g) (hb7:Below w6.heap.size w6 w7) (hx:Own w7 w6.heap.size xv B)
  (hO8:Only (fun j=>j=g) w7 w8) (hb8:Mbox w8 g sv evn S vn) (he:OwnG entryE w8 w7.heap.size evn ((ts ++ [(pv,x)]).map enV)) (hl:ts.length≤4096)
  (ht:TrS cs (es ++ [x])) (hT:trE cs (es ++ [x])=(L ++ B,S,V,k,0)) :
  SmO w N g cs Q 0 B (es ++ [x]) (.returned (.tuple #[xv,.int .i64 0])) w8:=by
 have hgw:=hM.lt
 have h6:=hb6.size
 have h7:=hb7.size
 have O8:Only (fun j=>j=g) w w8:=(hidOnly (hb6.trans (hb7.mono h6)) l_).trans hO8
 have O68:Only (fun j=>j=g) w6 w8:=(hidOnly hb7 l_).trans hO8
 refine ⟨xv,rfl,(hx.base h6).stay hO8 fun q hq hs=>by have:=(hx.lt14 hq).1;omega,⟨ht,hM.from_,hM.free,sv,evn,vn,ts ++ [(pv,x)],by rw [hT];exact hb8,by rw [hes];simp,?_,?_,?_,?_⟩,O8⟩
 ·exact hS.keep colOk fun j hj hn=>O8.block j hj fun hs=>hn (.inr hs)
 ·refine he.off (by simp;omega) fun j hj hq=>?_
  rcases hq with hq | hq
  ·have:=hQ j hq;omega
  ·omega
 ·rw [hT];exact hv.keep fun j hj hn=>O68.block j hj fun hs=>hn (.inr hs)
 ·intro t ht
  rcases List.mem_append.1 ht with ht | ht
  ·exact (hH.2 t ht).keep fun j hj hn=>O8.block j hj fun hs=>hn (.inr hs)
  ·rw [List.mem_singleton.1 ht];exact hp.keep fun j hj hn=>O68.block j hj fun hs=>hn (.inr hs)
set_option maxHeartbeats 16000000 in
theorem ref_lay14 (N g:Nat) (pv:Value) (cs:List ColB) (es:List EntB) (x:EntB) (Q:Nat→Prop) (w:World) (hM:Mr w N g cs es Q) (hQ:∀ j,Q j→j < w.heap.size) (hl:es.length < 4096) (hp:OffS w pv x.2.2 fun j=>Q j∨j=g) (hX:EnO x) :
  Calls Tryz.prog 43 #[.pointer (some ⟨g,0,none⟩),.agg #[.int .i64 x.1,.int .i64 x.2.1,pv]] w (SmO w N g cs Q (layE cs es x) (layB cs es x) (layS cs es x)):=by
 obtain ⟨kd,s2,ps⟩:=x
 dsimp only at hp ⊢
 have hP:=hp.rd
 obtain ⟨ap,np,cp,rfl⟩:=hP.lit12
 obtain ⟨sv,ev,vv,ts,hB,hes,hS,hZ,hH⟩:=hM.box
 have hR:RdC w sv cs:=hS.1
 have hV:=hH.1
 obtain ⟨av,nv,cv,rfl⟩:=hV.rd.lit12
 obtain ⟨ac,nc,cc,rfl⟩:=hR.lit12
 obtain ⟨ae,ne,ce,rfl⟩:∃ ao n cap,ev=.slice ao n cap:=by
  obtain ⟨ao,cap,e,_⟩:=RdG.shape hZ.1
  exact ⟨_,_,_,e⟩
 obtain ⟨N1,N2⟩:=new_one12 w (.cells #[.int .i64 kd,.int .i64 s2,.slice ap np cp] 70)
 obtain ⟨w0,hw0⟩:∃ w0,w0=w.alloc (.cells #[.int .i64 kd,.int .i64 s2,.slice ap np cp] 70):=⟨_,rfl⟩
 rw [← hw0] at N1 N2
 obtain ⟨eb,hg⟩:∃ eb,eb=w.heap.size:=⟨_,rfl⟩
 rw [← hg] at N1
 have HE0:=h_ (show Ebox w0 eb kd s2 (.slice ap np cp) from N1)
 have HX0:=h_ (hB.later N2)
 have HB0:=h_ N2
 have HW0:=h_ hw0
 have HG:=h_ hg
 have HMR:=h_ hM
 have HQ:=h_ hQ
 have HS:=h_ hS
 have HZ:=h_ hZ
 have HH:=h_ hH
 have HES:=h_ hes
 have HP:=h_ hp
 have HBX:=h_ hB
 have htl:ts.length=es.length:=by rw [hes,List.length_map]
 have HTL:=h_ (show ts.length≤4096 from by omega)
 have ht:=hM.trs
 have hgw:=hM.lt
 have AP:=h_ (fun wz (hz:Below w0.heap.size w0 wz)=>by
  have hz':Below w.heap.size w wz:=N2.trans (hz.mono N2.size)
  exact (ref_Apply12N (.slice ac nc cc) (.slice av nv cv) (.agg #[.int .i64 kd,.int .i64 s2,.slice ap np cp]) cs (trE cs es).2.1 (trE cs es).2.2.1 (kd,s2,ps) wz (hR.later hz' l_) (hV.rd.later hz' l_) ⟨_,rfl,hP.later hz' l_⟩ ht.sch ht.pso hX ht.inw).mono
   (fun e w' h=>show (∃ rv,e=.returned (.tuple #[.int .i64 (apN cs (trE cs es).2.1 (trE cs es).2.2.1 (kd,s2,ps)),rv,.int .i64 (apE cs (trE cs es).2.1 (trE cs es).2.2.1 (kd,s2,ps):Nat)])∧OffS w' rv (apV cs (trE cs es).2.1 (trE cs es).2.2.1 (kd,s2,ps)) fun j=>Q j∨j=g)∧Below w0.heap.size w0 w' from by
    obtain ⟨rv,he,hr,hq,hb⟩:=h
    have hb':=hz'.trans (hb.mono hz'.size)
    refine ⟨⟨rv,he,?_⟩,hz.trans (hb.mono hz.size)⟩
    rcases hq with ⟨e1,e2⟩ | hq
    ·rw [e1,e2];exact hV.later hb'
    ·exact hq.offS fun j hj hq=>by
      have h1:=hz'.size
      rcases hq with hq | hq
      ·have:=hQ j hq;omega
      ·omega))
 have WRT:=h_ (fun w6 (h6:Below w0.heap.size w0 w6) wz (hz:Below w6.heap.size w6 wz)=>by
  have h6':Below w.heap.size w w6:=N2.trans (h6.mono N2.size)
  have hz':Below w.heap.size w wz:=h6'.trans (hz.mono h6'.size)
  exact (ref_Write12 (.slice ac nc cc) (.agg #[.int .i64 kd,.int .i64 s2,.slice ap np cp]) cs (kd,s2,ps) wz (hR.later hz' l_) ⟨_,rfl,hP.later hz' l_⟩ ht.sch hX).mono
   (fun e w' h=>show (∃ rv,e=.returned (.tuple #[rv,.int .i64 ((entW cs (kd,s2,ps)).2:Nat)])∧Own w' w6.heap.size rv (entW cs (kd,s2,ps)).1)∧Below w6.heap.size w6 w' from by
    obtain ⟨rv,he,hn,hb⟩:=h
    exact ⟨⟨rv,he,hn.base hz.size⟩,hz.trans (hb.mono hz.size)⟩))
 have L1:=fun E h k=>lay_one (cs:=cs) (es:=es) (x:=(kd,s2,ps)) (E:=E) h k
 have L2:=fun R h k l=>lay_two (cs:=cs) (es:=es) (x:=(kd,s2,ps)) (R:=R) h k l
 have L3:=fun R h k l=>lay_three (cs:=cs) (es:=es) (x:=(kd,s2,ps)) (R:=R) h k l
 have NX:=fun h=>lay_next (cs:=cs) (es:=es) (x:=(kd,s2,ps)) ht hl hX h
 obtain ⟨E,hEd⟩:∃ E,E=apE cs (trE cs es).2.1 (trE cs es).2.2.1 (kd,s2,ps):=⟨_,rfl⟩
 obtain ⟨V,hVd⟩:∃ V,V=apV cs (trE cs es).2.1 (trE cs es).2.2.1 (kd,s2,ps):=⟨_,rfl⟩
 obtain ⟨S,hSd⟩:∃ S,S=apN cs (trE cs es).2.1 (trE cs es).2.2.1 (kd,s2,ps):=⟨_,rfl⟩
 obtain ⟨R,hWd⟩:∃ R,R=entW cs (kd,s2,ps):=⟨_,rfl⟩
 have HL1:=h_ (L1 E hEd)
 rw [← hEd,← hVd,← hSd] at AP
 rw [← hEd] at L2 L3
 have HL2:=h_ (fun h=>L2 R h hWd)
 have HL3:=h_ (fun h=>L3 R h hWd)
 rw [← hWd] at WRT NX
 rw [← hVd,← hSd] at NX
 have HNX:=h_ NX
 obtain ⟨LE,hLE⟩:∃ LE,LE=layE cs es (kd,s2,ps):=⟨_,rfl⟩
 obtain ⟨LB,hLB⟩:∃ LB,LB=layB cs es (kd,s2,ps):=⟨_,rfl⟩
 obtain ⟨LS,hLS⟩:∃ LS,LS=layS cs es (kd,s2,ps):=⟨_,rfl⟩
 rw [← hLE,← hLB,← hLS] at HL1 HL2 HL3 ⊢
 rw [← hLE] at HNX
 obtain ⟨sq,hsq⟩:∃ sq,sq=(trE cs es).2.1:=⟨_,rfl⟩
 rw [← hsq] at HX0 AP HBX
 have Q1:=h_ (fun wz (hz:Below w0.heap.size w0 wz)=>And.intro hz (And.intro (HX0.out.later hz).cells.1 (And.intro (HX0.out.later hz).cells.2.2.1 (And.intro (HX0.out.later hz).cells.2.2.2 (And.intro (HE0.out.later hz).cells.1 (And.intro (HE0.out.later hz).cells.2.1 (HE0.out.later hz).cells.2.2))))))
 have Q4:=h_ (fun w6 (h6:Below w0.heap.size w0 w6) wz (hz:Below w6.heap.size w6 wz)=>And.intro hz (And.intro ((HX0.out.later h6).later hz).cells.1 (And.intro ((HE0.out.later h6).later hz).cells.1 (And.intro ((HE0.out.later h6).later hz).cells.2.1 ((HE0.out.later h6).later hz).cells.2.2))))
 have hebg:eb≠g:=by omega
 clear N1 N2 hw0 hg hM hQ hS hB hV hR hP hp hX ht hl L1 L2 L3 NX hEd hVd hSd hWd hLE hLB hLS hsq hZ hH hes
 have m0:Below w0.heap.size w0 w0.drew:=(Below.refl _ _).drew
 go_enter Tryz.func43,Tryz.ntmps43
 go_wp2_with fail
 rw [← HW0.out,← HG.out]
 by_cases hE0:E=0
 ·subst hE0
  go_region_held3 (fun z=>Below w0.heap.size w0 z∧z.cell? ⟨g,0,none⟩=some (.slice ac nc cc)∧z.cell? ⟨g,2,none⟩=some (.int .i64 sq)∧z.cell? ⟨g,3,none⟩=some (.slice av nv cv)∧z.cell? ⟨eb,0,none⟩=some (.int .i64 kd)∧z.cell? ⟨eb,1,none⟩=some (.int .i64 s2)∧z.cell? ⟨eb,2,none⟩=some (.slice ap np cp)) (first | (exact Q1.out _ m0) | go_keep)
   ((first
    | (go_at_call 76;refine (AP.out _ (by assumption)).mono ?_;rintro e w6 ⟨⟨rv,rfl,hrv⟩,m3⟩;clear m0;have m0:=m3;clear m3)))
  obtain ⟨ar,nr,cr,rfl⟩:=hrv.rd.lit12
  have HV6:=h_ hrv
  have HB6:=h_ m0
  clear hrv AP Q1 m0
  go_wp2_with fail
  have m4:Below w6.heap.size w6 w6.drew:=(Below.refl _ _).drew
  have Q5:=h_ (Q4.out w6 HB6.out)
  have WR5:=h_ (WRT.out w6 HB6.out)
  clear Q4 WRT
  by_cases hR0:R.2=0
  ·obtain ⟨B,y⟩:=R
   dsimp only at hR0
   subst hR0
   go_region_held3 (fun z=>Below w6.heap.size w6 z∧z.cell? ⟨g,0,none⟩=some (.slice ac nc cc)∧z.cell? ⟨eb,0,none⟩=some (.int .i64 kd)∧z.cell? ⟨eb,1,none⟩=some (.int .i64 s2)∧z.cell? ⟨eb,2,none⟩=some (.slice ap np cp)) (first | (exact Q5.out _ m4) | go_keep)
    ((first
     | (go_at_call 77;refine (WR5.out _ (by assumption)).mono ?_;rintro e w7 ⟨⟨xv,rfl,hxo⟩,m3⟩;clear m4;have m4:=m3;clear m3)))
   obtain ⟨ax,nx,cx,rfl⟩:=hxo.lit13
   have hb7:Below w0.heap.size w0 w7:=HB6.out.trans (m4.mono HB6.out.size)
   have hx7:=HX0.out.later hb7
   have he7:=HE0.out.later hb7
   have hbw7:=HB0.out.trans (hb7.mono HB0.out.size)
   have f2:=hx7.free 2
   have f3:=hx7.free 3
   obtain ⟨c0,c1,c2,c3⟩:=hx7.cells
   have HX7:=h_ hx7
   have HE7:=h_ he7
   have HXO:=h_ hxo
   have HB7:=h_ m4
   have HW7:=h_ hbw7
   clear hb7 hx7 he7 hbw7 hxo m4 WR5 Q5
   go_wp2_with fail
   have hx8:=HX7.out.setSV S (.slice ar nr cr)
   have hO8:Only (fun j=>j=g) w7 ((w7.setCell ⟨g,2,none⟩ (.int .i64 S)).setCell ⟨g,3,none⟩ (.slice ar nr cr)):=((Only.refl (fun j=>j=g) _).setCell (p:=⟨g,2,none⟩) rfl _).setCell (p:=⟨g,3,none⟩) rfl _
   obtain ⟨w8,hw8⟩:∃ w8,w8=(w7.setCell ⟨g,2,none⟩ (.int .i64 S)).setCell ⟨g,3,none⟩ (.slice ar nr cr):=⟨_,rfl⟩
   rw [← hw8] at hx8 hO8
   have hs8:w8.heap.size=w7.heap.size:=by rw [hw8];simp [World.setCell]
   rw [← hw8]
   obtain ⟨e0,e1,e2⟩:=(show Ebox w8 eb kd s2 (.slice ap np cp) from hO8.keep HE7.out hebg).cells
   obtain ⟨g0,g1,g2,g3⟩:=hx8.cells
   have hf1:=hx8.free 1
   have HX8:=h_ hx8
   have HO8:=h_ hO8
   have HS8:=h_ hs8
   have HE8:=h_ (show Ebox w8 eb kd s2 (.slice ap np cp) from hO8.keep HE7.out hebg)
   have hg8:g < w8.heap.size:=hx8.lt
   have HBW:=h_ (fun wz (hz:Below w8.heap.size w8 wz)=>show Only (fun j=>j=g) w wz from ((hidOnly HW7.out l_).trans hO8).trans (hidOnly hz l_))
   have RA:=h_ (fun wz (hz:Below w8.heap.size w8 wz)=>And.intro (HZ.out.keep entryOk fun j hj hn=>(HBW.out wz hz).block j hj fun hs=>hn (.inr hs)).1 (fun t ht=>((HH.out.2 t ht).keep fun j hj hn=>(HBW.out wz hz).block j hj fun hs=>hn (.inr hs)).rd))
   have RX:=h_ (fun wz (hz:Below w8.heap.size w8 wz)=>(HP.out.keep (w':=wz) fun j hj hn=>(HBW.out wz hz).block j hj fun hs=>hn (.inr hs)).rd)
   have Q9:=h_ (fun wz (hz:Below w8.heap.size w8 wz)=>show S14 w8 g eb (.slice ae ne ce) kd s2 (.slice ap np cp) wz from And.intro hz (And.intro (HX8.out.later hz).cells.2.1 (HE8.out.later hz).cells))
   clear hw8 hx8 hO8 hs8 c0 c1 c2 c3 f2 f3 g0 g2 g3 g1 e0 e1 e2
   have P1:∀ {ops:Array Oper} {a:Act} {z:World} {KK:Act→World→Prop} {QQ:Exit→Act→World→Prop} {EE:Prop} {dst:Option Tmp} {ty:TypeId} {pos:String} {aft:Array Edge} {so xo:Operand} {gu:Option (Nat × Bool)} (g1:Nat),
     Region.wanted ⟨dst,.call ⟨.builtin .append,#[so,xo],#[44,44]⟩,ty,pos,aft,gu⟩ (yielded ops a.tmps)=true→a.eval so=.slice (some ⟨g1,0,none⟩) 0 0→a.eval xo=.slice ae ne ce →
     z.heap[g1]?=some (.cells #[] 70 (0,0))→w8.heap.size≤g1→S14 w8 g eb (.slice ae ne ce) kd s2 (.slice ap np cp) z →
     (∀ a1 n1 c1 wa,Hid (OwnG entryE wa w8.heap.size (.slice a1 n1 c1) (ts.map enV))→S14 w8 g eb (.slice ae ne ce) kd s2 (.slice ap np cp) wa →
      Hid (∀ j:Nat,z.heap[j]?=some (.cells #[.int .i64 kd,.int .i64 s2,.slice ap np cp] 70 (0,0))→wa.heap[j]?=some (.cells #[.int .i64 kd,.int .i64 s2,.slice ap np cp] 70 (0,0)))→KK (a.put dst (.slice a1 n1 c1)) wa) →
     if Region.wanted ⟨dst,.call ⟨.builtin .append,#[so,xo],#[44,44]⟩,ty,pos,aft,gu⟩ (yielded ops a.tmps)=true then Oper.wp Tryz.prog ⟨dst,.call ⟨.builtin .append,#[so,xo],#[44,44]⟩,ty,pos,aft,gu⟩ a z KK QQ else EE:=by
    intro ops a z KK QQ EE dst ty pos aft so xo gu g1 hw hs hx hg1 hb1 hS h
    have ho:=ownZ14_at hg1 hb1
    refine stepZ14_append w8.heap.size _ _ ts hw hs ho hx (RA.out z hS.1).1 (RA.out z hS.1).2 (by have:=HTL.out;simp;omega) hS.1.size w8.heap.size w8 hS.1 l_ (fun v' w' h1 h2 h3=>?_)
    rw [List.nil_append] at h1
    obtain ⟨a1,n1,c1,rfl⟩:=h1.lit13
    refine h a1 n1 c1 w' (h_ h1) (Q9.out w' h2) (h_ (fun j hj=>?_))
    refine (h3.block j (Array.getElem?_eq_some_iff.1 hj).1 (fun e=>?_)).trans hj
    injection e with e
    rw [e,hg1] at hj
    cases hj
   have P2:∀ {ops:Array Oper} {a:Act} {z:World} {KK:Act→World→Prop} {QQ:Exit→Act→World→Prop} {EE:Prop} {dst:Option Tmp} {ty:TypeId} {pos:String} {aft:Array Edge} {so xo:Operand} {gu:Option (Nat × Bool)} (a1:Option Addr) (n1 c1 g2:Nat),
     Region.wanted ⟨dst,.call ⟨.builtin .append,#[so,xo],#[44,44]⟩,ty,pos,aft,gu⟩ (yielded ops a.tmps)=true→a.eval so=.slice a1 n1 c1→a.eval xo=.slice (some ⟨g2,0,none⟩) 1 1 →
     OwnG entryE z w8.heap.size (.slice a1 n1 c1) (ts.map enV)→z.heap[g2]?=some (.cells #[.int .i64 kd,.int .i64 s2,.slice ap np cp] 70 (0,0))→S14 w8 g eb (.slice ae ne ce) kd s2 (.slice ap np cp) z →
     (∀ a1 n1 c1 wa,Hid (OwnG entryE wa w8.heap.size (.slice a1 n1 c1) ((ts ++ [(Value.slice ap np cp,(kd,s2,ps))]).map enV))→S14 w8 g eb (.slice ae ne ce) kd s2 (.slice ap np cp) wa→KK (a.put dst (.slice a1 n1 c1)) wa) →
     if Region.wanted ⟨dst,.call ⟨.builtin .append,#[so,xo],#[44,44]⟩,ty,pos,aft,gu⟩ (yielded ops a.tmps)=true then Oper.wp Tryz.prog ⟨dst,.call ⟨.builtin .append,#[so,xo],#[44,44]⟩,ty,pos,aft,gu⟩ a z KK QQ else EE:=by
    intro ops a z KK QQ EE dst ty pos aft so xo gu a1 n1 c1 g2 hw hs hx ho hg2 hS h
    refine stepZ14_append w8.heap.size _ _ [(Value.slice ap np cp,(kd,s2,ps))] hw hs ho hx (rdG_one entryOk (enV (Value.slice ap np cp,(kd,s2,ps))) rfl ⟨g2,0,none⟩ ⟨g2,0,rfl⟩ fun j y hj=>?_) (fun t ht=>by rw [List.mem_singleton.1 ht];exact RX.out z hS.1) (by have:=HTL.out;simp;omega) hS.1.size w8.heap.size w8 hS.1 l_ (fun v' w' h1 h2 h3=>?_)
    ·have e:Addr.add ⟨g2,0,none⟩ j=⟨g2,j,none⟩:=by simp only [Addr.add];split <;> simp_all
     rw [e,cell_of_row _ _ _ _ _ _ hg2]
     simpa [enV] using hj
    ·obtain ⟨a1,n1,c1,rfl⟩:=h1.lit13
     exact h a1 n1 c1 w' (h_ h1) (Q9.out w' h2)
   go_cut [] (fun wx=>∃ a3 n3 c3 wc,wx=wc.setCell ⟨g,1,none⟩ (.slice a3 n3 c3)∧Hid (OwnG entryE wc w8.heap.size (.slice a3 n3 c3) ((ts ++ [(Value.slice ap np cp,(kd,s2,ps))]).map enV))∧Hid (S14 w8 g eb (.slice ae ne ce) kd s2 (.slice ap np cp) wc))
   case first =>
    have HQ0:=h_ (Q9.out w8.drew ((Below.refl _ _).drew))
    have hA0:w8.cell? ⟨g,1,none⟩=some (.slice ae ne ce):=(Q9.out _ (Below.refl _ _)).2.1
    have hB0:∀ o,(w8.alloc o).cell? ⟨g,1,none⟩=some (.slice ae ne ce):=fun o=>(Q9.out _ ((Below.refl w8.heap.size w8).alloc l_ o)).2.1
    have hC0:∀ o p,((w8.alloc o).alloc p).cell? ⟨g,1,none⟩=some (.slice ae ne ce):=fun o p=>(Q9.out _ (((Below.refl w8.heap.size w8).alloc l_ o).alloc (by simp) p)).2.1
    have hA1:w8.cell? ⟨eb,0,none⟩=some (.int .i64 kd):=(Q9.out _ (Below.refl _ _)).2.2.1
    have hB1:∀ o,(w8.alloc o).cell? ⟨eb,0,none⟩=some (.int .i64 kd):=fun o=>(Q9.out _ ((Below.refl w8.heap.size w8).alloc l_ o)).2.2.1
    have hC1:∀ o p,((w8.alloc o).alloc p).cell? ⟨eb,0,none⟩=some (.int .i64 kd):=fun o p=>(Q9.out _ (((Below.refl w8.heap.size w8).alloc l_ o).alloc (by simp) p)).2.2.1
    have hA2:w8.cell? ⟨eb,1,none⟩=some (.int .i64 s2):=(Q9.out _ (Below.refl _ _)).2.2.2.1
    have hB2:∀ o,(w8.alloc o).cell? ⟨eb,1,none⟩=some (.int .i64 s2):=fun o=>(Q9.out _ ((Below.refl w8.heap.size w8).alloc l_ o)).2.2.2.1
    have hC2:∀ o p,((w8.alloc o).alloc p).cell? ⟨eb,1,none⟩=some (.int .i64 s2):=fun o p=>(Q9.out _ (((Below.refl w8.heap.size w8).alloc l_ o).alloc (by simp) p)).2.2.2.1
    have hA3:w8.cell? ⟨eb,2,none⟩=some (.slice ap np cp):=(Q9.out _ (Below.refl _ _)).2.2.2.2
    have hB3:∀ o,(w8.alloc o).cell? ⟨eb,2,none⟩=some (.slice ap np cp):=fun o=>(Q9.out _ ((Below.refl w8.heap.size w8).alloc l_ o)).2.2.2.2
    have hC3:∀ o p,((w8.alloc o).alloc p).cell? ⟨eb,2,none⟩=some (.slice ap np cp):=fun o p=>(Q9.out _ (((Below.refl w8.heap.size w8).alloc l_ o).alloc (by simp) p)).2.2.2.2
    go_region_law
     ((first
      | (refine P1 (w8.heap.size) (by rfl) (by rfl) (by rfl) (by first | exact blk0_14 _ (.cells #[] 70) | exact blk10_14 _ (.cells #[] 70) _ | exact blk1_14 _ _ (.cells #[] 70)) (by omega) (by first | exact HQ0.out | exact Q9.out _ (Below.refl _ _) | exact hSa | exact (Q9.out _ (hSa.1.alloc hSa.1.size _)) | exact Q9.out _ (((Below.refl w8.heap.size w8).alloc l_ _).drew) | exact Q9.out _ ((((Below.refl w8.heap.size w8).alloc l_ _).alloc (by simp) _).drew) | exact Q9.out _ ((Below.refl w8.heap.size w8).alloc l_ _) | exact Q9.out _ (((Below.refl w8.heap.size w8).alloc l_ _).alloc (by simp) _)) ?_;intro a1 n1 c1 wa hOa hSa hxa;have hsa9:=hSa.1.size;have hD0:wa.cell? ⟨g,1,none⟩=some (.slice ae ne ce):=hSa.2.1;have hE0:∀ o,(wa.alloc o).cell? ⟨g,1,none⟩=some (.slice ae ne ce):=fun o=>(Q9.out _ (hSa.1.alloc hSa.1.size o)).2.1;have hD1:wa.cell? ⟨eb,0,none⟩=some (.int .i64 kd):=hSa.2.2.1;have hE1:∀ o,(wa.alloc o).cell? ⟨eb,0,none⟩=some (.int .i64 kd):=fun o=>(Q9.out _ (hSa.1.alloc hSa.1.size o)).2.2.1;have hD2:wa.cell? ⟨eb,1,none⟩=some (.int .i64 s2):=hSa.2.2.2.1;have hE2:∀ o,(wa.alloc o).cell? ⟨eb,1,none⟩=some (.int .i64 s2):=fun o=>(Q9.out _ (hSa.1.alloc hSa.1.size o)).2.2.2.1;have hD3:wa.cell? ⟨eb,2,none⟩=some (.slice ap np cp):=hSa.2.2.2.2;have hE3:∀ o,(wa.alloc o).cell? ⟨eb,2,none⟩=some (.slice ap np cp):=fun o=>(Q9.out _ (hSa.1.alloc hSa.1.size o)).2.2.2.2)
      | (refine P1 (w8.heap.size + 1) (by rfl) (by rfl) (by rfl) (by first | exact blk0_14 _ (.cells #[] 70) | exact blk10_14 _ (.cells #[] 70) _ | exact blk1_14 _ _ (.cells #[] 70)) (by omega) (by first | exact HQ0.out | exact Q9.out _ (Below.refl _ _) | exact hSa | exact (Q9.out _ (hSa.1.alloc hSa.1.size _)) | exact Q9.out _ (((Below.refl w8.heap.size w8).alloc l_ _).drew) | exact Q9.out _ ((((Below.refl w8.heap.size w8).alloc l_ _).alloc (by simp) _).drew) | exact Q9.out _ ((Below.refl w8.heap.size w8).alloc l_ _) | exact Q9.out _ (((Below.refl w8.heap.size w8).alloc l_ _).alloc (by simp) _)) ?_;intro a1 n1 c1 wa hOa hSa hxa;have hsa9:=hSa.1.size;have hD0:wa.cell? ⟨g,1,none⟩=some (.slice ae ne ce):=hSa.2.1;have hE0:∀ o,(wa.alloc o).cell? ⟨g,1,none⟩=some (.slice ae ne ce):=fun o=>(Q9.out _ (hSa.1.alloc hSa.1.size o)).2.1;have hD1:wa.cell? ⟨eb,0,none⟩=some (.int .i64 kd):=hSa.2.2.1;have hE1:∀ o,(wa.alloc o).cell? ⟨eb,0,none⟩=some (.int .i64 kd):=fun o=>(Q9.out _ (hSa.1.alloc hSa.1.size o)).2.2.1;have hD2:wa.cell? ⟨eb,1,none⟩=some (.int .i64 s2):=hSa.2.2.2.1;have hE2:∀ o,(wa.alloc o).cell? ⟨eb,1,none⟩=some (.int .i64 s2):=fun o=>(Q9.out _ (hSa.1.alloc hSa.1.size o)).2.2.2.1;have hD3:wa.cell? ⟨eb,2,none⟩=some (.slice ap np cp):=hSa.2.2.2.2;have hE3:∀ o,(wa.alloc o).cell? ⟨eb,2,none⟩=some (.slice ap np cp):=fun o=>(Q9.out _ (hSa.1.alloc hSa.1.size o)).2.2.2.2)
      | (refine P2 a1 n1 c1 (wa.heap.size) (by rfl) (by rfl) (by rfl) (by first | exact hOa.out | exact hOa.out.alloc _) (blk0_14 _ (.cells #[.int .i64 kd,.int .i64 s2,.slice ap np cp] 70)) (by first | exact HQ0.out | exact Q9.out _ (Below.refl _ _) | exact hSa | exact (Q9.out _ (hSa.1.alloc hSa.1.size _)) | exact Q9.out _ (((Below.refl w8.heap.size w8).alloc l_ _).drew) | exact Q9.out _ ((((Below.refl w8.heap.size w8).alloc l_ _).alloc (by simp) _).drew) | exact Q9.out _ ((Below.refl w8.heap.size w8).alloc l_ _) | exact Q9.out _ (((Below.refl w8.heap.size w8).alloc l_ _).alloc (by simp) _)) ?_;intro a3 n3 c3 wc hOc hSc;have hcz:=hSc.2.1;have hfz:=(HX8.out.later hSc.1).free 1)
      | (refine P2 a1 n1 c1 (w8.heap.size) (by rfl) (by rfl) (by rfl) (by first | exact hOa.out | exact hOa.out.alloc _) (by first | exact hxa.out _ (blk0_14 _ (.cells #[.int .i64 kd,.int .i64 s2,.slice ap np cp] 70)) | exact hxa.out _ (blk10_14 _ (.cells #[.int .i64 kd,.int .i64 s2,.slice ap np cp] 70) _) | exact hxa.out _ (blk1_14 _ _ (.cells #[.int .i64 kd,.int .i64 s2,.slice ap np cp] 70))) (by first | exact HQ0.out | exact Q9.out _ (Below.refl _ _) | exact hSa | exact (Q9.out _ (hSa.1.alloc hSa.1.size _)) | exact Q9.out _ (((Below.refl w8.heap.size w8).alloc l_ _).drew) | exact Q9.out _ ((((Below.refl w8.heap.size w8).alloc l_ _).alloc (by simp) _).drew) | exact Q9.out _ ((Below.refl w8.heap.size w8).alloc l_ _) | exact Q9.out _ (((Below.refl w8.heap.size w8).alloc l_ _).alloc (by simp) _)) ?_;intro a3 n3 c3 wc hOc hSc;have hcz:=hSc.2.1;have hfz:=(HX8.out.later hSc.1).free 1)
      | (refine P2 a1 n1 c1 (w8.heap.size + 1) (by rfl) (by rfl) (by rfl) (by first | exact hOa.out | exact hOa.out.alloc _) (by first | exact hxa.out _ (blk0_14 _ (.cells #[.int .i64 kd,.int .i64 s2,.slice ap np cp] 70)) | exact hxa.out _ (blk10_14 _ (.cells #[.int .i64 kd,.int .i64 s2,.slice ap np cp] 70) _) | exact hxa.out _ (blk1_14 _ _ (.cells #[.int .i64 kd,.int .i64 s2,.slice ap np cp] 70))) (by first | exact HQ0.out | exact Q9.out _ (Below.refl _ _) | exact hSa | exact (Q9.out _ (hSa.1.alloc hSa.1.size _)) | exact Q9.out _ (((Below.refl w8.heap.size w8).alloc l_ _).drew) | exact Q9.out _ ((((Below.refl w8.heap.size w8).alloc l_ _).alloc (by simp) _).drew) | exact Q9.out _ ((Below.refl w8.heap.size w8).alloc l_ _) | exact Q9.out _ (((Below.refl w8.heap.size w8).alloc l_ _).alloc (by simp) _)) ?_;intro a3 n3 c3 wc hOc hSc;have hcz:=hSc.2.1;have hfz:=(HX8.out.later hSc.1).free 1)))
    all_goals go_wp2_with fail
    all_goals go_meet
    all_goals exact ⟨a3,n3,c3,_,rfl,hOc,h_ hSc⟩
   case rest =>
    obtain ⟨a3,n3,c3,wc,rfl,hOc,hSc⟩:=hcut
    clear P1 P2
    go_wp2
    go_ret2
    obtain ⟨z1,z2,z3⟩:=HL3.out (by simp) (by simp)
    obtain ⟨t1,t2⟩:=HNX.out z1
    rw [z1,z2,z3]
    have hb8:=hSc.out.1
    have Og:Only (fun j=>j=g) wc (wc.setCell ⟨g,1,none⟩ (.slice a3 n3 c3)):=(Only.refl (fun j=>j=g) _).setCell (p:=⟨g,1,none⟩) rfl _
    exact refw_step HMR.out HQ.out HBX.out HES.out HS.out HH.out (HB0.out.trans (HB6.out.mono HB0.out.size)) HV6.out (HP.out.later (HB0.out.trans (HB6.out.mono HB0.out.size))) HB7.out HXO.out
     ((HO8.out.trans (hidOnly hb8 l_)).trans Og) ((HX8.out.later hb8).setE _) ((hOc.out.stay Og fun q hq e=>by have:=(hOc.out.lt hq).1;omega).base (Nat.le_of_eq HS8.out.symm)) HTL.out t1 t2
  ·have q:((R.2:Int) != 0)=true:=by rw [bne_iff_ne];omega
   have HR0:=h_ hR0
   clear hR0
   go_region_held3 (fun z=>Below w6.heap.size w6 z∧z.cell? ⟨g,0,none⟩=some (.slice ac nc cc)∧z.cell? ⟨eb,0,none⟩=some (.int .i64 kd)∧z.cell? ⟨eb,1,none⟩=some (.int .i64 s2)∧z.cell? ⟨eb,2,none⟩=some (.slice ap np cp)) (first | (exact Q5.out _ m4) | go_keep)
    ((first
     | (go_at_call 77;refine (WR5.out _ (by assumption)).mono ?_;rintro e w7 ⟨⟨xv,rfl,hxo⟩,m3⟩;clear m4;have m4:=m3;clear m3)))
   obtain ⟨ax,nx,cx,rfl⟩:=hxo.lit13
   have HB7:=h_ (HB6.out.trans (m4.mono HB6.out.size))
   clear hxo m4 WR5 Q5
   go_wp2
   go_ret2
   obtain ⟨z1,z2,z3⟩:=HL2.out (by simp) HR0.out
   exact SmO.no HMR.out (HB0.out.trans (HB7.out.mono HB0.out.size)) z1 z2 z3 rfl
 ·have q:((E:Int) != 0)=true:=by rw [bne_iff_ne];omega
  have HN:=h_ hE0
  clear hE0
  go_region_held3 (fun z=>Below w0.heap.size w0 z∧z.cell? ⟨g,0,none⟩=some (.slice ac nc cc)∧z.cell? ⟨g,2,none⟩=some (.int .i64 sq)∧z.cell? ⟨g,3,none⟩=some (.slice av nv cv)∧z.cell? ⟨eb,0,none⟩=some (.int .i64 kd)∧z.cell? ⟨eb,1,none⟩=some (.int .i64 s2)∧z.cell? ⟨eb,2,none⟩=some (.slice ap np cp)) (first | (exact Q1.out _ m0) | go_keep)
   ((first
    | (go_at_call 76;refine (AP.out _ (by assumption)).mono ?_;rintro e w6 ⟨⟨rv,rfl,hrv⟩,m3⟩;clear m0;have m0:=m3;clear m3)))
  obtain ⟨ar,nr,cr,rfl⟩:=hrv.rd.lit12
  have HB6:=h_ m0
  clear hrv AP Q1 m0 Q4 WRT
  go_wp2
  go_ret2
  obtain ⟨z1,z2,z3⟩:=HL1.out HN.out
  exact SmO.no HMR.out (HB0.out.trans (HB6.out.mono HB0.out.size)) z1 z2 z3 rfl
set_option maxHeartbeats 4000000 in
theorem ref_Append14 (N g:Nat) (lv:Value) (cs:List ColB) (es:List EntB) (ps:List PairB) (Q:Nat→Prop) (w:World) (hM:Mr w N g cs es Q) (hQ:∀ j,Q j→j < w.heap.size) (hL:RdP w lv ps) (hP:PSO ps) (hl:ps.length≤4000) :
  Calls Tryz.prog 15 #[.pointer (some ⟨g,0,none⟩),lv] w (SmO w N g cs Q (actE cs es (0,ps)) (actB cs es (0,ps)) (actS cs es (0,ps))):=by
 have A1:=h_ (fun h=>act_full (cs:=cs) (es:=es) (a:=(0,ps)) h)
 have A2:=h_ (fun h k=>act_bad (cs:=cs) (es:=es) (a:=(0,ps)) h rfl k)
 have A3:=h_ (fun h k=>act_lay (cs:=cs) (es:=es) (a:=(0,ps)) h fun _=>k)
 have AX:=h_ (show actX cs es (0,ps)=(0,(trE cs es).2.1 + 1,clcO cs ps) from if_pos rfl)
 have AO:=h_ (actX_ok (cs:=cs) (es:=es) (a:=(0,ps)) hM.trs hP)
 have HM:=h_ hM
 have HQ:=h_ hQ
 have hgw:=hM.lt
 obtain ⟨sv,ev,vv,ts,hB,hes,hS,hZ,hH⟩:=hM.box
 obtain ⟨al,nl,cl,rfl⟩:=hL.lit12
 have CL:=h_ (ref_Collect08N sv (.slice al nl cl) cs ps w hS.1 hL hM.trs.sch hP hl)
 obtain ⟨ac,nc,cc,rfl⟩:=(show RdC w sv cs from hS.1).lit12
 obtain ⟨ae,ne,ce,rfl⟩:∃ ao n cap,ev=.slice ao n cap:=by
  obtain ⟨ao,cap,e,_⟩:=RdG.shape hZ.1
  exact ⟨_,_,_,e⟩
 have hlen:∀ u,(Builtin.len_ #[44] 3 #[.slice ae ne ce]).run Tryz.prog u=.ok (.int .i64 ((ts.map enV).length:Int)) u:=RdG.len hZ.1 entryOk
 rw [List.length_map] at hlen
 have htl:ts.length=es.length:=by rw [hes,List.length_map]
 rw [htl] at hlen
 obtain ⟨c0,c1,c2,c3⟩:=hB.cells
 have hseq:=hM.trs.seq
 have HBX:=h_ hB
 obtain ⟨sq,hsq⟩:∃ sq,sq=(trE cs es).2.1:=⟨_,rfl⟩
 rw [← hsq] at AX hseq HBX c2
 obtain ⟨m,hm⟩:∃ m,m=es.length:=⟨_,rfl⟩
 rw [← hm] at hlen
 have HMM:=h_ hm
 have q1:sq + 1≤9223372036854775807:=by omega
 have q2:-9223372036854775808≤sq + 1:=by omega
 clear hM hQ hB hS hZ hH hL hP hsq hes htl hm
 by_cases h1:4096≤m
 ·obtain ⟨z1,z2,z3⟩:=A1.out (by rw [← HMM.out];exact h1)
  have HZ:=h_ (And.intro z1 (And.intro z2 z3))
  have d:decide ((m:Int) ≥ 4096)=true:=decide_eq_true (by omega)
  clear z1 z2 z3 h1
  go_enter Tryz.func15,Tryz.ntmps15
  go_wp2
  go_ret2
  exact SmO.no HM.out (Below.refl _ _) HZ.out.1 HZ.out.2.1 HZ.out.2.2 rfl
 ·have HN1:=h_ (show ¬ 4096≤es.length from by rw [← HMM.out];exact h1)
  have d:decide ((m:Int) ≥ 4096)=false:=decide_eq_false (by omega)
  clear h1
  go_enter Tryz.func15,Tryz.ntmps15
  go_wp2_with fail
  refine CL.out.mono ?_
  rintro e w2 ⟨xv,rfl,hx,hb⟩
  obtain ⟨ax,nx,cx,rfl⟩:=hx.rd.lit12
  have HB2:=h_ hb
  have HX2:=h_ hx
  have hB2:=HBX.out.later hb
  clear hx hb CL c0 c1 c2 c3
  obtain ⟨c0,c1,c2,c3⟩:=hB2.cells
  obtain ⟨E,hE⟩:∃ E,E=clcE cs ps:=⟨_,rfl⟩
  rw [← hE]
  have HE:=h_ hE
  clear hE hB2
  by_cases h0:E=0
  ·subst h0
   obtain ⟨z1,z2,z3⟩:=A3.out HN1.out HE.out.symm
   rw [AX.out] at z1 z2 z3
   have AO2:=AO.out
   rw [AX.out] at AO2
   have PU:=h_ ((ref_lay14 N g (.slice ax nx cx) cs es (0,sq + 1,clcO cs ps) Q w2 (HM.out.later HB2.out) (fun j hj=>Nat.lt_of_lt_of_le (HQ.out j hj) HB2.out.size) (by have:=HN1.out;omega) (HX2.out.offS fun j hj hq=>by
    rcases hq with hq | hq
    ·have:=HQ.out j hq;omega
    ·omega) AO2).mono fun e w' h=>(h.from HB2.out).as z1 z2 z3)
   clear z1 z2 z3 AO2 HX2
   go_wp2_with fail
   refine PU.out.mono ?_
   rintro e w3 ⟨x,rfl,hx,hw,hO⟩
   obtain ⟨ax,nx,cx,rfl⟩:=hx.lit13
   have HH:=h_ (And.intro hx (And.intro hw hO))
   clear hx hw hO PU
   go_wp2
   go_ret2
   exact ⟨_,rfl,HH.out⟩
  ·have q:((E:Int) != 0)=true:=by rw [bne_iff_ne];omega
   have HN:=h_ h0
   clear h0
   go_wp2
   go_ret2
   obtain ⟨z1,z2,z3⟩:=A2.out HN1.out (by rw [← HE.out];exact HN.out)
   exact SmO.no HM.out HB2.out (by rw [z1];exact HE.out.symm) z2 z3 rfl
set_option maxHeartbeats 4000000 in
theorem ref_Snap14 (N g:Nat) (cs:List ColB) (es:List EntB) (qs:List PairB) (Q:Nat→Prop) (w:World) (hM:Mr w N g cs es Q) (hQ:∀ j,Q j→j < w.heap.size) (hP:PSO qs) (k:Int) (hk:k≠0) :
  Calls Tryz.prog 17 #[.pointer (some ⟨g,0,none⟩)] w (SmO w N g cs Q (actE cs es (k,qs)) (actB cs es (k,qs)) (actS cs es (k,qs))):=by
 have A1:=h_ (fun h=>act_full (cs:=cs) (es:=es) (a:=(k,qs)) h)
 have A3:=fun h=>act_lay (cs:=cs) (es:=es) (a:=(k,qs)) h fun h=>absurd h hk
 have AX:actX cs es (k,qs)=(1,(trE cs es).2.1,(trE cs es).2.2.1):=if_neg hk
 have AO:=actX_ok (cs:=cs) (es:=es) (a:=(k,qs)) hM.trs hP
 have HM:=h_ hM
 obtain ⟨sv,ev,vv,ts,hB,hes,hS,hZ,hH⟩:=hM.box
 obtain ⟨av,nv,cv,rfl⟩:=hH.1.rd.lit12
 obtain ⟨ae,ne,ce,rfl⟩:∃ ao n cap,ev=.slice ao n cap:=by
  obtain ⟨ao,cap,e,_⟩:=RdG.shape hZ.1
  exact ⟨_,_,_,e⟩
 have hlen:∀ u,(Builtin.len_ #[44] 3 #[.slice ae ne ce]).run Tryz.prog u=.ok (.int .i64 ((ts.map enV).length:Int)) u:=RdG.len hZ.1 entryOk
 rw [List.length_map] at hlen
 have htl:ts.length=es.length:=by rw [hes,List.length_map]
 rw [htl] at hlen
 rw [AX] at A3 AO
 have hQd:∀ j,Q j→j < w.drew.heap.size:=hQ
 have PU:=fun h=>ref_lay14 N g (.slice av nv cv) cs es (1,(trE cs es).2.1,(trE cs es).2.2.1) Q w.drew hM.drew hQd h (hH.1.later (Below.refl _ _).drew) AO
 have HBX:=h_ hB
 obtain ⟨sq,hsq⟩:∃ sq,sq=(trE cs es).2.1:=⟨_,rfl⟩
 obtain ⟨vw,hvw⟩:∃ vw,vw=(trE cs es).2.2.1:=⟨_,rfl⟩
 rw [← hsq] at HBX
 rw [← hsq,← hvw] at PU A3
 obtain ⟨c0,c1,c2,c3⟩:=HBX.out.cells
 obtain ⟨m,hm⟩:∃ m,m=es.length:=⟨_,rfl⟩
 rw [← hm] at hlen
 have HMM:=h_ hm
 clear hM hQ hQd hB hS hZ hH hP hsq hvw AO hes htl hm
 by_cases h1:4096≤m
 ·obtain ⟨z1,z2,z3⟩:=A1.out (by rw [← HMM.out];exact h1)
  have HZ:=h_ (And.intro z1 (And.intro z2 z3))
  have d:decide ((m:Int) ≥ 4096)=true:=decide_eq_true (by omega)
  clear z1 z2 z3 h1 A3 PU
  go_enter Tryz.func17,Tryz.ntmps17
  go_wp2
  go_ret2
  exact SmO.no HM.out (Below.refl _ _) HZ.out.1 HZ.out.2.1 HZ.out.2.2 rfl
 ·have h9:¬ 4096≤es.length:=by rw [← HMM.out];exact h1
  obtain ⟨z1,z2,z3⟩:=A3 h9
  have d:decide ((m:Int) ≥ 4096)=false:=decide_eq_false (by omega)
  have HPU:=h_ ((PU (by omega)).mono fun e w' h=>(h.from (Below.refl w.heap.size w).drew).as z1 z2 z3)
  have Q1:=h_ (fun wz (hz:Below w.heap.size w wz)=>And.intro hz (And.intro (HBX.out.later hz).cells.2.2.1 (HBX.out.later hz).cells.2.2.2))
  clear z1 z2 z3 h1 h9 A3 PU A1
  go_enter Tryz.func17,Tryz.ntmps17
  go_wp2_with fail
  go_region_with (go_at_call 43;refine HPU.out.mono ?_;rintro e w3 ⟨x,rfl,hx,hw,hO⟩)
  all_goals
   obtain ⟨ax,nx,cx,rfl⟩:=hx.lit13
   have HH:=h_ (And.intro hx (And.intro hw hO))
   clear hx hw hO
   go_wp2
   go_ret2
   exact ⟨_,rfl,HH.out⟩
set_option maxHeartbeats 4000000 in
theorem ref_Bytes14 {N g:Nat} {cs:List ColB} {es:List EntB} {Q:Nat→Prop} {w:World} (hM:Mr w N g cs es Q) :
  Calls Tryz.prog 44 #[.pointer (some ⟨g,0,none⟩)] w (RetB w (trE cs es).1):=by
 obtain ⟨sv,ev,vv,hB,hT,hV⟩:=hM.trace
 have EN:=h_ (ref_Encode13 (.agg #[sv,ev]) cs es w hT hM.trs.sch hM.trs.en)
 obtain ⟨c0,c1,c2,c3⟩:=hB.cells
 obtain ⟨_,_,e9,hR,hZ⟩:=hT
 injection e9 with e9
 simp only [Array.mk.injEq,List.cons.injEq,and_true] at e9
 obtain ⟨rfl,rfl⟩:=e9
 obtain ⟨ac,nc,cc,rfl⟩:=hR.lit12
 obtain ⟨ae,ne,ce,rfl⟩:=hZ.lit
 obtain ⟨T,hT⟩:∃ T,T=trE cs es:=⟨_,rfl⟩
 rw [← hT] at EN ⊢
 clear hM hB hV hR hZ hT
 go_enter Tryz.func44,Tryz.ntmps44
 go_wp2_with fail
 refine EN.out.mono ?_
 rintro e w1 ⟨ov,rfl,ho,hb⟩
 obtain ⟨a1,n1,k1,rfl⟩:=ho.lit13
 have HO:=h_ (And.intro ho hb)
 clear ho hb EN
 go_wp2
 go_ret
 exact ⟨_,rfl,HO.out⟩
end Go.Proofs.YtpcobefhgkiolaaGreatDoor


/- -/
namespace Go.Proofs.YtpcobefhgkiolaaGreatDoor
open Go.RowKit Go.Shelf
set_option maxHeartbeats 8000000 in
theorem law14_same {w:World} {N N2 g gm:Nat} {bv:Value} {cs:List ColB} {es:List EntB} {Q Q2:Nat→Prop} (hW:Wr w N g bv cs es Q) (hM:Mr w N2 gm cs es Q2) :
  Calls Tryz.prog 20 #[.pointer (some ⟨g,0,none⟩),.pointer (some ⟨gm,0,none⟩)] w fun e w'=>e=.returned (.bool true)∧Below w.heap.size w w':=by
 obtain ⟨sv,ev,vv,hB,hT,hV⟩:=hM.trace
 obtain ⟨_,_,e9,hR,hZ⟩:=hT
 injection e9 with e9
 simp only [Array.mk.injEq,List.cons.injEq,and_true] at e9
 obtain ⟨rfl,rfl⟩:=e9
 obtain ⟨ac,nc,cc,rfl⟩:=hR.lit12
 obtain ⟨ae,ne,ce,rfl⟩:=hZ.lit
 obtain ⟨av,nv,cv,rfl⟩:=hV.lit12
 obtain ⟨sv,hsv⟩:∃ sv:Value,sv=.slice ac nc cc:=⟨_,rfl⟩
 obtain ⟨vv,hvv⟩:∃ vv:Value,vv=.slice av nv cv:=⟨_,rfl⟩
 rw [← hsv] at hR hB
 rw [← hvv] at hV hB
 have hle:=hZ.len
 have BY:=h_ (fun wz (hz:Below w.heap.size w wz)=>writer_Bytes (hW.later hz))
 have BM:=h_ (fun wz (hz:Below w.heap.size w wz)=>ref_Bytes14 (hM.later hz))
 have SE:=h_ (fun wz (hz:Below w.heap.size w wz)=>writer_Seq (hW.later hz))
 have VW:=h_ (fun wz (hz:Below w.heap.size w wz)=>writer_View (hW.later hz))
 have SC:=h_ (fun wz (hz:Below w.heap.size w wz)=>writer_Schema (hW.later hz))
 have MA:=h_ (fun wz (hz:Below w.heap.size w wz)=>writer_Many (hW.later hz))
 have HMC:=h_ (fun wz (hz:Below w.heap.size w wz)=>(hB.later hz).cells)
 have HVV:=h_ (fun wz (hz:Below w.heap.size w wz)=>hV.later hz l_)
 have HRC:=h_ (fun wz (hz:Below w.heap.size w wz)=>hR.later hz l_)
 have HSM:=h_ (show (trE cs es).1.length≤140737488351232 from by have:=hW.trs.small;omega)
 have HVL:=h_ (show (trE cs es).2.2.1.length≤140737488351232 from by have:=hW.trs.set.few;omega)
 have HCL:=h_ hR.small
 obtain ⟨L,hL⟩:∃ L,L=(trE cs es).1:=⟨_,rfl⟩
 obtain ⟨sq,hsq⟩:∃ sq,sq=(trE cs es).2.1:=⟨_,rfl⟩
 obtain ⟨vw,hvw⟩:∃ vw,vw=(trE cs es).2.2.1:=⟨_,rfl⟩
 rw [← hL] at BY BM HSM
 rw [← hsq] at SE HMC
 rw [← hvw] at VW HVV HVL
 obtain ⟨m,hm⟩:∃ m,m=es.length:=⟨_,rfl⟩
 rw [← hm] at MA hle
 clear hW hM hB hV hR hZ hL hsq hvw hm hsv hvv
 have hbel:Below w.heap.size w w.drew:=(Below.refl _ _).drew
 have mc0:=fun x:Ord.GW w.drew=>(HMC.out x.val (hbel.trans (x.grew.mono hbel.size))).1
 have mc1:=fun x:Ord.GW w.drew=>(HMC.out x.val (hbel.trans (x.grew.mono hbel.size))).2.1
 have mc2:=fun x:Ord.GW w.drew=>(HMC.out x.val (hbel.trans (x.grew.mono hbel.size))).2.2.1
 have mc3:=fun x:Ord.GW w.drew=>(HMC.out x.val (hbel.trans (x.grew.mono hbel.size))).2.2.2
 go_enter Tryz.func20,Tryz.ntmps20
 go_wp2_with fail
 refine Ord.wp_region_ord [(0,false),(3,false),(1,true),(2,false),(4,true),(5,false),(6,false),(7,false),(8,false),(10,false),(11,false),(12,false),(13,false),(9,true),(14,false),(15,false),(16,false),(17,false),(19,false),(20,false),(21,false),(22,false),(18,true),(23,true),(24,false),(25,false),(26,false),(28,false),(29,false),(30,false),(31,false),(32,false),(27,true),(33,true),(34,false),(35,false),(36,false),(38,false),(39,false),(40,false),(41,false),(42,false),(43,false),(37,true),(44,false),(45,false),(46,false)] (by kernel_rfl) rfl (by kernel_rfl) (by kernel_rfl) (fun _ _ _ d _ h=>by cases d <;> exact h) ?_
 refine Ord.ord_still rfl rfl (by kernel_rfl) (fun K hK=>?_)
 go_big_quiet_op
 refine hK _ ?_;clear hK K
 refine Ord.ord_still rfl rfl (by kernel_rfl) (fun K hK=>?_)
 go_big_quiet_op
 refine hK _ ?_;clear hK K
 refine Ord.ord_loud rfl (by kernel_rfl) (fun K hK=>?_)
 go_big_op
 refine (BY.out _ hbel).mono ?_
 rintro e w1 ⟨v1,rfl,ho,hb⟩
 have hs1:=str_later ho HSM.out
 clear ho
 replace hbel:=hbel.trans (hb.mono hbel.size)
 clear mc0 mc1 mc2 mc3
 have mc0:=fun x:Ord.GW w1=>(HMC.out x.val (hbel.trans (x.grew.mono hbel.size))).1
 have mc1:=fun x:Ord.GW w1=>(HMC.out x.val (hbel.trans (x.grew.mono hbel.size))).2.1
 have mc2:=fun x:Ord.GW w1=>(HMC.out x.val (hbel.trans (x.grew.mono hbel.size))).2.2.1
 have mc3:=fun x:Ord.GW w1=>(HMC.out x.val (hbel.trans (x.grew.mono hbel.size))).2.2.2
 refine hK _ _ hb ?_
 clear hb
 clear hK K
 refine Ord.ord_still rfl rfl (by kernel_rfl) (fun K hK=>?_)
 go_big_quiet_op
 refine hK _ ?_;clear hK K
 refine Ord.ord_loud rfl (by kernel_rfl) (fun K hK=>?_)
 go_big_op
 refine (BM.out _ hbel).mono ?_
 rintro e w4 ⟨v2,rfl,ho,hb⟩
 have hs2:=str_later ho HSM.out
 clear ho
 replace hbel:=hbel.trans (hb.mono hbel.size)
 clear mc0 mc1 mc2 mc3
 have mc0:=fun x:Ord.GW w4=>(HMC.out x.val (hbel.trans (x.grew.mono hbel.size))).1
 have mc1:=fun x:Ord.GW w4=>(HMC.out x.val (hbel.trans (x.grew.mono hbel.size))).2.1
 have mc2:=fun x:Ord.GW w4=>(HMC.out x.val (hbel.trans (x.grew.mono hbel.size))).2.2.1
 have mc3:=fun x:Ord.GW w4=>(HMC.out x.val (hbel.trans (x.grew.mono hbel.size))).2.2.2
 refine hK _ _ hb ?_
 clear hb
 clear hK K
 refine Ord.ord_still rfl rfl (by kernel_rfl) (fun K hK=>?_)
 go_big_quiet_op
 refine hK _ ?_;clear hK K
 refine Ord.ord_still rfl rfl (by kernel_rfl) (fun K hK=>?_)
 go_big_quiet_op
 refine hK _ ?_;clear hK K
 refine Ord.ord_still rfl rfl (by kernel_rfl) (fun K hK=>?_)
 go_big_quiet_op
 refine hK _ ?_;clear hK K
 refine Ord.ord_still rfl rfl (by kernel_rfl) (fun K hK=>?_)
 go_big_quiet_op
 refine hK _ ?_;clear hK K
 refine Ord.ord_still rfl rfl (by kernel_rfl) (fun K hK=>?_)
 go_big_quiet_op
 refine hK _ ?_;clear hK K
 refine Ord.ord_still rfl rfl (by kernel_rfl) (fun K hK=>?_)
 go_big_quiet_op
 refine hK _ ?_;clear hK K
 refine Ord.ord_still rfl rfl (by kernel_rfl) (fun K hK=>?_)
 go_big_quiet_op
 refine hK _ ?_;clear hK K
 refine Ord.ord_still rfl rfl (by kernel_rfl) (fun K hK=>?_)
 go_big_quiet_op
 refine hK _ ?_;clear hK K
 refine Ord.ord_loud rfl (by kernel_rfl) (fun K hK=>?_)
 go_big_op
 refine (SE.out _ hbel).mono ?_
 rintro e w9 ⟨rfl,rfl⟩
 refine hK _ _ (Ord.Grew.refl _) ?_
 clear hK K
 refine Ord.ord_still rfl rfl (by kernel_rfl) (fun K hK=>?_)
 go_big_quiet_op
 refine hK _ ?_;clear hK K
 refine Ord.ord_still rfl rfl (by kernel_rfl) (fun K hK=>?_)
 go_big_quiet_op
 refine hK _ ?_;clear hK K
 refine Ord.ord_still rfl rfl (by kernel_rfl) (fun K hK=>?_)
 go_big_quiet_op
 refine hK _ ?_;clear hK K
 refine Ord.ord_still rfl rfl (by kernel_rfl) (fun K hK=>?_)
 go_big_quiet_op
 refine hK _ ?_;clear hK K
 refine Ord.ord_still rfl rfl (by kernel_rfl) (fun K hK=>?_)
 go_big_quiet_op
 refine hK _ ?_;clear hK K
 refine Ord.ord_still rfl rfl (by kernel_rfl) (fun K hK=>?_)
 go_big_quiet_op
 refine hK _ ?_;clear hK K
 refine Ord.ord_still rfl rfl (by kernel_rfl) (fun K hK=>?_)
 go_big_quiet_op
 refine hK _ ?_;clear hK K
 refine Ord.ord_still rfl rfl (by kernel_rfl) (fun K hK=>?_)
 go_big_quiet_op
 refine hK _ ?_;clear hK K
 refine Ord.ord_loud rfl (by kernel_rfl) (fun K hK=>?_)
 go_big_op
 refine (VW.out _ hbel).mono ?_
 rintro e w18 ⟨v4,rfl,ho,hb⟩
 have HV4:=h_ (ho.1.rd HVL.out)
 clear ho
 replace hbel:=hbel.trans (hb.mono hbel.size)
 clear mc0 mc1 mc2 mc3
 have mc0:=fun x:Ord.GW w18=>(HMC.out x.val (hbel.trans (x.grew.mono hbel.size))).1
 have mc1:=fun x:Ord.GW w18=>(HMC.out x.val (hbel.trans (x.grew.mono hbel.size))).2.1
 have mc2:=fun x:Ord.GW w18=>(HMC.out x.val (hbel.trans (x.grew.mono hbel.size))).2.2.1
 have mc3:=fun x:Ord.GW w18=>(HMC.out x.val (hbel.trans (x.grew.mono hbel.size))).2.2.2
 refine hK _ _ hb ?_
 clear hb
 clear hK K
 refine Ord.ord_loud rfl (by kernel_rfl) (fun K hK=>?_)
 go_big_op
 refine (ref_Same08 v4 vv vw vw _ HV4.out (HVV.out _ hbel)).mono ?_
 rintro e w23 ⟨rfl,hb⟩
 rw [decide_eq_true rfl]
 replace hbel:=hbel.trans (hb.mono hbel.size)
 clear mc0 mc1 mc2 mc3
 have mc0:=fun x:Ord.GW w23=>(HMC.out x.val (hbel.trans (x.grew.mono hbel.size))).1
 have mc1:=fun x:Ord.GW w23=>(HMC.out x.val (hbel.trans (x.grew.mono hbel.size))).2.1
 have mc2:=fun x:Ord.GW w23=>(HMC.out x.val (hbel.trans (x.grew.mono hbel.size))).2.2.1
 have mc3:=fun x:Ord.GW w23=>(HMC.out x.val (hbel.trans (x.grew.mono hbel.size))).2.2.2
 refine hK _ _ hb ?_
 clear hb
 clear hK K
 refine Ord.ord_still rfl rfl (by kernel_rfl) (fun K hK=>?_)
 go_big_quiet_op
 refine hK _ ?_;clear hK K
 refine Ord.ord_still rfl rfl (by kernel_rfl) (fun K hK=>?_)
 go_big_quiet_op
 refine hK _ ?_;clear hK K
 refine Ord.ord_still rfl rfl (by kernel_rfl) (fun K hK=>?_)
 go_big_quiet_op
 refine hK _ ?_;clear hK K
 refine Ord.ord_still rfl rfl (by kernel_rfl) (fun K hK=>?_)
 go_big_quiet_op
 refine hK _ ?_;clear hK K
 refine Ord.ord_still rfl rfl (by kernel_rfl) (fun K hK=>?_)
 go_big_quiet_op
 refine hK _ ?_;clear hK K
 refine Ord.ord_still rfl rfl (by kernel_rfl) (fun K hK=>?_)
 go_big_quiet_op
 refine hK _ ?_;clear hK K
 refine Ord.ord_still rfl rfl (by kernel_rfl) (fun K hK=>?_)
 go_big_quiet_op
 refine hK _ ?_;clear hK K
 refine Ord.ord_still rfl rfl (by kernel_rfl) (fun K hK=>?_)
 go_big_quiet_op
 refine hK _ ?_;clear hK K
 refine Ord.ord_loud rfl (by kernel_rfl) (fun K hK=>?_)
 go_big_op
 refine (SC.out _ hbel).mono ?_
 rintro e w27 ⟨v6,rfl,ho,hb⟩
 have HC6:=h_ (ho.rd HCL.out)
 clear ho
 replace hbel:=hbel.trans (hb.mono hbel.size)
 clear mc0 mc1 mc2 mc3
 have mc0:=fun x:Ord.GW w27=>(HMC.out x.val (hbel.trans (x.grew.mono hbel.size))).1
 have mc1:=fun x:Ord.GW w27=>(HMC.out x.val (hbel.trans (x.grew.mono hbel.size))).2.1
 have mc2:=fun x:Ord.GW w27=>(HMC.out x.val (hbel.trans (x.grew.mono hbel.size))).2.2.1
 have mc3:=fun x:Ord.GW w27=>(HMC.out x.val (hbel.trans (x.grew.mono hbel.size))).2.2.2
 refine hK _ _ hb ?_
 clear hb
 clear hK K
 refine Ord.ord_loud rfl (by kernel_rfl) (fun K hK=>?_)
 go_big_op
 refine (ref_Same v6 sv cs cs _ HC6.out (HRC.out _ hbel)).mono ?_
 rintro e w33 ⟨rfl,hb⟩
 rw [decide_eq_true rfl]
 replace hbel:=hbel.trans (hb.mono hbel.size)
 clear mc0 mc1 mc2 mc3
 have mc0:=fun x:Ord.GW w33=>(HMC.out x.val (hbel.trans (x.grew.mono hbel.size))).1
 have mc1:=fun x:Ord.GW w33=>(HMC.out x.val (hbel.trans (x.grew.mono hbel.size))).2.1
 have mc2:=fun x:Ord.GW w33=>(HMC.out x.val (hbel.trans (x.grew.mono hbel.size))).2.2.1
 have mc3:=fun x:Ord.GW w33=>(HMC.out x.val (hbel.trans (x.grew.mono hbel.size))).2.2.2
 refine hK _ _ hb ?_
 clear hb
 clear hK K
 refine Ord.ord_still rfl rfl (by kernel_rfl) (fun K hK=>?_)
 go_big_quiet_op
 refine hK _ ?_;clear hK K
 refine Ord.ord_still rfl rfl (by kernel_rfl) (fun K hK=>?_)
 go_big_quiet_op
 refine hK _ ?_;clear hK K
 refine Ord.ord_still rfl rfl (by kernel_rfl) (fun K hK=>?_)
 go_big_quiet_op
 refine hK _ ?_;clear hK K
 refine Ord.ord_still rfl rfl (by kernel_rfl) (fun K hK=>?_)
 go_big_quiet_op
 refine hK _ ?_;clear hK K
 refine Ord.ord_still rfl rfl (by kernel_rfl) (fun K hK=>?_)
 go_big_quiet_op
 refine hK _ ?_;clear hK K
 refine Ord.ord_still rfl rfl (by kernel_rfl) (fun K hK=>?_)
 go_big_quiet_op
 refine hK _ ?_;clear hK K
 refine Ord.ord_still rfl rfl (by kernel_rfl) (fun K hK=>?_)
 go_big_quiet_op
 refine hK _ ?_;clear hK K
 refine Ord.ord_still rfl rfl (by kernel_rfl) (fun K hK=>?_)
 go_big_quiet_op
 refine hK _ ?_;clear hK K
 refine Ord.ord_still rfl rfl (by kernel_rfl) (fun K hK=>?_)
 go_big_quiet_op
 refine hK _ ?_;clear hK K
 refine Ord.ord_loud rfl (by kernel_rfl) (fun K hK=>?_)
 go_big_op
 refine (MA.out _ hbel).mono ?_
 rintro e w37 ⟨rfl,rfl⟩
 refine hK _ _ (Ord.Grew.refl _) ?_
 clear hK K
 refine Ord.ord_still rfl rfl (by kernel_rfl) (fun K hK=>?_)
 go_big_quiet_op
 refine hK _ ?_;clear hK K
 refine Ord.ord_still rfl rfl (by kernel_rfl) (fun K hK=>?_)
 go_big_quiet_op
 refine hK _ ?_;clear hK K
 refine Ord.ord_still rfl rfl (by kernel_rfl) (fun K hK=>?_)
 go_big_quiet_op
 refine hK _ ?_;clear hK K
 refine Ord.ord_nil ?_
 go_wp2
 go_ret
 exact ⟨rfl,hbel⟩
end Go.Proofs.YtpcobefhgkiolaaGreatDoor

