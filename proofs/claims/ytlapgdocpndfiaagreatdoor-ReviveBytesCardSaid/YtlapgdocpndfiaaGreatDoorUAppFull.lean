/- -/
import Derived.Test.YtlapgdocpndfiaaGreatDoorUZDefs
import Derived.ArgAppend
import Derived.Lib.SlBytesConst
set_option maxHeartbeats 16000000
set_option linter.unusedVariables false
set_option linter.unusedSimpArgs false
set_option maxRecDepth 1000000
namespace Go.Proofs.YtlapgdocpndfiaaGreatDoor
open _root_.Go.Proofs.Tryz
open Go.RowKit Go.Shelf
section
variable {cs:List ColB} {ps qs a b c:List PairB}
def Zs (cs:List ColB) (a:List PairB):Prop:=PSO a/\chkZ cs a=0
theorem Zs.set (h:Zs cs a):Z.isSet (Vr cs) (cmpR cs) a:=((zb2 h.1).1 h.2).2.2
theorem Zs.few (h:Zs cs a):a.length<=1024:=((zb2 h.1).1 h.2).2.1
theorem Zs.schema (h:Zs cs a):errS (colsL cs)=0:=((zb2 h.1).1 h.2).1
theorem Zs.of (hP:PSO a) (h1:errS (colsL cs)=0) (h2:a.length<=1024) (h3:Z.isSet (Vr cs) (cmpR cs) a):Zs cs a:=⟨hP,(zb2 hP).2 ⟨h1,h2,h3⟩⟩
theorem Zs.w64 (h:Zs cs a) (r:List CellB):i64 (Z.sumW a r):=by
 by_cases hr:Z.has a r
 ·obtain ⟨p,hp,rfl⟩:=hr;rw [Z.sumW_mem (zbF cs) h.set.srt h.set.all p hp];exact (h.1 p hp).2
 rw [Z.sumW_no fun p hp e=>hr ⟨p,hp,e⟩];exact zn9
theorem zFL (hP:PSO ps) (h:clcE cs ps=0):Zs cs (clcO cs ps)/\(∀ r,Z.sumW (clcO cs ps) r=Z.sumW ps r)/\Z.AllV (Vr cs) ps:=by
 obtain ⟨h1,h2,h3,h4⟩:=(zkE hP).1 h;have e:clcO cs ps=canonC cs ps:=by unfold clcO;rw [if_pos h]
 rw [e];exact ⟨Zs.of (zqC hP h2 h3) h1 h4 (Z.canon_set (zbF cs) h2),Z.canon_sum (zbF cs) h2,h2⟩
theorem zFM (hP:PSO ps) (hV:Z.AllV (Vr cs) ps) (hc:Zs cs c) (h:∀ r,Z.sumW ps r=Z.sumW c r):clcE cs ps=0/\clcO cs ps=c:=by
 have e:canonC cs ps=c:=Z.canon_of (zbF cs) hV hc.set (fun r=>(h r).symm);have h0:clcE cs ps=0:=(zkE hP).2 ⟨hc.schema,hV,fun r=>by rw [h r];exact hc.w64 r,by rw [e];exact hc.few⟩;exact ⟨h0,by unfold clcO;rw [if_pos h0];exact e⟩
theorem Zs.all (h:Zs cs a):Z.AllV (Vr cs) a:=h.set.all
theorem ztU (h1:Z.AllV (Vr cs) a) (h2:Z.AllV (Vr cs) b):Z.AllV (Vr cs) (a ++ b):=fun p hp=>by
 rcases List.mem_append.1 hp with hp | hp
 ·exact h1 p hp
 ·exact h2 p hp
theorem zwX (ha:Zs cs a) (hb:Zs cs b):sumE cs a b=clcE cs (a ++ b)/\sumO cs a b=clcO cs (a ++ b):=by
 have e:sumE cs a b=clcE cs (a ++ b):=by unfold sumE;rw [if_neg (fun h=>h ha.2),if_neg (fun h=>h hb.2)]
 exact ⟨e,by unfold sumO clcO;rw [e]⟩
theorem zCG (ha:Zs cs a) (hb:Zs cs b) (h:sumE cs a b=0):Zs cs (sumO cs a b)/\∀ r,Z.sumW (sumO cs a b) r=Z.sumW a r + Z.sumW b r:=by
 obtain ⟨e1,e2⟩:=zwX ha hb;rw [e1] at h;obtain ⟨h1,h2,_⟩:=zFL (ha.1.append hb.1) h;rw [e2];exact ⟨h1,fun r=>by rw [h2,Z.sumW_append]⟩
theorem zF1 (ha:Zs cs a) (hb:Zs cs b) (hc:Zs cs c) (h:∀ r,Z.sumW a r + Z.sumW b r=Z.sumW c r):sumE cs a b=0/\sumO cs a b=c:=by
 obtain ⟨e1,e2⟩:=zwX ha hb;rw [e1,e2];exact zFM (ha.1.append hb.1) (ztU ha.all hb.all) hc (fun r=>by rw [Z.sumW_append,h])
theorem zyC (h:errS (colsL cs)=0):Zs cs []:=Zs.of (fun p hp=>by simp at hp) h (by simp) Z.isSet.nil
end
/- -/
abbrev EntB:=Int × Int × List PairB
def EnO (x:EntB):Prop:=inW x.1/\inW x.2.1/\PSO x.2.2
def entE (cs:List ColB) (x:EntB):Nat :=
 if errS (colsL cs)≠0 then errS (colsL cs) else if x.1 < 0∨1 < x.1 then 10 else if x.2.1 < 0∨281474976710656 < x.2.1 then 3 else chkZ cs x.2.2
def apE (cs:List ColB) (seq:Int) (view:List PairB) (x:EntB):Nat :=
 if chkZ cs view≠0 then chkZ cs view else if seq < 0∨281474976710656 < seq then 3 else if entE cs x≠0 then entE cs x
 else if (x.1=0/\x.2.1≠seq + 1)∨(x.1=1/\x.2.1≠seq) then 14
 else if x.1=1 then (if x.2.2=view then 0 else 15) else sumE cs view x.2.2
def apN (cs:List ColB) (seq:Int) (view:List PairB) (x:EntB):Int:=if apE cs seq view x=0 then x.2.1 else 0
def apV (cs:List ColB) (seq:Int) (view:List PairB) (x:EntB):List PairB :=
 if apE cs seq view x=0 then (if x.1=1 then view else sumO cs view x.2.2) else []
section
variable {cs:List ColB} {x:EntB}
theorem zb9:entE cs x=0 ↔ errS (colsL cs)=0/\(x.1=0∨x.1=1)/\(0<=x.2.1/\x.2.1<=281474976710656)/\chkZ cs x.2.2=0:=by
 unfold entE;by_cases h1:errS (colsL cs)=0
 ·rw [if_neg (by simpa using h1)];by_cases h2:x.1 < 0∨1 < x.1
  ·rw [if_pos h2];exact ⟨fun h=>(by cases h),fun h=>(by omega)⟩
  rw [if_neg h2];by_cases h3:x.2.1 < 0∨281474976710656 < x.2.1
  ·rw [if_pos h3];exact ⟨fun h=>(by cases h),fun h=>(by omega)⟩
  rw [if_neg h3];exact ⟨fun h=>⟨h1,by omega,by omega,h⟩,fun h=>h.2.2.2⟩
 rw [if_pos h1];exact ⟨fun h=>absurd h h1,fun h=>absurd h.1 h1⟩
theorem zAJ {view:List PairB} (h:Zs cs view):sumE cs view []=0/\sumO cs view []=view :=
 zF1 h (zyC h.schema) h (fun r=>by simp [Z.sumW])
end
/- -/
attribute [local go_sem] Oper.semAt_some
theorem zf9 (v1 v2 v3:Value) (cs:List ColB) (a b:List CellB) (w:World) (h1:RdC w v1 cs) (h2:RdE w v2 a) (h3:RdE w v3 b) (hC:CS cs) (hA:CES a) (hB:CES b) (hT:Tabs w) :
  Calls prog 98 #[v1,v2,v3] w fun e w'=>e=.returned (.int .i64 (cmpR cs a b))/\Below w.heap.size w w':=by
 have R1:=h_ (fun wz (hz:Below w.heap.size w wz)=>h1.later hz l_);have R2:=h_ (fun wz (hz:Below w.heap.size w wz)=>h2.later hz l_);have R3:=h_ (fun wz (hz:Below w.heap.size w wz)=>h3.later hz l_);have HT:=h_ hT;obtain ⟨x,hx⟩:=nm_ (errRow cs a)
 have CA:=h_ (fun wz (hz:Below w.heap.size w wz)=>(show Calls prog 122 #[v1,v2] wz fun e w'=>e=.returned (.int .i64 (x:Int))/\Below wz.heap.size wz w' from by
  rw [hx];exact zj8 v1 v2 cs a wz (R1.o wz hz) (R2.o wz hz) hC hA (HT.later hz)))
 obtain ⟨ao,cap,hv,_⟩:=RdG.shape h1;generalize (cs.map colV).length=n9 at hv;subst hv;clear h1 h2 h3 hT;by_cases h0:x=0
 ·obtain ⟨y,hy⟩:=nm_ (errC cs b)
  have CB:=h_ (fun wz (hz:Below w.heap.size w wz)=>(show Calls prog 125 #[.slice ao n9 cap,v3] wz fun e w'=>e=.returned (.int .i64 (y:Int))/\Below wz.heap.size wz w' from by
   rw [hy];exact zeY _ v3 cs b wz (R1.o wz hz) (R3.o wz hz) hC hB (HT.later hz)))
  have hxl:=zaO (show errRow cs a=0 from by omega);have hyb:errRow cs b=y:=by unfold errRow;rw [if_pos hxl.1,hy]
  subst h0;by_cases hy0:y=0
  ·have hyl:=zaO (show errRow cs b=0 from by omega);have HE:=h_ (show cmpR cs a b=cmpL cs (a.zip b) from by unfold cmpR;rw [if_neg (by omega)]);subst hy0;have HLA:=h_ hxl.2.1;have HLB:=h_ hyl.2.1;clear hx hy hxl hyl hyb;have N0:=h_ (new2 w (.cells #[.slice ao n9 cap] 24) (.cells #[.int .i64 0] 3));rw [show ((0:Nat):Int)=0 from rfl] at CA CB;refine (callsIn_wide (n:=5)).1 ?_;refine callsIn_of_wp_marks func98 rfl trivial ?_ rfl;simp only [ntmps98,List.size_toArray,List.length_cons,List.length_nil,Nat.reduceAdd,Nat.reduceSub,Array.replicate_succ,Array.replicate_zero,List.push_toArray,List.append_toArray,List.nil_append,List.cons_append]
   gi_wp2_with fail
   refine ⟨trivial,?_⟩
   gi_at_call 122
   refine (callsIn_wide.2 (CA.o _ N0.2.2.2)).mono ?_;rintro e w1 ⟨rfl,hb⟩;have B1:=h_ (N0.2.2.2.trans (hb.mono N0.2.2.2.size));have hx1:Boxed w1 w.heap.size 24 (.slice ao n9 cap):=za9 N0.2.1 hb;have hx2:Boxed w1 (w.heap.size + 1) 3 (.int .i64 0):=za9 N0.2.2.1 hb;have X1:=h_ hx1;have X2:=h_ hx2;have hc1:=hx1.cell;clear hb hx1 hx2
   gi_wp2_with fail
   refine ⟨trivial,?_⟩
   gi_at_call 125
   refine (callsIn_wide.2 (CB.o _ B1.o)).mono ?_;rintro e w2 ⟨rfl,hb⟩;have B2:=bT B1 hb;have Y1:=h_ (za9 X1.o hb);have Y2:=h_ (za9 X2.o hb);have N1:=new1 w2 (.cells #[.int .i64 0] 3);have hB3:Below w.heap.size w (w2.alloc (.cells #[.int .i64 0] 3)):=B2.trans (N1.2.2.mono B2.size);have Y3:Boxed (w2.alloc (.cells #[.int .i64 0] 3)) w2.heap.size 3 (.int .i64 0):=N1.2.1;have Z1:Boxed (w2.alloc (.cells #[.int .i64 0] 3)) w.heap.size 24 (.slice ao n9 cap):=za9 Y1.o N1.2.2;have Z2:Boxed (w2.alloc (.cells #[.int .i64 0] 3)) (w.heap.size + 1) 3 (.int .i64 0):=za9 Y2.o N1.2.2;have MK:=h_ (zkS v2 v3 a b _ (R2.o _ hB3) (R3.o _ hB3));have hw12:=X2.lt;have hw2s:w.heap.size + 1 < w2.heap.size:=Y2.lt;have HSZ3:=h_ N1.1;clear hb N1 hc1 hw12
   gi_wp2_with fail
   refine ⟨trivial,?_⟩
   gi_at_call 94
   generalize w2.alloc (.cells #[.int .i64 0] 3)=w3 at MK hB3 Y3 Z1 Z2 HSZ3 ⊢;refine (callsIn_wide.2 MK.o).mono ?_;rintro e w4 ⟨rfl,rfl⟩
   gi_wp2
   obtain ⟨W0,hW0⟩:∃ W0,(w3.alloc (.cells #[v2] 84)).alloc (.cells #[v3] 84)=W0:=⟨_,rfl⟩;obtain ⟨M0,M1,M2,M3⟩:=new2 w3 (.cells #[v2] 84) (.cells #[v3] 84);rw [hW0] at M0 M1 M2 M3 ⊢;clear hW0;have bs:=h_ (za9 Z1 M3);have br:=h_ (za9 Z2 M3);have bt:=h_ (za9 Y3 M3);have hB0:Below w.heap.size w W0:=hB3.trans (M3.mono hB3.size);clear Y3 Z1 Z2 MK X1 X2 Y1 Y2 CA CB N0 B1 B2;have hb1:Boxed W0 w3.heap.size 84 v2:=M1;have hb2:Boxed W0 (w3.heap.size + 1) 84 v3:=M2;obtain ⟨T,hTe⟩:=nm_ w2.heap.size;have hsz3:=HSZ3.o;rw [<- hTe] at bt hsz3 hw2s ⊢;rw [hsz3] at M0 hb1 hb2 ⊢;clear hTe HSZ3 hsz3 M1 M2;generalize (Value.slice ao n9 cap)=v1 at R1 bs ⊢;have hab:a.length=b.length:=(by rw [HLA.o,HLB.o]);have hzl:(a.zip b).length=cs.length:=(by rw [List.length_zip,<- hab,HLA.o];omega);refine zdN (by omega) (gf:=120) (lb:=#[.pointer (some ⟨T + 1,0,none⟩),.pointer (some ⟨T + 1 + 1,0,none⟩)]) rfl (enters_of func120 (by kernel_rfl) rfl)
    (zf3 (5 - 1) (by omega) (T + 1) (T + 1 + 1) v2 v3 a b hab w R2.o R3.o W0 hB0 hb1.cell hb2.cell) zy7 (zy8 (by omega) (by omega) (by omega)) (fun _=>rfl)
    (fun pre W=>((Boxed W w.heap.size 24 v1/\Boxed W (w.heap.size + 1) 3 (.int .i64 0))/\Boxed W T 3 (.int .i64 (pre.length:Nat)))/\Below w.heap.size w W/\cmpL cs pre=0)
    (fun c pre W=>(Boxed W (w.heap.size + 1) 3 (.int .i64 (cmpL cs pre))/\Below w.heap.size w W)/\(c=.ret/\cmpL cs pre≠0))
    (OwnFrom.and (OwnFrom.and (OwnFrom.and (Own.from (boxed_own _ _ _) _) (Own.from (boxed_own _ _ _) _)) (Own.from (boxed_own _ _ _) _)) (OwnFrom.and (ownFrom_below l_ (by omega)) (ownFrom_pure _ _)))
    (fun c=>OwnFrom.and (OwnFrom.and (Own.from (boxed_own _ _ _) _) (ownFrom_below l_ (by omega))) (ownFrom_pure _ _))
    ⟨⟨⟨bs.o,br.o⟩,bt.o⟩,hB0,by cases cs <;> rfl⟩
    (fun (x:CellB × CellB) a' W=>∃ Bx By,(W.heap[Bx]?=some (Obj.cells #[.int .u64 (x.1.1:Int),.string x.1.2] 82 (0,0))/\W.heap[By]?=some (Obj.cells #[.int .u64 (x.2.1:Int),.string x.2.2] 82 (0,0))) /\
     a'={ tmps:=#[v1,v2,v3,.pointer (some ⟨w.heap.size,0,none⟩),undef,undef,.pointer (some ⟨w.heap.size + 1,0,none⟩),.pointer (some ⟨T,0,none⟩),.pointer (some ⟨Bx,0,none⟩),.pointer (some ⟨By,0,none⟩),undef,v1,v2,.int .i64 0,.bool false,.bool false,v1,v3,.int .i64 0,.bool false,.bool false,v2,v3,
      .func (.func 120) #[] #[.pointer (some ⟨T + 1,0,none⟩),.pointer (some ⟨T + 1 + 1,0,none⟩)],
      .agg #[.int .u64 (x.1.1:Int),.string x.1.2],.agg #[.int .u64 (x.2.1:Int),.string x.2.2],undef,undef,undef,undef,undef,undef,undef,undef,undef,undef,undef,undef,undef],defers:=[] })
    ?_ ?_ ?_ ?_ ?_
   ·rintro x a' s X Y row ⟨Bx,By,⟨h4,h5⟩,h6⟩ hg hr;exact ⟨Bx,By,⟨zcI h4 hg hr,zcI h5 hg hr⟩,h6⟩
   ·rintro l pre ⟨⟨nm,tx⟩,⟨nn,ty⟩⟩ W K hi hx hK;unfold zz6;dsimp only
    gi_wp2
    obtain ⟨N0,N1,N2,N3⟩:=new2 W (.cells #[.int .u64 (nm:Int),.string tx] 82) (.cells #[.int .u64 (nn:Int),.string ty] 82);exact hK _ _ (zaL N3) (zd8 N3) ⟨⟨⟨za9 hi.1.1.1 N3,za9 hi.1.1.2 N3⟩,za9 hi.1.2 N3⟩,hi.2.1.trans (N3.mono hi.2.1.size),hi.2.2⟩ ⟨_,_,⟨N1,N2⟩,rfl⟩
   ·rintro l pre ⟨⟨nm,tx⟩,⟨nn,ty⟩⟩ a' W ⟨⟨⟨hi1,hi2⟩,hi3⟩,hi4,hi5⟩ ⟨Bx,By,⟨hx1,hx2⟩,rfl⟩ hlt hx;have hmem:=List.of_mem_zip hx;have hce1:=hA _ hmem.1;have hce2:=hB _ hmem.2;rw [hzl] at hlt;have hr1:=R1.o W hi4;have hsmall:=hr1.small;obtain ⟨ba,oa,hia,hca,_⟩:=hr1.get hlt;obtain ⟨ca0,ca1⟩:=hca _ hr1;obtain ⟨K,hK⟩:=nm_ ((cs.getD pre.length default).2);rw [<- hK] at ca1;have p1:=hi1.cell;have p2:=hi3.cell;have e2:=za1 hx1 (i:=0) rfl;have e3:=za1 hx1 (i:=1) rfl;have e4:=za1 hx2 (i:=0) rfl;have e5:=za1 hx2 (i:=1) rfl;obtain ⟨c,hc⟩:=nm_ (cmpC K nm tx.data.toList nn ty.data.toList);have HC:=h_ (show cmpL cs (pre ++ [((nm,tx),(nn,ty))])=c from by rw [zq4 cs pre _ hlt hi5,hc,hK];rfl)
    have CK:=h_ (fun wz (hz:Below W.heap.size W wz)=>(show Calls prog 126 #[.int .i64 K,.agg #[.int .u64 (nm:Int),.string tx],.agg #[.int .u64 (nn:Int),.string ty]] wz fun e w'=>e=.returned (.int .i64 c)/\Below wz.heap.size wz w' from by
     rw [hc]
     exact zqB K nm nn hce1.1 hce2.1 tx ty _ _ wz (CES.rdS hce1) (CES.rdS hce2) (HT.later (hi4.trans (hz.mono hi4.size)))))
    have HI1:=h_ hi1;have HI2:=h_ hi2;have HI3:=h_ hi3;have HI4:=h_ hi4;have hd:1<=5 - 1 - 1:=(by omega);have hdw:=h_ ((Below.refl W.heap.size W).drew);have hmx:prog.follows .mixedOrders=true:=(by kernel_rfl);obtain ⟨m,hm⟩:=nm_ pre.length;rw [<- hm] at hia p2 HI3 hlt;have HM:=h_ hm;have hm8:m < 140737488351232:=(by omega);clear hm hsmall;clear hr1 hca ca0 hx1 hx2 hmem hce1 hce2 hi1 hi2 hi3 hi4 hi5 hc hK
    gi_wp2
    gi_region_with ((refine ⟨trivial,?_⟩;gi_at_call 126;refine (CallsIn.inRound l (callsIn_wide.2 (CK.o _ hdw.o))).mono ?_;rintro e w' ⟨rfl,hb⟩))
    all_goals
     have HB5:=h_ (hdw.trans (hb.mono l_));have br1:=za9 HI2.o HB5.o;have bt1:=za9 HI3.o HB5.o;have q1:=br1.cell;have q2:=br1.frozen;have q3:=bt1.cell;have q4:=bt1.frozen;have HR1:=h_ br1;have HT1:=h_ bt1;have HS1:=h_ (za9 HI1.o HB5.o);clear hb CK ca1 p1 p2 e2 e3 e4 e5 hia br1 bt1 hmx;by_cases h0:c=0
     ·subst h0
      gi_wp2
      refine ⟨(zaL HB5.o).trans ((KeepsOthers.setCell _ _ _).from _),(zd8 HB5.o).setCell (p:=⟨T,0,none⟩) ⟨by show w.heap.size<=T;omega,by show T≠T + 1;omega,by show T≠T + 1 + 1;omega⟩ _,⟨⟨HS1.other (by omega) _,HR1.other (by omega) _⟩,?_⟩,?_,HC.o⟩
      ·have:=HT1.set (.int .i64 ((m:Int) + 1));have e9:(pre ++ [((nm,tx),(nn,ty))]).length=m + 1:=(by rw [List.length_append,<- HM.o];rfl);rw [e9,show ((m + 1:Nat):Int)=(m:Int) + 1 from by omega];exact this
      exact (HI4.trans (HB5.mono HI4.size)).setCell (p:=⟨T,0,none⟩) (by show w.heap.size<=T;omega) _
     have q5:(c != 0)=true:=by rw [bne_iff_ne];exact h0
     gi_wp2
     refine ⟨(zaL HB5.o).trans ((KeepsOthers.setCell _ _ _).from _),⟨?_,?_⟩,rfl,by rw [HC.o];exact h0⟩
     ·rw [HC.o];exact HR1.set _
     exact (HI4.trans (HB5.mono HI4.size)).setCell (p:=⟨w.heap.size + 1,0,none⟩) (by show w.heap.size<=w.heap.size + 1;omega) _
   ·rintro D W hD ⟨⟨⟨hi1,hi2⟩,hi3⟩,hi4,hi5⟩ hK;have hbc:=hi2.cell;have hbf:=hi2.frozen
    gi_wp2
    have hK':=(KeepsOthers.setCell W ⟨w.heap.size + 1,0,none⟩ (.int .i64 0)).same D _ hK rfl;have hc5:=cell_kept (hi2.set (.int .i64 0)).cell (grownBy_putObj' _ D (.deferred none)) (fun r e=>by cases e;exact ⟨_,hK',rfl⟩);refine ⟨by simp,.inl ⟨_,_,rfl,run_takeDeferred hK',?_⟩⟩;refine ⟨.int .i64 0,by simp [results,results98,go_sem,hc5],by rw [HE.o,hi5],?_⟩;exact (hi4.setCell (p:=⟨w.heap.size + 1,0,none⟩) (by show w.heap.size<=w.heap.size + 1;omega) _).trans (belowK_b (w:=w) l_ _ D _ _ (by omega) hK' rfl rfl)
   rintro D c k W hD hk ⟨⟨hb,hB⟩,rfl,hp⟩ hK
   gi_wp2
   have hc5:=cell_kept hb.cell (grownBy_putObj' _ D (.deferred none)) (fun r e=>by cases e;exact ⟨_,hK,rfl⟩);refine ⟨by simp,.inl ⟨_,_,rfl,run_takeDeferred hK,?_⟩⟩;refine ⟨_,by simp [results,results98,go_sem,hc5];rfl,by rw [HE.o,zq3 (by omega) hp],?_⟩;exact hB.trans (belowK_b (w:=w) l_ _ D _ _ (by omega) hK rfl rfl)
  have HE:=h_ (show cmpR cs a b=0 from by unfold cmpR;rw [if_pos (.inr (by omega))]);have q:((y:Int) != 0)=true:=by rw [bne_iff_ne];omega
  clear hx hy hxl hyb;rw [show ((0:Nat):Int)=0 from rfl] at CA;have N0:=h_ (new2 w (.cells #[.slice ao n9 cap] 24) (.cells #[.int .i64 0] 3));go_enter func98,ntmps98;go_wp2_with fail;refine (CA.o _ N0.2.2.2).mono ?_;rintro e w1 ⟨rfl,hb⟩;have B1:=h_ (N0.2.2.2.trans (hb.mono N0.2.2.2.size));have hx1:Boxed w1 w.heap.size 24 (.slice ao n9 cap):=za9 N0.2.1 hb;have hx2:Boxed w1 (w.heap.size + 1) 3 (.int .i64 0):=za9 N0.2.2.1 hb;have X2:=h_ hx2;have hc1:=hx1.cell;clear hb hx1 hx2 N0;go_wp2_with fail;refine (CB.o _ B1.o).mono ?_;rintro e w2 ⟨rfl,hb⟩;have B2:=bT B1 hb;have hy2:=za9 X2.o hb;have hc2:=hy2.cell;have hf2:=hy2.frozen;have Y2:=h_ hy2;clear hb hy2 hc1 X2;go_wp2;have hc5:=(Y2.set (.int .i64 0)).cell;refine bodyPost_ret (v:=.int .i64 0) (by simp [results,results98,go_sem,hc5]) rfl ?_;exact ⟨by rw [HE.o],B2.setCell (p:=⟨w.heap.size + 1,0,none⟩) (by show w.heap.size<=w.heap.size + 1;omega) _⟩
 have HE:=h_ (show cmpR cs a b=0 from by unfold cmpR;rw [if_pos (.inl (by omega))]);have q:((x:Int) != 0)=true:=by rw [bne_iff_ne];omega
 clear hx;have N0:=h_ (new2 w (.cells #[.slice ao n9 cap] 24) (.cells #[.int .i64 0] 3));go_enter func98,ntmps98;go_wp2_with fail;refine (CA.o _ N0.2.2.2).mono ?_;rintro e w1 ⟨rfl,hb⟩;have B1:=h_ (N0.2.2.2.trans (hb.mono N0.2.2.2.size));have hy2:Boxed w1 (w.heap.size + 1) 3 (.int .i64 0):=za9 N0.2.2.1 hb;have hc2:=hy2.cell;have hf2:=hy2.frozen;have Y2:=h_ hy2;clear hb hy2 N0;go_wp2;have hc5:=(Y2.set (.int .i64 0)).cell;refine bodyPost_ret (v:=.int .i64 0) (by simp [results,results98,go_sem,hc5]) rfl ?_;exact ⟨by rw [HE.o],B1.setCell (p:=⟨w.heap.size + 1,0,none⟩) (by show w.heap.size<=w.heap.size + 1;omega) _⟩
/- -/
theorem zl0 {ops:Array Oper} {Q:Exit->Act->World->Prop} {rest:List Oper} {a:Act} {w:World} {dst:Option Tmp} {ty:TypeId} {pos:String} {aft:Array Edge} {s x:Operand}
  (b cap:Nat) (m l:Bs) (hs:a.eval s=.slice (some ⟨b,0,none⟩) m.length cap) (hm:Rd w (.slice (some ⟨b,0,none⟩) m.length cap) m) (xv:Value) (hx:a.eval x=xv) (hR:Rd w xv l) (hpos:0 < l.length) (hfull:cap < m.length + l.length)
  (hn:m.length + l.length<=140737488355328) (B:Nat) (w0:World) (hb:Below B w0 w) (hBb:B<=w.heap.size)
  (h:∀ v' w',Own w' w.heap.size v' (m ++ l)->Below B w0 w'->wpList prog ops Q rest (a.put dst v') w') :
  wpList prog ops Q (⟨dst,.call ⟨.builtin .append,#[s,x],#[22,22]⟩,ty,pos,aft,none⟩ :: rest) a w:=by
 obtain ⟨i0,hi,hz0,hz1,hz2⟩:=info_parts zgY;obtain ⟨⟨ao,c9,rfl,hcap,hnil,hsome⟩,hcel,_⟩:=hR;cases ao with
 | none =>
  obtain rfl:c9=0:=hnil rfl;omega
 | some ad =>
  refine wpList_append_grows w rfl s x 22 rfl 5 i0 (.int .u8 0) 1 1 underlying22 hi hz0 hz1 hz2 rfl (by decide) (some ⟨b,0,none⟩) m.length cap (za6 m) hs (fun e=>by cases e) (by simp [za0]) ?_ ad l.length c9 (za6 l) hx (by simp [za0]) ?_ (zbK l) hfull (by unfold maxLen;omega) (by omega) ?_
  ·intro b9 hb9 j u hj;injection hb9 with hb9
   subst hb9;obtain ⟨hj1,rfl⟩:=zbL hj;exact hm.cells j hj1
  ·intro j u hj;obtain ⟨hj1,rfl⟩:=zbL hj;exact hcel j hj1
  intro v' w' h1 h2;refine h v' w' ?_ (hb.grown h2 hBb fun k hk=>by cases hk);rw [<- zaG] at h1;unfold Own;rw [List.length_append];exact h1
def zzI:Elt:=⟨22,5,1,1,.int .u8 0⟩
theorem zFN:zzI.Ok:=⟨underlying22,by kernel_rfl,by kernel_rfl,rfl,by decide⟩
def oneB (l:Bs):List (List Value):=l.map fun c=>[zeU c]
theorem zjM:∀ l,(oneB l).flatten=za6 l
 | []=>rfl
 | c :: r=>by
  have:=zjM r
  unfold oneB za6 at this ⊢
  rw [List.map_cons,List.flatten_cons,this];rfl
theorem zt9 (l:Bs):∀ x ∈ oneB l,x.length=1:=by
 intro x hx;obtain ⟨c,_,rfl⟩:=List.mem_map.1 hx;rfl
theorem ztA (l:Bs):∀ x ∈ oneB l,∀ u ∈ x,u.oneCell'=true:=by
 intro x hx u hu;obtain ⟨c,_,rfl⟩:=List.mem_map.1 hx;rw [List.mem_singleton.1 hu];rfl
theorem Own.toG {w:World} {base:Nat} {v:Value} {l:Bs} (h:Own w base v l):OwnG zzI w base v (oneB l):=by
 refine ⟨?_,zt9 l,ztA l⟩;rw [zjM,show (oneB l).length=l.length from by simp [oneB]];exact h
theorem Own.ofG {w:World} {base:Nat} {v:Value} {l:Bs} (h:OwnG zzI w base v (oneB l)):Own w base v l:=by
 have:=h.1;rw [zjM,show (oneB l).length=l.length from by simp [oneB]] at this;exact this
theorem Rd.toG {w:World} {v:Value} {l:Bs} (h:Rd w v l):RdG zzI w v (oneB l):=by
 have hl:(oneB l).length=l.length:=by simp [oneB]
 refine ⟨by rw [hl];exact h.shape,fun i hi j u hu=>?_,zt9 l,by rw [hl];exact h.small⟩;rw [hl] at hi;have e:(oneB l).getD i []=[zeU l[i]]:=by simp [oneB,List.getD,hi]
 rw [e] at hu;obtain rfl:j=0:=by
  have:=(List.getElem?_eq_some_iff.1 hu).1;simpa using this
 have hu:zeU l[i]=u:=by simpa using hu
 rw [show i * zzI.n + 0=i from by show i * 1 + 0=i;omega,h.cells i hi,<- hu,zhZ hi];rfl
theorem zhA {ops:Array Oper} {Q:Exit->Act->World->Prop} {rest:List Oper} {a:Act} {w:World} {dst:Option Tmp} {ty:TypeId} {pos:String} {aft:Array Edge} {s x:Operand}
  (base:Nat) (sv:Value) (m:Bs) (hs:a.eval s=sv) (ho:Own w base sv m) (xv:Value) (l:Bs) (hx:a.eval x=xv) (hR:Rd w xv l) (hn:m.length + l.length<=140737488355328) (hbase:base<=w.heap.size)
  (B:Nat) (w0:World) (hb:Below B w0 w) (hBb:B<=base)
  (h:∀ v' w',Own w' base v' (m ++ l)->Below B w0 w'->w.grownBy w' sv.ownBlock->Place w sv v'->wpList prog ops Q rest (a.put dst v') w') :
  wpList prog ops Q (⟨dst,.call ⟨.builtin .append,#[s,x],#[22,22]⟩,ty,pos,aft,none⟩ :: rest) a w:=by
 have hl:∀ l,(oneB l).length=l.length:=fun l=>by simp [oneB]
 refine zbA zFN base sv hs ho.toG xv hx hR.toG (ztA l) (by rw [hl,hl];show (m.length + l.length) * 1<=_;omega) (by rw [hl,hl];exact hn) hbase B w0 hb hBb fun v' w' h1 h2 h3 h4=>h v' w' (Own.ofG ?_) h2 h3 h4;rw [show oneB (m ++ l)=oneB m ++ oneB l from by simp [oneB]];exact h1
