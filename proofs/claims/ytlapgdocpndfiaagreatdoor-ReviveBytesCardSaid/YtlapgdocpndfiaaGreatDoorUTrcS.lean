/- -/
import Derived.Test.YtlapgdocpndfiaaGreatDoorUTrcL
import Derived.Test.YtlapgdocpndfiaaGreatDoorUEntR
set_option maxHeartbeats 8000000
set_option linter.unusedVariables false
set_option linter.unusedSimpArgs false
set_option maxRecDepth 1000000
namespace Go.Proofs.YtlapgdocpndfiaaGreatDoor
open _root_.Go.Proofs.Tryz
open Go.RowKit Go.Shelf
/- -/
def zFP (w:World) (r:Bs × Int × List PairB × Nat × Nat) (e:Ending) (w':World):Prop :=
 ∃ vv,e=.returned (.tuple #[.int .i64 r.2.1,vv,.int .i64 (r.2.2.2.2:Nat)])/\OffS w' vv r.2.2.1 (fun j=>j < w.heap.size)/\Below w.heap.size w w'
/- -/
def zG0 (w:World) (P:Prop) (e:Ending) (w':World):Prop:=∃ b:Bool,e=.returned (.bool b)/\(b=true ↔ P)/\Below w.heap.size w w'
theorem zr2 {es fs:List EntB} {k:Nat} (h1:k < es.length) (h2:k < fs.length) (h:es.take k=fs.take k) (he:es.getD k default=fs.getD k default):es.take (k + 1)=fs.take (k + 1):=by
 rw [zaE h1 default,zaE h2 default,h,he]
theorem zuQ (v1 v2:Value) (cs ds:List ColB) (es fs:List EntB) (w:World) (h1:RdT13 w v1 cs es) (h2:RdT13 w v2 ds fs) :
  Calls prog 14 #[v1,v2] w (zG0 w (cs=ds/\es=fs)):=by
 obtain ⟨s1,e1,rfl,hR1,hZ1⟩:=h1;obtain ⟨s2,e2,rfl,hR2,hZ2⟩:=h2;obtain ⟨a1,l1,p1,rfl⟩:=hR1.lit12;obtain ⟨a2,l2,p2,rfl⟩:=hR2.lit12;obtain ⟨a3,l3,p3,rfl⟩:=hZ1.lit;obtain ⟨a4,l4,p4,rfl⟩:=hZ2.lit;have SS:=h_ (fun wz (hz:Below w.heap.size w wz)=>zAU (.slice a1 l1 p1) (.slice a2 l2 p2) cs ds wz (hR1.later hz l_) (hR2.later hz l_));have HZ1:=h_ (fun wz (hz:Below w.heap.size w wz)=>hZ1.later hz l_);have HZ2:=h_ (fun wz (hz:Below w.heap.size w wz)=>hZ2.later hz l_);have hl1:=hZ1.len;have hl2:=hZ2.len;have hm1:=hZ1.small;have hm2:=hZ2.small;obtain ⟨n,hn⟩:=nm_ es.length;obtain ⟨m,hm⟩:=nm_ fs.length;rw [<- hn] at hl1 hm1;rw [<- hm] at hl2 hm2;have HN:=h_ hn;have HM:=h_ hm;obtain ⟨z0,z1,z2,z3⟩:=new2 w (.cells #[.slice a1 l1 p1,.slice a3 l3 p3] 27) (.cells #[.slice a2 l2 p2,.slice a4 l4 p4] 27);have HV:=h_ (And.intro (show Tbox ((w.alloc (.cells #[.slice a1 l1 p1,.slice a3 l3 p3] 27)).alloc (.cells #[.slice a2 l2 p2,.slice a4 l4 p4] 27)) w.heap.size (.slice a1 l1 p1) (.slice a3 l3 p3) from z1) (show Tbox ((w.alloc (.cells #[.slice a1 l1 p1,.slice a3 l3 p3] 27)).alloc (.cells #[.slice a2 l2 p2,.slice a4 l4 p4] 27)) (w.heap.size + 1) (.slice a2 l2 p2) (.slice a4 l4 p4) from z2));have HB:=h_ z3;clear hR1 hR2 hZ1 hZ2 hn hm z0 z1 z2 z3;go_enter func14,ntmps14;go_wp2_with fail;generalize (w.alloc (.cells #[.slice a1 l1 p1,.slice a3 l3 p3] 27)).alloc (.cells #[.slice a2 l2 p2,.slice a4 l4 p4] 27)=w0 at *;obtain ⟨sb,hsb⟩:=nm_ w.heap.size;obtain ⟨lb,hlb9⟩:=nm_ (sb + 1);rw [<- hsb] at HV;rw [<- hsb];rw [<- hlb9] at HV;rw [<- hlb9];have HSB:=h_ hsb;have HLB:=h_ hlb9;clear hsb hlb9;by_cases hc:cs=ds
 ·rw [decide_eq_true hc] at SS;have HC:=h_ hc;clear hc;refine (SS.o w0 HB.o).mono ?_;rintro e w1 ⟨rfl,hb⟩;replace HB:=bT HB hb;replace HV:=h_ (And.intro (HV.1.later hb) (HV.2.later hb));clear hb SS;obtain ⟨c0,c1⟩:=HV.1.cells;obtain ⟨c2,c3⟩:=HV.2.cells;by_cases hlm:n=m
  ·subst hlm;have d1:((n:Int) != (n:Int))=false:=(by simp);go_wp2;go_loopw [5] (fun i wr=>∃ k:Nat,k<=n/\i=.int .i64 k/\Hid (es.take k=fs.take k)/\Hid (Tbox wr sb (.slice a1 l1 p1) (.slice a3 l3 p3)/\Tbox wr lb (.slice a2 l2 p2) (.slice a4 l4 p4))/\Hid (Below w.heap.size w wr)) (fun i _=>n - (intOf i).toNat)
   case atStart=>exact ⟨0,by omega,rfl,h_ rfl,HV,HB⟩
   clear HV HB c0 c1 c2 c3;obtain ⟨k,hk,rfl,HT,HV,HB⟩:=hrel;obtain ⟨c0,c1⟩:=HV.1.cells;obtain ⟨c2,c3⟩:=HV.2.cells;by_cases hlt:k < n
   ·have hk1:k < es.length:=(by rw [<- HN.o];exact hlt);have hk2:k < fs.length:=(by rw [<- HM.o];exact hlt);obtain ⟨b1,o1,pv1,hidx1,x0,x1,x2,hp1,_⟩:=(HZ1.o wr HB.o).get hk1;obtain ⟨b2,o2,pv2,hidx2,y0,y1,y2,hp2,_⟩:=(HZ2.o wr HB.o).get hk2;have HNX:=h_ (fun he=>zr2 hk1 hk2 HT.o he);have HNE:=h_ (show es.getD k default≠fs.getD k default->es≠fs from fun h e=>h (by rw [e]));obtain ⟨x,hx⟩:=nm_ (es.getD k default);obtain ⟨y,hy⟩:=nm_ (fs.getD k default);rw [<- hx] at x0 x1 hp1;rw [<- hy] at y0 y1 hp2;rw [<- hx,<- hy] at HNX HNE;clear hx hy;obtain ⟨k1,s1,ps⟩:=x;obtain ⟨k2,s2,qs⟩:=y;dsimp only at x0 x1 y0 y1 hp1 hp2;obtain ⟨ap,np,cp,rfl⟩:=hp1.lit12;obtain ⟨aq,nq,cq,rfl⟩:=hp2.lit12
    have SM:=h_ (fun wz (hz:Below wr.heap.size wr wz)=>(zuR (.agg #[.int .i64 k1,.int .i64 s1,.slice ap np cp]) (.agg #[.int .i64 k2,.int .i64 s2,.slice aq nq cq]) (k1,s1,ps) (k2,s2,qs) wz ⟨_,rfl,hp1.later hz l_⟩ ⟨_,rfl,hp2.later hz l_⟩).mono
     (fun e w' h=>show e=.returned (.bool (decide (((k1,s1,ps):EntB)=(k2,s2,qs))))/\Below wr.heap.size wr w' from ⟨h.1,hz.trans (h.2.mono hz.size)⟩))
    have HB2:=h_ (fun wz (hz:Below wr.heap.size wr wz)=>HB.trans (hz.mono HB.size));have HV2:=h_ (fun wz (hz:Below wr.heap.size wr wz)=>And.intro (HV.1.later hz) (HV.2.later hz));have Q:=h_ (fun wz (hz:Below wr.heap.size wr wz)=>And.intro hz (And.intro (za5 hz c1) (And.intro (za5 hz c3) (And.intro (za5 hz x0) (And.intro (za5 hz x1) (And.intro (za5 hz x2) (And.intro (za5 hz y0) (And.intro (za5 hz y1) (za5 hz y2)))))))));have m0:Below wr.heap.size wr wr.drew:=(Below.refl _ _).drew;clear x0 x1 x2 y0 y1 y2 hp1 hp2 HB hk1 hk2;by_cases hxy:((k1,s1,ps):EntB)=(k2,s2,qs)
    ·rw [decide_eq_true hxy] at SM;have HT9:=h_ (HNX.o hxy);clear hxy HV;go_wp2;go_region_held3 (fun z=>Below wr.heap.size wr z/\z.cell? ⟨sb,1,none⟩=some (.slice a3 l3 p3)/\z.cell? ⟨lb,1,none⟩=some (.slice a4 l4 p4)/\z.cell? ⟨b1,o1,none⟩=some (.int .i64 k1)/\z.cell? ⟨b1,o1 + 1,none⟩=some (.int .i64 s1)/\z.cell? ⟨b1,o1 + 2,none⟩=some (.slice ap np cp)/\z.cell? ⟨b2,o2,none⟩=some (.int .i64 k2)/\z.cell? ⟨b2,o2 + 1,none⟩=some (.int .i64 s2)/\z.cell? ⟨b2,o2 + 2,none⟩=some (.slice aq nq cq)) (first | (exact Q.o _ m0) | go_keep)
      ((first
       | (go_at_call 47;refine (SM.o _ (by assumption)).mono ?_;rintro e w6 ⟨rfl,m3⟩;clear m0;have m0:=m3;clear m3)))
     have HB6:=h_ (HB2.o _ m0);have HV6:=h_ (HV2.o _ m0);clear m0 SM HB2 HV2 Q;go_wp2;go_roundw
     case rel=>exact ⟨k + 1,by omega,by go_num,HT9,HV6,HB6⟩
     simp [intOf];omega
    rw [decide_eq_false hxy] at SM;have HF:=h_ (show (false=true ↔ cs=ds/\es=fs) from iff_of_false (by simp) (fun h=>HNE.o hxy h.2));clear hxy HV;go_wp2;go_region_held3 (fun z=>Below wr.heap.size wr z/\z.cell? ⟨sb,1,none⟩=some (.slice a3 l3 p3)/\z.cell? ⟨lb,1,none⟩=some (.slice a4 l4 p4)/\z.cell? ⟨b1,o1,none⟩=some (.int .i64 k1)/\z.cell? ⟨b1,o1 + 1,none⟩=some (.int .i64 s1)/\z.cell? ⟨b1,o1 + 2,none⟩=some (.slice ap np cp)/\z.cell? ⟨b2,o2,none⟩=some (.int .i64 k2)/\z.cell? ⟨b2,o2 + 1,none⟩=some (.int .i64 s2)/\z.cell? ⟨b2,o2 + 2,none⟩=some (.slice aq nq cq)) (first | (exact Q.o _ m0) | go_keep)
     ((first
      | (go_at_call 47;refine (SM.o _ (by assumption)).mono ?_;rintro e w6 ⟨rfl,m3⟩;clear m0;have m0:=m3;clear m3)))
    have HB6:=h_ (HB2.o _ m0);clear m0 SM HB2 HV2 Q;go_wp2;go_ret;exact ⟨_,rfl,HF.o,HB6.o⟩
   obtain rfl:k=n:=by omega
   have HF:=h_ (show cs=ds/\es=fs from ⟨HC.o,by
    have:=HT.o
    rwa [List.take_of_length_le (by rw [HN.o];exact l_),List.take_of_length_le (by rw [HM.o];exact l_)] at this⟩)
   clear hlt;go_wp2;go_ret;exact ⟨_,rfl,iff_of_true rfl HF.o,HB.o⟩
  have d1:((n:Int) != (m:Int))=true:=by rw [bne_iff_ne];omega
  have HF:=h_ (show (false=true ↔ cs=ds/\es=fs) from iff_of_false (by simp) (fun h=>hlm (by rw [HN.o,HM.o,h.2])));clear hlm;go_wp2;go_ret;exact ⟨_,rfl,HF.o,HB.o⟩
 rw [decide_eq_false hc] at SS;have HF:=h_ (show (false=true ↔ cs=ds/\es=fs) from iff_of_false (by simp) (fun h=>hc h.1));clear hc;refine (SS.o w0 HB.o).mono ?_;rintro e w1 ⟨rfl,hb⟩;replace HB:=bT HB hb;clear hb SS;go_wp2;go_ret;exact ⟨_,rfl,HF.o,HB.o⟩
/- -/
/- -/
def znW (w:World) (b:Bs) (e:Ending) (w':World):Prop :=
 ∃ v,e=.returned (.tuple #[v,.int .i64 ((trD b).2.2.2.1:Nat),.int .i64 ((trD b).2.2.2.2:Nat)])/\(∀ w2,Only (fun j=>j < w.heap.size) w' w2->RdT13 w2 v (trD b).1 (trD b).2.1)/\CS (trD b).1/\Below w.heap.size w w'
def zcP (cs:List ColB) (ms:List (Int × Nat)):List CurB:=ms.map fun m=>(m.1,(m.2:Int),((Crc.sum (wrS (colsL cs)):Nat):Int))
