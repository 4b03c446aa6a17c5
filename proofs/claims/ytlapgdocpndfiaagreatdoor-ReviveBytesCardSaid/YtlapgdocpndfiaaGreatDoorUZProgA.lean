/- -/
import Derived.Test.YtlapgdocpndfiaaGreatDoorUCrc
import Derived.Test.YtlapgdocpndfiaaGreatDoorUAppFull
import Derived.Test.YtlapgdocpndfiaaGreatDoorShelf8
import Derived.Shelf.SlSortCmp.NoneTotal
import Derived.WalkMore
set_option maxHeartbeats 16000000
set_option linter.unusedVariables false
set_option linter.unusedSimpArgs false
set_option maxRecDepth 1000000
namespace Go.Proofs.YtlapgdocpndfiaaGreatDoor
open _root_.Go.Proofs.Tryz
open Go.RowKit Go.Shelf
theorem zd2 (v1 v2:Value) (cs:List ColB) (ps:List PairB) (w:World) (h1:RdC w v1 cs) (h2:RdP w v2 ps) (hC:CS cs) (hP:PSO ps) (hT:Tabs w) :
  Calls prog 129 #[v1,v2] w fun e w'=>e=.returned (.int .i64 (chkZ cs ps:Nat))/\Below w.heap.size w w':=by
 have SC:=h_ (zaW v1 cs w h1 hC hT);have hl2:=h2.len;have hsm:=h2.small;have HT:=h_ hT;have H2:=h_ h2;have R1:=h_ (fun wz (hz:Below w.heap.size w wz)=>h1.later hz l_);clear h1 h2 hT;obtain ⟨x,hx⟩:=nm_ (errS (colsL cs));rw [<- hx] at SC;by_cases h0:x=0
 ·subst h0;obtain ⟨n,hn⟩:=nm_ ps.length;rw [<- hn] at hl2 hsm;by_cases hbig:1024 < n
  ·have HE:=h_ (show chkZ cs ps=13 from by unfold chkZ;rw [if_neg (by omega),if_pos (by omega)]);clear hx hn;go_enter func129,ntmps129;go_wp2_with fail;refine SC.mono ?_;rintro e w1 ⟨rfl,hb⟩;go_wp2;go_ret;exact ⟨by rw [HE.o];rfl,hb⟩
  have HE:=h_ (show chkZ cs ps=chkF cs none ps from by unfold chkZ;rw [if_neg (by omega),if_neg (by omega)]);have HN:=h_ hn;clear hx hn;go_enter func129,ntmps129;go_wp2_with fail;refine SC.mono ?_;rintro e w1 ⟨rfl,hb⟩;have HB1:=h_ hb;clear hb SC;go_wp2;go_loopw [19] (fun i wr=>∃ k:Nat,k<=n/\i=.int .i64 k/\Hid (chkF cs none ps=chkF cs (prevR ps k) (ps.drop k))/\Hid (Below w.heap.size w wr)) (fun i _=>n - (intOf i).toNat)
  case atStart=>exact ⟨0,by omega,rfl,h_ rfl,HB1⟩
  clear HB1;obtain ⟨k,hk,rfl,HF,HB⟩:=hrel;by_cases hlt:k < n
  ·have k2:k < ps.length:=(by rw [<- HN.o];exact hlt);obtain ⟨b,o,rv,hi,c0,c1,hre,hbl⟩:=H2.get k2;obtain ⟨hce,hww⟩:=hP.get k2;obtain ⟨ao,nn,cap,rfl⟩:=hre.lit;have HK:=h_ k2;have HST:=h_ (fun a b c=>zq6 (cs:=cs) k2 a b c);have HD:=h_ (ziM k2);obtain ⟨p,hp⟩:=nm_ (ps.getD k default);rw [<- hp] at c1 hre hce hww HST HD;rcases p with ⟨r,y⟩
   dsimp only at c1 hre hce hww HST HD;have hc0:=(HB.cell (p:=⟨b,o,none⟩) hbl).trans c0;have hc1:=(HB.cell (p:=⟨b,o + 1,none⟩) hbl).trans c1;have NN:=h_ (new1 wr (.cells #[.slice ao nn cap,.int .i64 y] 86));have HBN:=bT HB NN.2.2;have CK:=h_ (zj8 v1 _ cs r _ (R1.o _ HBN.o) (hre.later HBN.o l_) hC hce (HT.later HBN.o));have HRE:=h_ hre;have HCE:=h_ hce;clear hp k2 hre hce c0 c1;obtain ⟨c,hc⟩:=nm_ (errRow cs r);rw [<- hc] at CK HST;have HCC:=h_ hc;clear hc;by_cases hcz:c=0
   ·subst hcz;go_wp2_with fail;refine CK.mono ?_;rintro e w2 ⟨rfl,hb⟩;have HB2:=bT HBN hb;have hnb:=(hb.block _ (by rw [NN.1];omega)).trans NN.2.1;have d0:=cell_of_row _ _ 0 _ _ _ hnb;have d1:=cell_of_row _ _ 1 _ _ _ hnb;simp at d0 d1;clear hc0 hc1 hb HB CK hnb HBN NN;by_cases hwz:y=0
    ·have HF2:=h_ (show chkF cs none ps=2 from by
      rw [HF.o,HD.o];unfold chkF
      rw [if_neg (fun h9=>h9 HCC.symm),if_pos hwz])
     subst hwz;clear HF;go_wp2;go_ret;exact ⟨by rw [HE.o,HF2.o];rfl,HB2.o⟩
    have hyz:(y == 0)=false:=(by rw [Bool.eq_false_iff];intro hh;exact hwz (beq_iff_eq.1 hh));have HY:=h_ hwz;clear hwz;by_cases hk0:k=0
    ·subst hk0;have HF2:=h_ (HF.trans (HST.o (by simp) HY.o (fun r hr=>by cases hr)));clear HF HST;rw [show ((0:Nat):Int)=0 from rfl] at hi;go_wp2;go_quiet (fail);go_wp2;go_roundw
     case rel=>exact ⟨1,by omega,rfl,HF2,h_ (_root_.Go.below_drewN HB2.o _)⟩
     simp [intOf];omega
    obtain ⟨j,hj⟩:∃ j,k=j + 1:=⟨k - 1,by omega⟩;have j2:j < ps.length:=(by have:=HK.o;omega);obtain ⟨b',o',rv',hi',c0',c1',hre',hbl'⟩:=H2.get j2;obtain ⟨hce',_⟩:=hP.get j2;have hc0':=(HB2.cell (p:=⟨b',o',none⟩) hbl').trans c0';have CC:=h_ (fun wz (hz:Below w2.heap.size w2 wz)=>zf9 v1 rv' _ cs (ps.getD j default).1 r wz (R1.o wz (HB2.trans (hz.mono HB2.size))) (hre'.later (HB2.trans (hz.mono HB2.size)) l_) (HRE.later (HB2.trans (hz.mono HB2.size)) l_) hC hce' HCE.o (HT.later (HB2.trans (hz.mono HB2.size))));have hsub:(k:Int) - 1=(j:Int):=(by omega);have hwj:IntKind.i64.wrap (j:Int)=(j:Int):=IntWalk.i64_in _ (by omega);have hpos:decide (0 < k)=true:=decide_eq_true (by omega);have HPR:=h_ (show prevR ps k=some (ps.getD j default).1 from by rw [hj];rfl);obtain ⟨m,hm⟩:=nm_ (cmpR cs (ps.getD j default).1 r);rw [<- hm] at CC;have HM:=h_ hm;clear hm j2 hre' hce' hk0 c0' c1';have HJ:=h_ hj;clear hj;go_wp2;go_still_tail 12,(by kernel_rfl);change wpList _ _ _ _ _ w2.drew;have HB3:=h_ HB2.drew;have HD3:=h_ ((Below.refl w2.heap.size w2).drew);clear d0 d1 hc0';go_wp2_with fail;refine (CC.o _ HD3.o).mono ?_;rintro e w3 ⟨rfl,hb⟩;have HB4:=bT HB3 hb;clear hb HB3 HD3 CC;by_cases hm0:0<=m
    ·have HF2:=h_ (show chkF cs none ps=9 from by
      rw [HF.o,HD.o,HPR.o];unfold chkF
      rw [if_neg (fun h9=>h9 HCC.symm),if_neg HY.o]
      show (if _ then _ else _)=_
      rw [if_pos (by rw [<- HM.o];exact hm0)])
     have hmd:decide (0<=m)=true:=decide_eq_true hm0;clear HF HST;go_wp2;go_ret;exact ⟨by rw [HE.o,HF2.o];rfl,HB4.o⟩
    have HF2:=h_ (HF.trans (HST.o (by simp) HY.o (fun r hr=>by rw [HPR.o] at hr;injection hr with hr;rw [<- hr,<- HM.o];omega)));have hmd:decide (0<=m)=false:=decide_eq_false hm0;clear HF HST;go_wp2;go_roundw
    case rel=>exact ⟨k + 1,by omega,by go_num,HF2,HB4⟩
    simp [intOf];omega
   have HF2:=h_ (show chkF cs none ps=c from by
    rw [HF.o,HD.o];unfold chkF
    rw [if_pos (by rw [<- HCC.o];exact hcz),HCC.o])
   have hcq:((c:Int) != 0)=true:=(by rw [bne_iff_ne];omega);clear HF HST;go_wp2_with fail;refine CK.mono ?_;rintro e w2 ⟨rfl,hb⟩;have HB2:=bT HBN hb;clear hb;go_wp2;go_ret;exact ⟨by rw [HE.o,HF2.o];rfl,HB2.o⟩
  obtain rfl:k=n:=by omega
  have HF2:=h_ (show chkF cs none ps=0 from by rw [HF.o,HN.o,List.drop_length];simp [chkF]);clear HF;go_wp2;go_ret;exact ⟨by rw [HE.o,HF2.o];rfl,HB.o⟩
 have HE:=h_ (show chkZ cs ps=x from by unfold chkZ;rw [if_pos (by omega),hx]);have q:((x:Int) != 0)=true:=by rw [bne_iff_ne];omega
 clear hx;go_enter func129,ntmps129;go_wp2_with fail;refine SC.mono ?_;rintro e w1 ⟨rfl,hb⟩;go_wp2;go_ret;exact ⟨by rw [HE.o];rfl,hb⟩
theorem zrQ {cs:List ColB} {ps:List PairB} {k:Nat} (h:k < ps.length):firstE cs (ps.drop k)=if errRow cs (ps.getD k default).1≠0 then errRow cs (ps.getD k default).1 else firstE cs (ps.drop (k + 1)):=by
 rw [ziM h];rfl
def rowsE (cs:List ColB) (ps:List PairB):Nat:=if errS (colsL cs)≠0 then errS (colsL cs) else firstE cs ps
theorem zkZ (v1 v2:Value) (cs:List ColB) (ps:List PairB) (w:World) (h1:RdC w v1 cs) (h2:RdP w v2 ps) (hC:CS cs) (hP:PSO ps) (hT:Tabs w) :
  Calls prog 95 #[v1,v2] w fun e w'=>e=.returned (.int .i64 (rowsE cs ps:Nat))/\Below w.heap.size w w':=by
 have SC:=h_ (zaW v1 cs w h1 hC hT);have hl2:=h2.len;have hsm:=h2.small;have HT:=h_ hT;have H2:=h_ h2;have R1:=h_ (fun wz (hz:Below w.heap.size w wz)=>h1.later hz l_);clear h1 h2 hT;obtain ⟨x,hx⟩:=nm_ (errS (colsL cs));rw [<- hx] at SC;by_cases h0:x=0
 ·subst h0;obtain ⟨n,hn⟩:=nm_ ps.length;rw [<- hn] at hl2 hsm;have HE:=h_ (show rowsE cs ps=firstE cs ps from by unfold rowsE;rw [if_neg (by omega)]);have HN:=h_ hn;clear hx hn;go_enter func95,ntmps95;go_wp2_with fail;refine SC.mono ?_;rintro e w1 ⟨rfl,hb⟩;have HB1:=h_ hb;clear hb SC;go_wp2;go_loopw [16] (fun i wr=>∃ k:Nat,k<=n/\i=.int .i64 k/\Hid (firstE cs ps=firstE cs (ps.drop k))/\Hid (Below w.heap.size w wr)) (fun i _=>n - (intOf i).toNat)
  case atStart=>exact ⟨0,by omega,rfl,h_ rfl,HB1⟩
  clear HB1;obtain ⟨k,hk,rfl,HF,HB⟩:=hrel;by_cases hlt:k < n
  ·have k2:k < ps.length:=(by rw [<- HN.o];exact hlt);obtain ⟨b,o,rv,hi,c0,c1,hre,hbl⟩:=H2.get k2;obtain ⟨hce,hww⟩:=hP.get k2;obtain ⟨ao,nn,cap,rfl⟩:=hre.lit;have HST:=h_ (zrQ (cs:=cs) k2);obtain ⟨p,hp⟩:=nm_ (ps.getD k default);rw [<- hp] at c1 hre hce hww HST;rcases p with ⟨r,y⟩
   dsimp only at c1 hre hce hww HST;have hc0:=(HB.cell (p:=⟨b,o,none⟩) hbl).trans c0;have hc1:=(HB.cell (p:=⟨b,o + 1,none⟩) hbl).trans c1;have NN:=h_ (new1 wr (.cells #[.slice ao nn cap,.int .i64 y] 86));have HBN:=bT HB NN.2.2;have CK:=h_ (zj8 v1 _ cs r _ (R1.o _ HBN.o) (hre.later HBN.o l_) hC hce (HT.later HBN.o));clear hp k2 hre hce c0 c1;obtain ⟨c,hc⟩:=nm_ (errRow cs r);rw [<- hc] at CK HST;clear hc;by_cases hcz:c=0
   ·subst hcz;have HF2:=h_ (HF.trans (HST.trans (if_neg (fun h9=>h9 rfl))));go_wp2_with fail;refine CK.mono ?_;rintro e w2 ⟨rfl,hb⟩;have HB2:=bT HBN hb;clear hc0 hc1 hb HB CK HBN NN HF HST;go_wp2;go_roundw
    case rel=>exact ⟨k + 1,by omega,by go_num,HF2,HB2⟩
    simp [intOf];omega
   have HF2:=h_ (show firstE cs ps=c from HF.trans (HST.trans (if_pos hcz)));have hcq:((c:Int) != 0)=true:=(by rw [bne_iff_ne];omega);clear HF HST;go_wp2_with fail;refine CK.mono ?_;rintro e w2 ⟨rfl,hb⟩;have HB2:=bT HBN hb;clear hb;go_wp2;go_ret;exact ⟨by rw [HE.o,HF2.o];rfl,HB2.o⟩
  obtain rfl:k=n:=by omega
  have HF2:=h_ (show firstE cs ps=0 from by rw [HF.o,HN.o,List.drop_length];simp [firstE]);clear HF;go_wp2;go_ret;exact ⟨by rw [HE.o,HF2.o];rfl,HB.o⟩
 have HE:=h_ (show rowsE cs ps=x from by unfold rowsE;rw [if_pos (by omega),hx]);have q:((x:Int) != 0)=true:=by rw [bne_iff_ne];omega
 clear hx;go_enter func95,ntmps95;go_wp2_with fail;refine SC.mono ?_;rintro e w1 ⟨rfl,hb⟩;go_wp2;go_ret;exact ⟨by rw [HE.o];rfl,hb⟩
/- -/
theorem znA {W w':World} (h:Below W.heap.size W w') (hd:W.drawn<=w'.drawn):∃ q os',w'=Go.Sort.grow (W.drewN q) os':=by
 refine ⟨w'.drawn - W.drawn,w'.heap.extract W.heap.size w'.heap.size,?_⟩;obtain ⟨hp,tp,dr,os,ou⟩:=w';obtain ⟨hp0,tp0,dr0,os0,ou0⟩:=W;obtain ⟨h1,h2,h3,h4,h5⟩:=h;dsimp only at h1 h2 h3 h4 h5 hd;subst h1 h2 h3;unfold Go.Sort.grow World.drewN;dsimp only;congr 1
 ·apply Array.ext_getElem?;intro i;by_cases hi:i < hp0.size
  ·rw [Array.getElem?_append_left hi];exact h5 i hi
  rw [Array.getElem?_append_right (by omega),Array.getElem?_extract];split
  ·congr 1;omega
  exact Array.getElem?_eq_none (by omega)
 omega
section
variable {α:Type} [Inhabited α] {enc:α->List Value} {k:Nat} {w0 w:World} {blk off m:Nat} {dk:Array α} {os:Array Obj}
theorem zgQ (j:Nat) (hj:j < w.heap.size):(sortWorldK enc k w blk off m dk os).heap[j]?=if blk=j then (w.heap[j]?).map (Go.Sort.onCells (Go.Sort.putCells id off (Go.Sort.flatK enc k dk))) else w.heap[j]?:=by
 unfold sortWorldK Go.Sort.grow Go.Sort.putRowK Go.Sort.putRow Go.Sort.mapBlock Go.Sort.ahead;dsimp only;rw [Array.getElem?_append_left (by simpa using hj),Array.getElem?_modify]
theorem zuB:w.heap.size<=(sortWorldK enc k w blk off m dk os).heap.size:=by
 unfold sortWorldK Go.Sort.grow Go.Sort.putRowK Go.Sort.putRow Go.Sort.mapBlock Go.Sort.ahead;simp
theorem zkV {B:Nat} (h:Below B w0 w) (hb:B<=blk) (hB:B<=w.heap.size):Below B w0 (sortWorldK enc k w blk off m dk os):=by
 refine h.trans ⟨rfl,rfl,rfl,zuB,fun j hj=>?_⟩;rw [zgQ j (by omega),if_neg (by omega)]
end
/-- The comparison that is handed to the sort. -/
theorem zs1 (g0:Nat) (v1 r1 r2:Value) (cs:List ColB) (a b:List CellB) (x y:Int) (W:World) (h1:RdC W v1 cs) (h2:RdE W r1 a) (h3:RdE W r2 b) (hC:CS cs) (hA:CES a) (hB:CES b) (hT:Tabs W) (hc:W.cell? ⟨g0,0,none⟩=some v1) :
  Calls prog 97 #[.agg #[r1,.int .i64 x],.agg #[r2,.int .i64 y],.pointer (some ⟨g0,0,none⟩)] W fun e w'=>e=.returned (.int .i64 (cmpR cs a b))/\Below W.heap.size W w':=by
 obtain ⟨ao,n,cap,rfl⟩:=h2.lit;obtain ⟨ao',n',cap',rfl⟩:=h3.lit;obtain ⟨N0,N1,N2,N3⟩:=new2 W (.cells #[.slice ao n cap,.int .i64 x] 86) (.cells #[.slice ao' n' cap',.int .i64 y] 86);have CK:=h_ (zf9 v1 _ _ cs a b _ (h1.later N3 l_) (h2.later N3 l_) (h3.later N3 l_) hC hA hB (hT.later N3));have NB:=h_ N3;obtain ⟨c,hcc⟩:=nm_ (cmpR cs a b);rw [<- hcc] at CK ⊢;have hbox:=(N3.cell (p:=⟨g0,0,none⟩) (World.block_lt_of_cell? W _ hc)).trans hc;clear N0 N1 N2 N3 h1 h2 h3 hcc;go_enter func97,ntmps97;go_wp2_with fail;refine CK.mono ?_;rintro e w1 ⟨rfl,hb⟩;have HB:=bT NB hb;clear hb CK;go_wp2;go_ret;exact ⟨rfl,HB.o⟩
abbrev InL (us:List TriB):={ t:TriB // t ∈ us }
def encI {us:List TriB} (x:InL us):List Value:=triV x.1
def cfI (cs:List ColB) {us:List TriB} (x y:InL us):Int:=cmpR cs x.1.2.1 y.1.2.1
theorem swoI {cs:List ColB} {us:List TriB} (hv:∀ t ∈ us,Vr cs t.2.1):Go.Sort.SWO (ltOf (cfI cs (us:=us))) where
 irrefl x:=by
  have:=(zbF cs).irr (hv x.1 x.2)
  unfold ltOf cfI;simp [this]
 trans x y z h1 h2:=by
  unfold ltOf cfI at *
  simp only [decide_eq_true_eq] at *
  exact (zbF cs).trans (hv x.1 x.2) (hv y.1 y.2) (hv z.1 z.2) h1 h2
 ntrans x y z h1 h2:=by
  unfold ltOf cfI at *
  simp only [decide_eq_false_iff_not] at *
  have vx:=hv x.1 x.2
  have vy:=hv y.1 y.2
  have vz:=hv z.1 z.2
  have f1:=(zbF cs).flip vx vy
  have f2:=(zbF cs).flip vy vz
  have f3:=(zbF cs).flip vx vz
  intro h3
  by_cases e1:cmpR cs y.1.2.1 x.1.2.1=0
  ·have:=((zbF cs).zero vy vx).1 e1
   rw [this] at h2
   exact h2 h3
  ·by_cases e2:cmpR cs z.1.2.1 y.1.2.1=0
   ·have:=((zbF cs).zero vz vy).1 e2
    rw [this] at h3
    exact h1 h3
   ·have:=(zbF cs).trans vz vy vx (by omega) (by omega)
    omega
theorem zpI {us:List TriB} [Inhabited (InL us)] (d:Array (InL us)) (t:Nat) (h:t < d.size * 2):((d.toList.map (fun x=>triV x.1)).flatten)[t]?=some ((Go.Sort.flatK encI 2 d)[t]!):=by
 rw [Go.Sort.get_flatK _ _ _ t h];have h2:t / 2 < d.size:=by omega
 have e:(d.toList.map (fun x=>triV x.1)).flatten[t / 2 * 2 + t % 2]?=some ((encI d[t / 2]!)[t % 2]!):=by
  refine zh0 (n:=2) _ (fun x hx=>by obtain ⟨y,_,rfl⟩:=List.mem_map.1 hx;rfl) (t / 2) (t % 2) _ (by simpa using h2) ?_;have eg:(d.toList.map (fun x=>triV x.1)).getD (t / 2) []=encI d[t / 2]!:=by
   rw [getElem!_pos d (t / 2) h2];simp [List.getD,h2,encI]
  rw [eg];have hl:(encI d[t / 2]!).length=2:=rfl;rw [getElem!_pos (encI d[t / 2]!) (t % 2) (by rw [hl];omega)];exact List.getElem?_eq_getElem _
 have e2:t / 2 * 2 + t % 2=t:=by omega
 rwa [e2] at e
theorem zrJ {us:List TriB} [Inhabited (InL us)] {w:World} {base g cap n m:Nat} {os:Array Obj} {d:Array (InL us)} {vs:List (List Value)} (h:OwnG pairE w base (.slice (some ⟨g,0,none⟩) n cap) vs) (hn:vs.length=n) (hd:d.size=n)
  (h1:∀ t ∈ us,t.1.oneCell'=true):OwnG pairE (sortWorldK encI 2 w g 0 m d os) base (.slice (some ⟨g,0,none⟩) n cap) ((d.toList.map (·.1)).map triV):=by
 obtain ⟨⟨h0,h2⟩,hwid,hone⟩:=h;rcases h2 with ⟨hv,_⟩ | ⟨g',cap',cur,hv,hbg,hg,hnc,hm,hcs,ht⟩
 ·simp at hv
 simp only [Value.slice.injEq,Option.some.injEq,Addr.mk.injEq] at hv;obtain ⟨⟨rfl,_⟩,_,rfl⟩:=hv;have hgl:g < w.heap.size:=(Array.getElem?_eq_some_iff.1 hg).1;have hlen:((d.toList.map (·.1)).map triV).length=n:=by simpa using hd
 have hw2:∀ x ∈ (d.toList.map (·.1)).map triV,x.length=pairE.n:=fun x hx=>by
  obtain ⟨t,_,rfl⟩:=List.mem_map.1 hx;rfl
 have hfl:((d.toList.map (·.1)).map triV).flatten.length=n * 2:=by
  have:=zbD _ hw2;rw [hlen] at this;exact this
 refine ⟨⟨?_,.inr ⟨g,cap,Go.Sort.putCells id 0 (Go.Sort.flatK encI 2 d) cur,by rw [hlen],hbg,?_,by omega,hm,?_,?_⟩⟩,hw2,?_⟩
 ·rw [hlen];exact hfl
 ·rw [zgQ g hgl,if_pos rfl,hg];rfl
 ·unfold Go.Sort.putCells;simpa using hcs
 ·rw [hlen];show (Go.Sort.putCells id 0 (Go.Sort.flatK encI 2 d) cur).toList.take (n * 2)=_;have hcs2:cur.size=cap * 2:=hcs;apply List.ext_getElem?;intro t;by_cases htl:t < n * 2
  ·have e:=zpI d t (by omega);rw [show d.toList.map (fun x=>triV x.1)=(d.toList.map (·.1)).map triV from by rw [List.map_map];rfl] at e;rw [List.getElem?_take_of_lt htl,e,Array.getElem?_toList];have htc:t < cur.size:=(by rw [hcs2];omega);unfold Go.Sort.putCells;rw [Array.getElem?_mapIdx,Array.getElem?_eq_getElem htc,Option.map_some,if_pos ⟨by omega,by rw [Go.Sort.size_flatK];omega⟩];rfl
  rw [List.getElem?_eq_none (by rw [List.length_take];omega),List.getElem?_eq_none (by omega)]
 intro x hx u hu;obtain ⟨t,ht,rfl⟩:=List.mem_map.1 hx;obtain ⟨y,_,rfl⟩:=List.mem_map.1 ht;simp [triV] at hu;rcases hu with rfl | rfl
 ·exact h1 _ y.2
 rfl
theorem zuA (g0:Nat) (v1 v:Value) (us:List TriB) (cs:List ColB) (w0 w:World) (base:Nat) (T0:TypeId) (fr:Nat × Nat) (ho:OwnG pairE w base v (us.map triV)) (hB:w0.heap.size<=base) (hb:Below w0.heap.size w0 w)
  (hr:∀ t ∈ us,RdE w0 t.1 t.2.1) (hv:∀ t ∈ us,Vr cs t.2.1) (h1:RdC w0 v1 cs) (hC:CS cs) (hT:Tabs w0) (hn:us.length<=140737488351232)
  (hbox:w.heap[g0]?=some (.cells #[v1] T0 fr)) (hg0:g0 < base) :
  Calls prog 96 #[v,.func (.func 97) #[] #[.pointer (some ⟨g0,0,none⟩)]] w fun e w' =>
   e=.returned (.tuple #[])/\∃ us':List TriB,us'.Perm us/\Z.wsrt (cmpR cs) (us'.map (·.2))/\OwnG pairE w' base v (us'.map triV)/\Below base w w':=by
 by_cases h0:us=[]
 ·subst h0;obtain ⟨ao,cap,e,_⟩:=RdG.shape (ho.rd (by simp));subst e;exact (AnyF.slices_SortFunc_none Tryz.sortP ao cap _ w).mono fun e w' ⟨he,hw⟩=>⟨he,[],List.Perm.refl _,by simp [Z.wsrt],by subst hw;exact ho,by subst hw;exact Below.refl _ _⟩
 haveI:Inhabited (InL us):=⟨⟨us.head h0,List.head_mem h0⟩⟩;have hpos:0 < us.length:=List.length_pos_iff.2 h0;obtain ⟨g,cap,hvv,hbg,_⟩:=OwnG.spot zaY ho (by simpa using hpos) (by simpa using hn);rw [List.length_map] at hvv;subst hvv;have hlt:=(ho.lt (k:=g) rfl).2;have hrd:=ho.rd (by simpa using hn);have hwb:w0.heap.size<=w.heap.size:=hb.size;obtain ⟨d,hd⟩:=nm_ (us.attach.toArray:Array (InL us));have hds:d.size=us.length:=by rw [hd];simp
 have hdl:d.toList.map (·.1)=us:=by rw [hd];exact List.attach_map_subtype_val us
 have hfroz:∀ i,w.frozen? ⟨g,i,none⟩=false:=by
  rcases ho.1.2 with ⟨hv',_⟩ | ⟨g',cap',cur,hv',_,hg,_⟩
  ·simp at hv'
  simp only [Value.slice.injEq,Option.some.injEq,Addr.mk.injEq] at hv';obtain ⟨⟨rfl,_⟩,_⟩:=hv';intro i;exact frozen_of_row _ _ _ _ _ hg
 have hH:Go.Sort.HoldsK encI 2 w g 0 d:=by
  intro j hj;rw [Go.Sort.size_flatK] at hj;refine ⟨?_,hfroz _⟩;have e:=zpI d j hj
  rw [show d.toList.map (fun x=>triV x.1)=us.map triV from by
   have:=congrArg (List.map triV) hdl
   rw [List.map_map] at this
   exact this] at e
  obtain ⟨hi,hj2⟩:=zg7 (n:=2) (by decide) (us.map triV) hrd.wid j _ e;have:=hrd.cells (j / 2) hi (j % 2) _ hj2;rw [zaK] at this;have e2:0 + (j / 2 * 2 + j % 2)=0 + j:=by omega
  rw [show pairE.n=2 from rfl,e2] at this;exact this
 have eg:∀ args w,(callFunc 97 args).run prog w=.ok (.enter 97 args) w:=enters_of func97 (by kernel_rfl) rfl;have hcmp:CmpLays prog 97 #[.pointer (some ⟨g0,0,none⟩)] encI 2 (cfI cs (us:=us)) g 0 d.size w:=by
  intro m os dk hdk x y;obtain ⟨W,hW⟩:=nm_ (sortWorldK encI 2 w g 0 m dk os);rw [<- hW];have hbW:Below w0.heap.size w0 W:=by rw [hW];exact zkV hb (by omega) hwb
  have hg0l:g0 < w.heap.size:=(Array.getElem?_eq_some_iff.1 hbox).1;have hbx:W.heap[g0]?=some (.cells #[v1] T0 fr):=by rw [hW,zgQ g0 hg0l,if_neg (by omega)];exact hbox
  have hc:=cell_of_row _ _ 0 _ _ _ hbx;have hk:=zs1 g0 v1 x.1.1 y.1.1 cs x.1.2.1 y.1.2.1 x.1.2.2 y.1.2.2 W (h1.later hbW l_) ((hr x.1 x.2).later hbW l_) ((hr y.1 y.2).later hbW l_) hC (hv x.1 x.2).2 (hv y.1 y.2).2 (hT.later hbW) (by simpa using hc);refine (Calls.drawn hk).mono ?_;rintro e w' ⟨⟨rfl,hbl⟩,hdr⟩;exact ⟨rfl,znA hbl (hdr (by intro h;cases h))⟩
 have hcon:=AnyQ.slices_SortFunc Tryz.sortP 2 Tryz.isAgg86 Tryz.sizeOf86 encI (fun _=>rfl) (fun x u hu=>zcD (hr x.1 x.2) u hu) (cfI cs (us:=us)) (swoI hv) 97 #[.pointer (some ⟨g0,0,none⟩)] g 0 cap d w eg hcmp hH hlt (by omega);rw [hds] at hcon;refine hcon.mono ?_;rintro e w' ⟨he,d',n,os,hp,hs,rfl⟩;obtain ⟨hp1,_,hp3⟩:=hp;rw [hds] at hp1;have hsz':d'.size=us.length:=by rw [hp1]
 have hex:∀ x:Array (InL us),x.size=us.length->x.extract 0 us.length=x:=fun x hx=>by rw [<- hx];simp
 rw [hex d' hsz',hex d hds] at hp3;refine ⟨he,d'.toList.map (·.1),by have:=hp3.map (·.1);rw [hdl] at this;exact this,?_,?_,?_⟩
 ·unfold Z.wsrt;rw [List.pairwise_map,List.pairwise_map,List.pairwise_iff_getElem];intro i j hi hj hij;have hi':i < d'.size:=by simpa using hi
  have hj':j < d'.size:=by simpa using hj
  have:=hs i j (Nat.zero_le _) hij (by omega);rw [getElem!_pos d' i hi',getElem!_pos d' j hj'] at this;unfold ltOf cfI at this;simp only [decide_eq_false_iff_not] at this;have hf:=(zbF cs).flip (hv d'[i].1 d'[i].2) (hv d'[j].1 d'[j].2);simp only [Array.getElem_toList];omega
 ·have:=zrJ (m:=n) (os:=os) (d:=d') ho (by simp) hsz' (fun t ht=>ziD (hr t ht));exact this
 exact zkV (Below.refl _ _) hbg (by omega)
/- -/
theorem zgC {ps:List PairB} {k:Nat} (h:k < ps.length):ps.drop k=ps.getD k default :: ps.drop (k + 1):=by
 rw [List.drop_eq_getElem_cons h];simp [List.getD,h]
theorem zDQ {ps:List PairB} {k:Nat} {x:Int} (h:k + 1 < ps.length) (e:(ps.getD k default).1=(ps.getD (k + 1) default).1) :
  Z.mg x (ps.drop k)=Z.mg (x + (ps.getD k default).2) (ps.drop (k + 1)):=by
 rw [zgC (show k < ps.length by omega),zgC h]
 conv=>lhs;rw [Z.mg]
 rw [if_pos e]
theorem zDR {ps:List PairB} {k:Nat} {x:Int} (h:k < ps.length) (e:k + 1 < ps.length->(ps.getD k default).1≠(ps.getD (k + 1) default).1) :
  Z.mg x (ps.drop k)=((ps.getD k default).1,x + (ps.getD k default).2) :: Z.mg 0 (ps.drop (k + 1)):=by
 rw [zgC h];by_cases h2:k + 1 < ps.length
 ·rw [zgC h2]
  conv=>lhs;rw [Z.mg]
  rw [if_neg (e h2)]
 rw [List.drop_of_length_le (by omega)];rfl
theorem zjJ (done:List PairB) (r:List CellB) (y:Int) (h:overB done=false):overB (done ++ [(r,y)])=(wE y != 0):=by
 unfold overB at *;rw [List.any_append,h];simp
theorem zy3 (a b:List PairB) (h:overB a=true):overB (a ++ b)=true:=by
 unfold overB at *;rw [List.any_append,h];rfl
theorem zCP (done:List PairB) (r:List CellB) (y:Int):Z.nz (done ++ [(r,y)])=Z.nz done ++ (if y=0 then [] else [(r,y)]):=by
 unfold Z.nz;rw [List.filter_append];congr 1;by_cases h0:y=0
 ·rw [if_pos h0,List.filter_cons_of_neg (by simp [h0])];rfl
 rw [if_neg h0,List.filter_cons_of_pos (by rw [bne_iff_ne];exact h0)];rfl
theorem zCQ (l:List PairB):(Z.nz l).length<=l.length:=List.length_filter_le _ _
theorem zyH:∀ (l:List PairB) (x:Int),(Z.mg x l).length<=l.length
 | [],_=>by simp [Z.mg]
 | [_],_=>by simp [Z.mg]
 | p :: q :: t,x=>by
  simp only [Z.mg]
  split
  ·have:=zyH (q :: t) (x + p.2);simp at this ⊢;omega
  ·have:=zyH (q :: t) 0;simp at this ⊢;omega
def mgE (ps:List PairB):Nat:=if overB (Z.mg 0 ps)=true then 12 else 0
def mgO (ps:List PairB):List PairB:=if overB (Z.mg 0 ps)=true then [] else Z.nz (Z.mg 0 ps)
theorem TotR.later {w w':World} {g:Nat} {x:Int} {n:Nat} (h:TotR w g x n) (hb:Below w.heap.size w w'):TotR w' g x n:=(hb.block g (Array.getElem?_eq_some_iff.1 h).1).trans h
def xB (x:Int) (k:Nat):Prop:=-(9223372036854775808 * (k:Int))<=x/\x<=9223372036854775808 * (k:Int)
theorem zlS {w w':World} {g:Nat} (h:Only (fun j=>j=g) w w'):w.grownBy w' (some g):=⟨h.os,h.tape,h.output,h.size,fun k hk hne=>h.block k hk (fun e=>hne (by rw [e]))⟩
theorem ztV (v:Value) (ps:List PairB) (w:World) (h:RdP w v ps) (hP:PSO ps) (hn:ps.length * 32<=140737488351360) :
  Calls prog 99 #[v] w fun e w'=>∃ v',e=.returned (.tuple #[v',.int .i64 (mgE ps:Nat)])/\OwnP w' w.heap.size v' (mgO ps)/\Below w.heap.size w w':=by
 have hl:=h.len;have H:=h_ h;obtain ⟨n,hnn⟩:=nm_ ps.length;rw [<- hnn] at hl hn;have HN:=h_ hnn;have hsm:n<=140737488351232:=by omega
 have NW:=h_ (new1 w (.cells #[.int .u64 0,.int .u64 0,.int .i64 0] 210));have hsz1:w.heap.size<=(w.alloc (.cells #[.int .u64 0,.int .u64 0,.int .i64 0] 210)).heap.size:=NW.2.2.size;clear h hnn;go_enter func99,ntmps99;iterate 2 (go_wp2;go_step3)
 go_wp2
 go_loopw [4,5,13] (fun tv gv i wr=>∃ (k gt c:Nat) (tx:Value) (x:Int),tx=tv/\gv=.pointer (some ⟨gt,0,none⟩)/\k<=n/\i=.int .i64 k /\
   Hid (∃ (done:List PairB) (ts:List TriB),overB done=false/\done ++ Z.mg x (ps.drop k)=Z.mg 0 ps/\Z.nz done=ts.map (·.2)/\OwnG pairE wr w.heap.size tx (ts.map triV)/\(∀ t ∈ ts,RdE w t.1 t.2.1)/\done.length<=k)/\Hid (TotR wr gt x c/\c<=k/\xB x k)/\Hid (w.heap.size<=gt/\tx.ownBlock≠some gt)/\Hid (Below w.heap.size w wr)) (fun _ _ i _=>n - (intOf i).toNat)
 case atStart=>exact ⟨0,_,0,_,0,rfl,rfl,by omega,rfl,h_ ⟨[],[],rfl,rfl,rfl,OwnG.nil _ _ _,by simp,by simp⟩,h_ ⟨NW.2.1,by omega,by simp [xB]⟩,h_ ⟨by omega,by simp [Value.ownBlock]⟩,h_ NW.2.2⟩
 obtain ⟨k,gt,c,tx,x,rfl,rfl,hk,rfl,HD,HTt,HG,HB⟩:=hrel;by_cases hlt:k < n
 ·have k2:k < ps.length:=by rw [<- HN.o];exact hlt
  obtain ⟨b,o,rv,hi,c0,c1,hre,hbl⟩:=H.get k2;obtain ⟨hce,hww⟩:=hP.get k2;obtain ⟨ao,nn,cap,rfl⟩:=hre.lit;have HSM:=h_ (fun h e=>zDQ (ps:=ps) (k:=k) (x:=x) h e);have HNX:=h_ (fun e=>zDR (ps:=ps) (k:=k) (x:=x) k2 e);obtain ⟨p,hp⟩:=nm_ (ps.getD k default);rw [<- hp] at c1 hre hce hww HSM HNX;rcases p with ⟨r,a⟩
  dsimp only at c1 hre hce hww HSM HNX;have hc0:=(HB.cell (p:=⟨b,o,none⟩) hbl).trans c0;have hc1:=(HB.cell (p:=⟨b,o + 1,none⟩) hbl).trans c1;have NN:=h_ (new1 wr (.cells #[.slice ao nn cap,.int .i64 a] 86));have HBN:=bT HB NN.2.2;have hck:=HTt.2.1;have hgl:gt < wr.heap.size:=(Array.getElem?_eq_some_iff.1 HTt.1).1;have TA:=h_ (zwQ gt x a c hww (by omega) _ (HTt.1.later NN.2.2));have HRE:=h_ hre;have HW:=h_ hww;clear hp hre c0 c1 hce hww;go_wp2_with fail;refine TA.mono ?_;rintro e w2 ⟨rfl,ht,ho⟩;have hnb:=ho.keep (j:=wr.heap.size) NN.2.1 (by show ¬ wr.heap.size=gt;omega);have d0:=cell_of_row _ _ 0 _ _ _ hnb;have d1:=cell_of_row _ _ 1 _ _ _ hnb;simp at d0 d1;have HNB:=h_ hnb;have hs2:=ho.size;have hsn:=NN.1;have hsr:=HB.size;have HB2:=h_ (HBN.trans (ho.toBelow (B:=w.heap.size) (fun j hj=>by rw [hj];exact HG.1) (by omega)));obtain ⟨done,ts,q1,q2,q3,q4,q5,q6⟩:=HD.o;have Q4a:=h_ (OwnG.grown (OwnG.later q4 NN.2.2 l_) (zlS ho) (fun k hk e=>HG.2 (by rw [hk,e])));have QD:=h_ (show overB done=false/\done ++ Z.mg x (ps.drop k)=Z.mg 0 ps/\Z.nz done=ts.map (·.2)/\(∀ t ∈ ts,RdE w t.1 t.2.1)/\done.length<=k from ⟨q1,q2,q3,q5,q6⟩);obtain ⟨y,hy⟩:=nm_ (x + a);rw [<- hy] at ht HSM HNX;have HT2:=h_ ht
  have YX:=h_ (show xB y (k + 1) from by
   have h1:=HTt.2.2
   have h2:=HW.o
   unfold xB inW at *
   push_cast
   omega)
  have YB:=h_ (show -170141183460469231731687303715884105728<=y/\y < 170141183460469231731687303715884105728 from by
   have h1:=YX.o
   unfold xB at h1
   push_cast at h1
   omega)
  clear hy ht ho hnb q1 q2 q3 q4 q5 q6 HD TA HBN HB hc0 hc1 HW HTt;by_cases hls:k + 1 < n
  focus
   have k3:k + 1 < ps.length:=(by rw [<- HN.o];exact hls);obtain ⟨b',o',rv',hi',c0',c1',hre',hbl'⟩:=H.get k3;have hc0':=(HB2.cell (p:=⟨b',o',none⟩) hbl').trans c0';have CC:=h_ (fun wz (hz:Below w2.heap.size w2 wz)=>zt2 _ rv' r (ps.getD (k + 1) default).1 wz (HRE.later (HB2.trans (hz.mono HB2.size)) l_) (hre'.later (HB2.trans (hz.mono HB2.size)) l_));have HSM2:=h_ (HSM.o k3);have HNX2:=h_ (fun e:r≠(ps.getD (k + 1) default).1=>HNX.o (fun _=>e));obtain ⟨r2,hr2⟩:=nm_ ((ps.getD (k + 1) default).1);rw [<- hr2] at CC HSM2 HNX2;have hk1:((k + 1:Nat):Int)=(k:Int) + 1:=(by omega);rw [hk1] at hi';have hwj:IntKind.i64.wrap ((k:Int) + 1)=(k:Int) + 1:=IntWalk.i64_in _ (by omega);have hpos:decide ((k:Int) + 1 < (n:Int))=true:=decide_eq_true (by omega);clear hr2 c0' c1' hre' k2 k3 HSM HNX;go_wp2;go_still_tail 14,(by kernel_rfl);change wpList _ _ _ _ _ w2.drew;have HD3:=h_ ((Below.refl w2.heap.size w2).drew);clear d0 d1 hc0' hi';go_wp2_with fail;refine (CC.o _ HD3.o).mono ?_;rintro e w3 ⟨rfl,hb⟩;have hb3:=HD3.trans (hb.mono HD3.size);have HBX:=bT HB2 hb3;have Q4:=h_ (OwnG.later Q4a.o hb3 l_);have HTX:=h_ (HT2.later hb3);have hg2:wr.heap.size < w2.heap.size:=(Array.getElem?_eq_some_iff.1 HNB.o).1;have HBP:=h_ (show w3.heap[wr.heap.size]?=some (.cells #[.slice ao nn cap,.int .i64 a] 86 (0,0))/\wr.heap.size < w3.heap.size from ⟨(hb3.block _ hg2).trans HNB.o,by have:=hb3.size;omega⟩);clear hb hb3 CC HD3 HNB;by_cases hrr:r=r2
   ·have hdd:decide (r=r2)=true:=decide_eq_true hrr
    have HD5:=h_ (show ∃ (done:List PairB) (ts:List TriB),overB done=false/\done ++ Z.mg y (ps.drop (k + 1))=Z.mg 0 ps/\Z.nz done=ts.map (·.2)/\OwnG pairE w3 w.heap.size tx (ts.map triV)/\(∀ t ∈ ts,RdE w t.1 t.2.1)/\done.length<=k + 1 from by
     obtain ⟨q1,q2,q3,q5,q6⟩:=QD.o
     exact ⟨done,ts,q1,by rw [<- HSM2.o hrr];exact q2,q3,Q4.o,q5,by omega⟩)
    have HT5:=h_ (show TotR w3 gt y (c + 1)/\c + 1<=k + 1/\xB y (k + 1) from ⟨HTX.o,by omega,YX.o⟩);clear HSM2 HNX2 QD Q4 HTX YB YX;go_wp2;go_roundw
    case rel=>exact ⟨k + 1,_,c + 1,_,y,rfl,rfl,by omega,by go_num,HD5,HT5,HG,HBX⟩
    simp [intOf];omega
   have hdd:decide (r=r2)=false:=decide_eq_false hrr;have HNEXT:=h_ (HNX2.o hrr);clear HSM2 HNX2 hrr
  rotate_left
  focus
   have HNEXT:=h_ (HNX.o (fun h9=>absurd h9 (by rw [<- HN.o];exact hls)));have hpos:decide ((k:Int) + 1 < (n:Int))=false:=decide_eq_false (by omega);have hwj:IntKind.i64.wrap ((k:Int) + 1)=(k:Int) + 1:=IntWalk.i64_in _ (by omega);clear HSM HNX k2;go_wp2;go_quiet (fail);have hb3:=_root_.Go.below_drewN (Below.refl w2.heap.size w2) nq;generalize w2.drewN nq=wX at hb3 ⊢;have HBX:=bT HB2 hb3;have Q4:=h_ (OwnG.later Q4a.o hb3 l_);have HTX:=h_ (HT2.later hb3);have hg2:wr.heap.size < w2.heap.size:=(Array.getElem?_eq_some_iff.1 HNB.o).1;have HBP:=h_ (show wX.heap[wr.heap.size]?=some (.cells #[.slice ao nn cap,.int .i64 a] 86 (0,0))/\wr.heap.size < wX.heap.size from ⟨(hb3.block _ hg2).trans HNB.o,by have:=hb3.size;omega⟩);clear hb3 HNB;clear d0 d1
  all_goals
   have TS:=h_ (zwP gt y (c + 1) YB.o _ HTX.o);go_wp2_with fail;refine TS.mono ?_;rintro e w4 ⟨rfl,hb⟩;have HB4:=bT HBX hb;have Q44:=h_ (OwnG.later Q4.o hb l_);have hp4:=(hb.block _ HBP.2).trans HBP.1;have f0:=cell_of_row _ _ 0 _ _ _ hp4;have f1:=cell_of_row _ _ 1 _ _ _ hp4;simp at f0 f1;have hs4:=HB4.size;clear hb TS HTX HBX Q4 HBP hp4;by_cases hy:i64 y
   ·rw [show wE y=0 from if_pos hy,show wV y=y from if_pos hy];have HWE:=h_ (show wE y=0 from if_pos hy);by_cases hy0:y=0
    ·have NT:=h_ (new1 w4 (.cells #[.int .u64 0,.int .u64 0,.int .i64 0] 210))
     have HD5:=h_ (show ∃ (done:List PairB) (ts:List TriB),overB done=false/\done ++ Z.mg 0 (ps.drop (k + 1))=Z.mg 0 ps/\Z.nz done=ts.map (·.2)/\OwnG pairE (w4.alloc (.cells #[.int .u64 0,.int .u64 0,.int .i64 0] 210)) w.heap.size tx (ts.map triV)/\(∀ t ∈ ts,RdE w t.1 t.2.1)/\done.length<=k + 1 from by
      obtain ⟨q1,q2,q3,q5,q6⟩:=QD.o
      exact ⟨done ++ [(r,y)],ts,by rw [zjJ _ _ _ q1,HWE.o];rfl,by rw [List.append_assoc,List.singleton_append,<- HNEXT.o];exact q2,by rw [zCP,if_pos hy0,List.append_nil];exact q3,OwnG.later Q44.o NT.2.2 l_,q5,by simp;omega⟩)
     have HG5:=h_ (show w.heap.size<=w4.heap.size/\tx.ownBlock≠some w4.heap.size from ⟨hs4,fun h9=>by have:=(OwnG.lt Q44.o h9).2;omega⟩);have HB5:=h_ (HB4.trans (NT.2.2.mono hs4));have HT5:=h_ (show TotR (w4.alloc (.cells #[.int .u64 0,.int .u64 0,.int .i64 0] 210)) w4.heap.size 0 0/\0<=k + 1/\xB 0 (k + 1) from ⟨NT.2.1,by omega,by unfold xB;omega⟩);subst hy0;clear HB4 Q44 NT hy HNEXT QD YB;go_wp2;go_roundw
     case rel=>exact ⟨k + 1,_,0,_,0,rfl,rfl,by omega,by go_num,HD5,HT5,HG5,HB5⟩
     simp [intOf];omega
    have q:(y != 0)=true:=(by rw [bne_iff_ne];exact hy0);have Q45:=h_ (OwnG.alloc Q44.o (.cells #[.slice ao nn cap,.int .i64 y] 86))
    have HR1:=h_ (show RdG pairE (w4.alloc (.cells #[.slice ao nn cap,.int .i64 y] 86)) (.slice (some ⟨w4.heap.size,0,none⟩) 1 1) [triV (.slice ao nn cap,(r,y))] from
     zgS zaY (triV (.slice ao nn cap,(r,y))) rfl ⟨w4.heap.size,0,none⟩ ⟨_,_,rfl⟩ fun j z hj=>by
      have e:Addr.add ⟨w4.heap.size,0,none⟩ j=⟨w4.heap.size,j,none⟩:=by simp only [Addr.add];split <;> simp_all
      rw [e,cell_of_row _ _ _ _ _ _ (heap_alloc_new _ _)]
      simpa [triV] using hj)
    have H1:=h_ (show ∀ x ∈ [triV (.slice ao nn cap,(r,y))],∀ u ∈ x,u.oneCell'=true from by simp [triV,Value.oneCell']);have HB45:=h_ (HB4.alloc hs4 (.cells #[.slice ao nn cap,.int .i64 y] 86));have hls:(ts.map triV).length<=k:=by
     obtain ⟨q1,q2,q3,q5,q6⟩:=QD.o;have h1:=congrArg List.length q3;have h2:=zCQ done;rw [List.length_map] at h1 ⊢;omega
    clear Q44 HB4;go_wp2_with (with_reducible refine zbN w.heap.size _ ?hs Q45.o _ ?hx HR1.o H1.o ?hn ?hbase w.heap.size w HB45.o l_ ?_)
    case hs=>rfl
    case hx=>rfl
    case hn=>simp;simp at hls;omega
    case hbase=>simp;omega
    intro v5 w5 ho5 hb5 hg5;have hs5:=hb5.size;have NT:=h_ (new1 w5 (.cells #[.int .u64 0,.int .u64 0,.int .i64 0] 210));have HO5:=h_ ho5
    have HD5:=h_ (show ∃ (done:List PairB) (ts:List TriB),overB done=false/\done ++ Z.mg 0 (ps.drop (k + 1))=Z.mg 0 ps/\Z.nz done=ts.map (·.2)/\OwnG pairE (w5.alloc (.cells #[.int .u64 0,.int .u64 0,.int .i64 0] 210)) w.heap.size v5 (ts.map triV)/\(∀ t ∈ ts,RdE w t.1 t.2.1)/\done.length<=k + 1 from by
     obtain ⟨q1,q2,q3,q5,q6⟩:=QD.o
     refine ⟨done ++ [(r,y)],ts ++ [(.slice ao nn cap,(r,y))],by rw [zjJ _ _ _ q1,HWE.o];rfl,by rw [List.append_assoc,List.singleton_append,<- HNEXT.o];exact q2,by rw [zCP,if_neg hy0,q3,List.map_append];rfl,OwnG.later (by rw [List.map_append];exact HO5.o) NT.2.2 l_,?_,by simp;omega⟩
     intro t ht
     rcases List.mem_append.1 ht with ht | ht
     ·exact q5 t ht
     ·rw [List.mem_singleton.1 ht];exact HRE.o)
    have HG5:=h_ (show w.heap.size<=w5.heap.size/\v5.ownBlock≠some w5.heap.size from ⟨hs5,fun h9=>by have:=(OwnG.lt HO5.o h9).2;omega⟩);have HB5:=h_ (hb5.trans (NT.2.2.mono hs5));have HT5:=h_ (show TotR (w5.alloc (.cells #[.int .u64 0,.int .u64 0,.int .i64 0] 210)) w5.heap.size 0 0/\0<=k + 1/\xB 0 (k + 1) from ⟨NT.2.1,by omega,by unfold xB;omega⟩);clear ho5 hb5 hg5 HO5 NT hy HNEXT QD YB Q45 HR1 H1 HB45 hls;go_wp2;go_roundw
    case rel=>exact ⟨k + 1,_,0,_,0,rfl,rfl,by omega,by go_num,HD5,HT5,HG5,HB5⟩
    simp [intOf];omega
   rw [show wE y=12 from if_neg hy,show wV y=0 from if_neg hy]
   have HOV:=h_ (show overB (Z.mg 0 ps)=true from by
    obtain ⟨q1,q2,q3,q5,q6⟩:=QD.o
    rw [<- q2,HNEXT.o,<- List.singleton_append,<- List.append_assoc]
    exact zy3 _ _ (by rw [zjJ _ _ _ q1,show wE y=12 from if_neg hy];rfl))
   clear hy HNEXT QD YB;go_wp2;rw [Exit.noGoto_ret];go_ret2;exact ⟨_,by unfold mgE;rw [if_pos HOV.o];rfl,by unfold mgO;rw [if_pos HOV.o];exact OwnP.nil _ _,HB4.o⟩
 obtain rfl:k=n:=by omega
 obtain ⟨done,ts,q1,q2,q3,q4,q5,q6⟩:=HD.o;rw [HN.o,List.drop_length] at q2;have q2':done=Z.mg 0 ps:=by simpa [Z.mg] using q2
 subst q2';have HE:=h_ (show mgE ps=0 from by unfold mgE;rw [if_neg (by rw [q1];simp)]);have HO:=h_ (show mgO ps=Z.nz (Z.mg 0 ps) from by unfold mgO;rw [if_neg (by rw [q1];simp)])
 have HP:=h_ (show OwnP wr w.heap.size tx (Z.nz (Z.mg 0 ps)) from by
  refine ⟨ts,q3,q4,fun t ht=>⟨(q5 t ht).later HB.o l_,fun g hg=>(q5 t ht).offNew ?_⟩⟩
  exact (OwnG.lt q4 hg).1)
 clear hlt q1 q2 q3 q4 q5 q6 HD HTt HG;go_wp2;rw [Exit.noGoto_ret];go_ret2;exact ⟨_,by rw [HE.o];rfl,by rw [HO.o];exact HP.o,HB.o⟩
/- -/
theorem OwnP.row {w:World} {base:Nat} {v:Value} {ps:List PairB} (h:OwnP w base v ps) (hp:0 < ps.length) (hs:ps.length<=140737488351232):∃ g cap,v=.slice (some ⟨g,0,none⟩) ps.length cap/\base<=g/\g < w.heap.size /\
  ∀ k,k < ps.length->(∀ u,(Instr.indexAt 43 v (.int .i64 (k:Int))).run prog u=.ok (.pointer (some ⟨g,k * 2,none⟩)) u) /\
   ∀ w',OwnP w' base v ps->(∃ x,w'.cell? ⟨g,k * 2,none⟩=some x)/\w'.frozen? ⟨g,k * 2,none⟩=false /\
    ∀ rv,RdE w' rv (ps.getD k default).1->offB rv (ps.getD k default).1.length g->OwnP (w'.setCell ⟨g,k * 2,none⟩ rv) base v ps:=by
 obtain ⟨ts,rfl,ho,hr⟩:=h;rw [List.length_map] at hp hs;obtain ⟨g,cap,hv,hbg,hix,hsp⟩:=OwnG.spot zaY ho (by simpa using hp) (by simpa using hs);have hgl:g < w.heap.size:=(ho.lt (k:=g) (by rw [hv];rfl)).2;refine ⟨g,cap,by rw [hv];simp,hbg,hgl,fun k hk=>?_⟩;rw [List.length_map] at hk;refine ⟨fun u=>hix k (by simpa using hk) u,fun w' ho'=>?_⟩;obtain ⟨ts',e',hg',hr'⟩:=ho';have hl':ts'.length=ts.length:=by have:=congrArg List.length e';simpa using this.symm
 have hk':k < ts'.length:=by omega
 obtain ⟨hlen,hq⟩:=hsp w' (ts'.map triV) (by simpa using hl') hg' k (by simpa using hk);have q0:=hq 0 (by decide);have eg:(ts'.map triV).getD k []=triV ts'[k]:=by simp [List.getD,hk']
 have ep:(ts.map (·.2)).getD k default=ts'[k].2:=by rw [e'];simp [List.getD,hk']
 rw [eg,show pairE.n=2 from rfl,Nat.add_zero] at q0;rw [ep];refine ⟨⟨ts'[k].1,by rw [q0.1];rfl⟩,q0.2.1,fun rv hrv hof=>?_⟩;have hset:=q0.2.2 rv (ziD hrv);have em:(ts'.map triV).set k ((triV ts'[k]).set 0 rv)=(ts'.set k (rv,ts'[k].2)).map triV:=by rw [List.map_set];rfl
 rw [em] at hset;have hon:=Only.setCell (S:=fun j=>j=g) (Only.refl (fun j=>j=g) w') (p:=⟨g,k * 2,none⟩) rfl rv;have hgr:=zlS hon;refine ⟨ts'.set k (rv,ts'[k].2),?_,hset,fun t ht=>?_⟩
 ·rw [List.map_set,e'];show _=(ts'.map (·.2)).set k ts'[k].2;apply List.ext_getElem?;intro i;rw [List.getElem?_set];split
  ·rename_i hi;subst hi;simp [hk']
  rfl
 rcases List.mem_or_eq_of_mem_set ht with ht | rfl
 ·obtain ⟨h1,h2⟩:=hr' t ht;exact ⟨h1.aside hgr (fun j hj=>by injection hj with hj;rw [<- hj];exact h2 g (by rw [hv];rfl)),h2⟩
 refine ⟨hrv.aside hgr (fun j hj=>by injection hj with hj;rw [<- hj];exact hof),fun j hj=>?_⟩;rw [hv] at hj;injection hj with hj
 rw [<- hj];exact hof
