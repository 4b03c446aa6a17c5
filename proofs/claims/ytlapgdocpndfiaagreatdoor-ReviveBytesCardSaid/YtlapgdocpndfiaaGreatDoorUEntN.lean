/- -/
import Derived.Test.YtlapgdocpndfiaaGreatDoorUColRR
set_option maxHeartbeats 16000000
set_option linter.unusedVariables false
set_option linter.unusedSimpArgs false
set_option maxRecDepth 1000000
namespace Go.Proofs.YtlapgdocpndfiaaGreatDoor
open _root_.Go.Proofs.Tryz
open Go.RowKit Go.Shelf
theorem zf1 {w:World} {g a b:Nat} {u x:Value} (h:w.cell? ⟨g,a,none⟩=some x) (hab:a≠b):(w.setCell ⟨g,b,none⟩ u).cell? ⟨g,a,none⟩=some x:=by
 cases hr:w.heap[g]? with
 | none=>simp [World.cell?,hr] at h
 | some o =>
  cases o with
  | cells c t z =>
   rw [cell_of_row _ _ _ _ _ _ hr] at h;rw [cell_of_row _ _ _ _ _ _ (block_setCell hr u),Array.getElem?_setIfInBounds,if_neg (fun e=>hab e.symm)];exact h
  | _=>simp [World.cell?,hr] at h
theorem zgH {w:World} {g b:Nat} {u x:Value} (h:w.cell? ⟨g,b,none⟩=some x):(w.setCell ⟨g,b,none⟩ u).cell? ⟨g,b,none⟩=some u:=by
 cases hr:w.heap[g]? with
 | none=>simp [World.cell?,hr] at h
 | some o =>
  cases o with
  | cells c t z =>
   rw [cell_of_row _ _ _ _ _ _ hr] at h;have hb:b < c.size:=(Array.getElem?_eq_some_iff.1 h).1;rw [cell_of_row _ _ _ _ _ _ (block_setCell hr u),Array.getElem?_setIfInBounds,if_pos rfl,if_pos hb]
  | _=>simp [World.cell?,hr] at h
def zl8 (w:World) (base:Nat) (v:Value) (qs:List PairB) (j:Nat):Prop:=∃ rv,w.cell? (adr v (j * 2))=some rv/\∀ i,i < (qs.getD j default).1.length->base<=(adr rv (i * 2)).block
theorem zl8.later {w w':World} {base j:Nat} {v:Value} {qs:List PairB} (h:zl8 w base v qs j) (hb:Below w.heap.size w w'):zl8 w' base v qs j:=by
 obtain ⟨rv,h1,h2⟩:=h;exact ⟨rv,(hb.cell (p:=adr v (j * 2)) (World.block_lt_of_cell? w _ h1)).trans h1,h2⟩
theorem zl8.set {w:World} {base j g k:Nat} {v:Value} {qs:List PairB} (h:zl8 w base v qs j) (ha:adr v (j * 2)=⟨g,j * 2,none⟩) (hk:j≠k) (u:Value):zl8 (w.setCell ⟨g,k * 2,none⟩ u) base v qs j:=by
 obtain ⟨rv,h1,h2⟩:=h;rw [ha] at h1;exact ⟨rv,by rw [ha];exact zf1 h1 (by omega),h2⟩
theorem OwnE.from12 {w:World} {base:Nat} {v:Value} {cs:List CellB} (h:OwnE w base v cs):∀ i,i < cs.length->base<=(adr v (i * 2)).block:=fun i hi=>by
 obtain ⟨⟨_,h2⟩,_⟩:=h
 rw [List.length_map] at h2
 rcases h2 with ⟨rfl,hn⟩ | ⟨g',cap,cur,rfl,hbg,_⟩
 ·omega
 ·have:(adr (.slice (some ⟨g',0,none⟩) cs.length cap) (i * 2)).block=g':=by rw [zaK]
  omega
theorem NewP.of12 {w:World} {base b:Nat} {v:Value} {qs:List PairB} (h:OwnP w base v qs) (hs:qs.length<=140737488351232) (hn:∀ j,j < qs.length->zl8 w b v qs j) (hb:b<=base):NewP w b v qs:=by
 obtain ⟨ts,rfl,ho,hr⟩:=h;rw [List.length_map] at hs hn;have hrd:=ho.rd (by simpa using hs);refine ⟨ts,rfl,hrd,fun i hi=>?_,fun t ht=>⟨(hr t ht).1,?_⟩⟩
 ·obtain ⟨⟨_,h2⟩,_⟩:=ho;rcases h2 with ⟨_,hn9⟩ | ⟨g',cap,cur,hv,hbg,_⟩
  ·rw [List.length_map] at hn9;omega
  rw [hv,zaK];show b<=g';omega
 obtain ⟨j,hj,rfl⟩:=List.getElem_of_mem ht;obtain ⟨rv,h1,h2⟩:=hn j hj;have hc:=RdG.cells hrd j (by simpa using hj) 0 ts[j].1 (by simp [List.getD,hj];rfl);rw [show j * pairE.n + 0=j * 2 from rfl,h1] at hc;injection hc with hc
 subst hc;have e:((ts.map (fun t:TriB=>t.2)).getD j default).1=ts[j].2.1:=by simp [List.getD,hj]
 rw [e] at h2;exact h2
theorem zfO (v1 v2:Value) (cs:List ColB) (ps:List PairB) (w:World) (h1:RdC w v1 cs) (h2:RdP w v2 ps) (hC:CS cs) (hP:PSO ps) (hT:Tabs w) (hl:ps.length * 32<=140737488351360) :
  Calls prog 78 #[v1,v2] w fun e w'=>∃ v,e=.returned (.tuple #[v,.int .i64 (clcE cs ps:Nat)])/\NewP w' w.heap.size v (clcO cs ps)/\Below w.heap.size w w':=by
 obtain ⟨aoc,ncc,capc,hv1,_⟩:∃ ao n cap,v1=.slice ao n cap/\True:=by
  obtain ⟨ao,cap,e,_⟩:=RdG.shape h1;exact ⟨_,_,_,e,trivial⟩
 subst hv1;obtain ⟨N0,N1,N2⟩:=new1 w (.cells #[.slice aoc ncc capc] 24);have CK:=h_ (zkZ _ v2 cs ps _ (h1.later N2 l_) (h2.later N2 l_) hC hP (hT.later N2));obtain ⟨us,hus,hug,hur,_⟩:=h2.parts;have H1:=h_ h1;have HT:=h_ hT;have HUG:=h_ hug;have HUR:=h_ hur;have NB:=h_ N2;have NG:=h_ N1;have hns:(w.alloc (.cells #[.slice aoc ncc capc] 24)).heap.size=w.heap.size + 1:=N0;have hbox:=cell_of_row _ _ 0 _ _ _ N1;simp at hbox;have hul:us.length=ps.length:=by rw [hus];simp
 clear h1 h2 hug hur hT N0 N1 N2;obtain ⟨c,hc⟩:=nm_ (rowsE cs ps);rw [<- hc] at CK;by_cases hcz:c=0
 ·have HS:=h_ (show errS (colsL cs)=0 from by
   by_cases h9:errS (colsL cs)=0
   ·exact h9
   ·unfold rowsE at hc;rw [if_pos h9] at hc;omega)
  have HF:=h_ (show firstE cs ps=0 from by unfold rowsE at hc;rw [if_neg (by rw [HS.o];simp)] at hc;omega);have HV:=h_ (zsC (cs:=cs) hP (firstE_zero.1 HF.o))
  have HE:=h_ (show clcE cs ps=if overB (zcU cs ps)=true then 12 else if 1024 < (canonC cs ps).length then 13 else 0 from by
   unfold clcE;rw [if_neg (by rw [HS.o];simp),if_neg (by rw [HF.o];simp)])
  subst hcz;have HUS:=h_ hus;clear hc hus;go_enter func78,ntmps78;go_wp2_with fail;refine CK.mono ?_;rintro e w1 ⟨rfl,hb⟩;have HB1:=h_ (NB.trans (hb.mono (by omega)));have HG1:=h_ ((hb.block w.heap.size (by omega)).trans NG.o);have hsz1:w.heap.size < w1.heap.size:=by have:=hb.size;omega
  have CL:=h_ (zjI v2 us w1 (RdG.later HUG.o zaY HB1.o l_) (fun t ht=>(HUR.o t ht).later HB1.o l_) (by omega));clear hb CK hbox NB NG;go_wp2_with fail;refine CL.mono ?_;rintro e w2 ⟨v',rfl,ho2,hb2⟩;have HB2:=h_ (HB1.trans (hb2.mono (by omega)));have HG2:=h_ ((hb2.block w.heap.size hsz1).trans HG1.o);have HV2:=h_ (show ∀ t ∈ us,Vr cs t.2.1 from fun t ht=>HV.o t.2 (by rw [HUS.o];exact List.mem_map_of_mem ht));have SP:=h_ (zuA w.heap.size (.slice aoc ncc capc) v' us cs w w2 w1.heap.size _ _ ho2 (by omega) HB2.o HUR.o HV2.o H1.o hC HT.o (by omega) HG2.o hsz1);have hbox2:=cell_of_row _ _ 0 _ _ _ HG2.o;simp at hbox2;have hsz2:=hb2.size;clear ho2 hb2 CL HG1;go_wp2_with fail;refine SP.mono ?_;rintro e w3 ⟨rfl,us',hpm,hws,ho3,hb3⟩;have HB3:=h_ (HB2.trans (hb3.mono (by omega)));have hul':us'.length=us.length:=hpm.length_eq;have HPM:=h_ (show (us'.map (·.2)).Perm ps from by rw [HUS.o];exact hpm.map _);have HMG:=h_ (show Z.mg 0 (us'.map (·.2))=zcU cs ps from Z.mg_parts (zbF cs) HPM.o HV.o hws);have HP3:=h_ (show PSO (us'.map (·.2)) from fun p hp=>hP p (HPM.mem_iff.1 hp));have HR3:=h_ (show RdP w3 v' (us'.map (·.2)) from ⟨us',rfl,ho3.rd (by simp;omega),fun t ht=>(HUR.o t (hpm.mem_iff.1 ht)).later HB3.o l_⟩);have MG:=h_ (ztV v' _ w3 HR3.o HP3.o (by rw [List.length_map];omega))
  have HLM:=h_ (show (Z.nz (Z.mg 0 (us'.map (·.2)))).length<=ps.length from by
   have a1:=zCQ (Z.mg 0 (us'.map (·.2)))
   have a2:=zyH (us'.map (·.2)) 0
   rw [List.length_map] at a2;omega)
  have hsz3:=hb3.size;clear hb3 ho3 hpm hws SP HR3 HG2 hbox2;go_wp2_with fail;refine MG.mono ?_;rintro e w4 ⟨v4,rfl,ho4,hb4⟩;have HB4:=h_ (HB3.trans (hb4.mono (by omega)));have HO4:=h_ ho4;have hsz4:=hb4.size;clear ho4 hb4 MG;unfold mgE;by_cases hov:overB (Z.mg 0 (us'.map (·.2)))=true
  ·rw [if_pos hov,show ((12:Nat):Int)=12 from rfl];have HE2:=h_ (show clcE cs ps=12 from by rw [HE.o,if_pos (by rw [<- HMG.o];exact hov)]);have HX:=h_ (show clcO cs ps=[] from by unfold clcO;rw [if_neg (by rw [HE2.o];simp)]);clear hov HO4;go_wp2;go_ret2;exact ⟨_,by rw [HE2.o];rfl,by rw [HX.o];exact NewP.nil _ _,HB4.o⟩
  rw [if_neg hov,show ((0:Nat):Int)=0 from rfl];have HCN:=h_ (show Z.nz (Z.mg 0 (us'.map (·.2)))=canonC cs ps from by rw [HMG.o];rfl)
  have HO5:=h_ (show OwnP w4 w3.heap.size v4 (canonC cs ps) from by
   have:=HO4.o
   unfold mgO at this
   rw [if_neg hov,HCN.o] at this
   exact this)
  have HE1:=h_ (show clcE cs ps=if 1024 < (canonC cs ps).length then 13 else 0 from by rw [HE.o,if_neg (by rw [<- HMG.o];exact hov)]);have hcl:(canonC cs ps).length<=ps.length:=by rw [<- HCN.o];exact HLM.o
  obtain ⟨qs,hqs⟩:=nm_ (canonC cs ps);rw [<- hqs] at HO5 HE1 hcl;have HQ:=h_ hqs;have HRD:=h_ (HO5.rd (by omega));have hlen:=HRD.len;obtain ⟨n,hn⟩:=nm_ qs.length;rw [<- hn] at hlen hcl HE1;have HNN:=h_ hn;clear hov HO4 HLM hqs hn;by_cases hbig:1024 < n
  ·have HE2:=h_ (show clcE cs ps=13 from by rw [HE1.o,if_pos hbig]);have HX:=h_ (show clcO cs ps=[] from by unfold clcO;rw [if_neg (by rw [HE2.o];simp)]);go_wp2;go_ret2;exact ⟨_,by rw [HE2.o];rfl,by rw [HX.o];exact NewP.nil _ _,HB4.o⟩
  have HE2:=h_ (show clcE cs ps=0 from by rw [HE1.o,if_neg hbig]);have HX:=h_ (show clcO cs ps=qs from by unfold clcO;rw [if_pos HE2.o,<- HQ.o]);go_wp2;go_loopw [36] (fun i wr=>∃ k:Nat,k<=n/\i=.int .i64 k/\Hid (OwnP wr w3.heap.size v4 qs)/\Hid (Below w.heap.size w wr)/\Hid (∀ j,j < k->zl8 wr w.heap.size v4 qs j)) (fun i _=>n - (intOf i).toNat)
  case atStart=>exact ⟨0,by omega,rfl,HO5,HB4,h_ (fun j hj=>absurd hj (by omega))⟩
  clear HO5 HRD;obtain ⟨k,hk,rfl,HO,HB,HNw⟩:=hrel;by_cases hlt:k < n
  ·have k1:k < qs.length:=(by rw [<- HNN.o];exact hlt);obtain ⟨b,o,rv,hi,c0,c1,re,hbl⟩:=(HO.rd (by rw [<- HNN.o];omega)).get k1;obtain ⟨g,cap,hv4,hbg,hgl,hrow⟩:=HO.row (by omega) (by rw [<- HNN.o];omega);have hadr:∀ q,adr v4 q=⟨g,q,none⟩:=fun q=>(by rw [hv4,zaK,Nat.zero_add]);obtain ⟨hix,hst⟩:=hrow k k1;have heq:=(hi wr).symm.trans (hix wr);simp only [Result.ok.injEq,Value.pointer.injEq,Option.some.injEq,Addr.mk.injEq,and_true] at heq;obtain ⟨rfl,rfl⟩:=heq;obtain ⟨ao,nn,cap',rfl⟩:=re.lit;have hr8:(qs.getD k default).1.length<=8:=by
    have hm:qs.getD k default ∈ qs:=(by simp [List.getD,k1]);have:=(Z.canon_set (zbF cs) HV.o).all (qs.getD k default) (by rw [show Z.canon (cmpR cs) ps=qs from HQ.symm];exact hm);obtain ⟨g1,g2,_⟩:=zaO this.1;have:=((zjY (colsL cs)).1 g1).1.2;unfold colsL at this;rw [List.length_map] at this;omega
   obtain ⟨p,hp⟩:=nm_ (qs.getD k default);rw [<- hp] at c1 re hst hr8;have HPk:=h_ hp;rcases p with ⟨r,x⟩
   dsimp only at c1 re hst hr8;have NN:=h_ (new1 wr (.cells #[.slice ao nn cap',.int .i64 x] 86));have HBN:=bT HB NN.2.2;have CC:=h_ (zkH _ r _ (re.later NN.2.2 l_) (by omega));have HOa:=h_ (HO.later NN.2.2 l_);have HST:=h_ hst;have hsa:=NN.1;have hsr:=HB.size;have hsn:=HBN.size;have HAd:=h_ hadr;clear hp k1 hi hrow re hst HO hv4 hadr;go_wp2_with fail;refine CC.mono ?_;rintro e w5 ⟨v5,rfl,ho5,hb5⟩;obtain ⟨ao5,n5,cap5,rfl⟩:=(ho5.rd (by omega)).lit;have HO5:=h_ (HOa.later hb5 l_);have HB5:=h_ (HBN.trans (hb5.mono (by omega)));obtain ⟨⟨x5,hc5⟩,hf5,hs5⟩:=HST.o w5 HO5.o;have HO6:=h_ (hs5 _ (ho5.rd (by omega)) (ho5.offB (by omega)));have HB6:=h_ (HB5.setCell (p:=⟨b,k * 2,none⟩) (by show w.heap.size<=b;omega) (.slice ao5 n5 cap5));have hfr:=ho5.from12
   have HN6:=h_ (show ∀ j,j < k + 1->zl8 (w5.setCell ⟨b,k * 2,none⟩ (.slice ao5 n5 cap5)) w.heap.size v4 qs j from fun j hj=>by
    by_cases e:j=k
    ·subst e
     refine ⟨.slice ao5 n5 cap5,by rw [HAd.o];exact zgH hc5,fun i hi=>?_⟩
     rw [<- HPk.o] at hi
     have h9:=hfr i hi
     omega
    ·have h9:=(((HNw.o j (by omega)).later NN.2.2).later hb5)
     exact h9.set (HAd.o _) (by omega) _)
   clear ho5 hb5 HST hs5 HOa CC HBN NN c0 c1 HO5 HB5 hfr HAd HPk HNw;go_wp2;go_roundw
   case rel=>exact ⟨k + 1,by omega,by go_num,HO6,HB6,HN6⟩
   simp [intOf];omega
  obtain rfl:k=n:=by omega
  have HRF:=h_ (NewP.of12 HO.o (by rw [<- HNN.o];omega) (fun j hj=>HNw.o j (by rw [HNN.o];exact hj)) (show w.heap.size<=w3.heap.size by omega));go_wp2;go_ret2;exact ⟨_,by rw [HE2.o];rfl,by rw [HX.o];exact HRF.o,HB.o⟩
 have HE:=h_ (show clcE cs ps=c from by
  by_cases h9:errS (colsL cs)=0
  ·have h10:firstE cs ps≠0:=fun h=>hcz (by rw [hc];unfold rowsE;rw [if_neg (fun h8=>h8 h9),h])
   rw [hc]
   unfold clcE rowsE
   rw [if_neg (fun h8=>h8 h9),if_pos h10,if_neg (fun h8=>h8 h9)]
  ·rw [hc]
   unfold clcE rowsE
   rw [if_pos h9,if_pos h9])
 have HX:=h_ (show clcO cs ps=[] from by unfold clcO;rw [if_neg (by rw [HE.o];exact hcz)]);have q:((c:Int) != 0)=true:=by rw [bne_iff_ne];omega
 clear hc;go_enter func78,ntmps78;go_wp2_with fail;refine CK.mono ?_;rintro e w1 ⟨rfl,hb⟩;have HB1:=h_ (NB.trans (hb.mono (by omega)));clear hb CK;go_wp2;go_ret2;exact ⟨_,by rw [HE.o];rfl,by rw [HX.o];exact NewP.nil _ _,HB1.o⟩
theorem znX (v1 v2 v3:Value) (cs:List ColB) (a b:List PairB) (w:World) (h1:RdC w v1 cs) (h2:RdP w v2 a) (h3:RdP w v3 b) (hC:CS cs) (hA:PSO a) (hB:PSO b) (hT:Tabs w) :
  Calls prog 133 #[v1,v2,v3] w fun e w'=>∃ v,e=.returned (.tuple #[v,.int .i64 (sumE cs a b:Nat)])/\NewP w' w.heap.size v (sumO cs a b)/\Below w.heap.size w w':=by
 have CA:=h_ (zd2 v1 v2 cs a w h1 h2 hC hA hT);have CB:=h_ (fun wz (hz:Below w.heap.size w wz)=>zd2 v1 v3 cs b wz (h1.later hz l_) (h3.later hz l_) hC hB (hT.later hz));obtain ⟨c,hc⟩:=nm_ (chkZ cs a);obtain ⟨d,hd⟩:=nm_ (chkZ cs b);rw [<- hc] at CA;rw [<- hd] at CB;by_cases hcz:c=0
 ·by_cases hdz:d=0
  ·have h8a:=((zb2 hA).1 (show chkZ cs a=0 by omega)).2.1;have h8b:=((zb2 hB).1 (show chkZ cs b=0 by omega)).2.1;have HE:=h_ (show sumE cs a b=clcE cs (a ++ b) from by unfold sumE;rw [if_neg (by omega),if_neg (by omega)]);have HX:=h_ (show sumO cs a b=clcO cs (a ++ b) from by unfold sumO clcO;rw [HE.o]);subst hcz hdz;obtain ⟨ua,hua,hug,hur,_⟩:=h2.parts;obtain ⟨ub,hub,huh,hus,_⟩:=h3.parts;obtain ⟨ao,nn,cap,hv2⟩:∃ ao n cap,v2=.slice ao n cap:=by
    obtain ⟨ao,cap,e,_⟩:=RdG.shape hug;exact ⟨_,_,_,e⟩
   obtain ⟨ao',nn',cap',hv3⟩:∃ ao n cap,v3=.slice ao n cap:=by
    obtain ⟨ao,cap,e,_⟩:=RdG.shape huh;exact ⟨_,_,_,e⟩
   subst hv2 hv3;have hla:ua.length=a.length:=(by rw [hua];simp);have hlb:ub.length=b.length:=(by rw [hub];simp);have H1:=h_ h1;have HT:=h_ hT;have HA:=h_ hug;have HB:=h_ huh;have HRA:=h_ hur;have HRB:=h_ hus;have HUA:=h_ hua;have HUB:=h_ hub;clear hc hd h1 h2 h3 hug huh hur hus hua hub hT;go_enter func133,ntmps133;go_wp2_with fail;refine CA.mono ?_;rintro e w1 ⟨rfl,hb⟩;have HB1:=h_ hb;clear hb CA;go_wp2_with fail;refine (CB.o _ HB1.o).mono ?_;rintro e w2 ⟨rfl,hb⟩;have HB2:=bT HB1 hb;have NN:=h_ (new1 w2 (.cells #[.slice ao nn cap,.slice ao' nn' cap'] 43));have HB3:=bT HB2 NN.2.2;have CO:=h_ (zp5 _ _ _ ua ub _ (zDI w2 (.slice ao nn cap) (.slice ao' nn' cap')) (RdG.later HA.o zaY HB3.o l_) (RdG.later HB.o zaY HB3.o l_) (fun t ht=>(HRA.o t ht).later HB3.o l_) (fun t ht=>(HRB.o t ht).later HB3.o l_) (by omega));have hs3:=HB3.size;clear hb CB HB1 NN HB2;go_wp2_with fail;refine CO.mono ?_;rintro e w4 ⟨v4,rfl,ho4,hb4⟩;have HB4:=h_ (HB3.trans (hb4.mono hs3))
   have HR4:=h_ (show RdP w4 v4 (a ++ b) from ⟨ua ++ ub,by rw [List.map_append,<- HUA.o,<- HUB.o],ho4.rd (by simp;omega),fun t ht=>by
    rcases List.mem_append.1 ht with ht | ht
    ·exact (HRA.o t ht).later HB4.o l_
    ·exact (HRB.o t ht).later HB4.o l_⟩)
   have CL:=h_ (zfO v1 v4 cs (a ++ b) w4 (H1.later HB4.o l_) HR4.o hC (hA.append hB) (HT.later HB4.o) (by rw [List.length_append];omega));have hs4:=HB4.size;clear ho4 hb4 CO HR4 HB3;go_wp2_with fail;refine CL.mono ?_;rintro e w5 ⟨v5,rfl,hr5,hb5⟩;have HB5:=h_ (HB4.trans (hb5.mono hs4));have HR5:=h_ hr5;have HS4:=h_ HB4.size;clear hr5 hb5 CL;go_wp2;go_ret2;exact ⟨_,by rw [HE.o];rfl,by rw [HX.o];exact HR5.lower HS4.o,HB5.o⟩
  have HE:=h_ (show sumE cs a b=d from by unfold sumE;rw [if_neg (by omega),if_pos (by omega),hd]);have HX:=h_ (show sumO cs a b=[] from by unfold sumO;rw [if_neg (by rw [HE.o];exact hdz)]);have q:((d:Int) != 0)=true:=by rw [bne_iff_ne];omega
  subst hcz;clear hc hd h1 h2 h3;go_enter func133,ntmps133;go_wp2_with fail;refine CA.mono ?_;rintro e w1 ⟨rfl,hb⟩;have HB1:=h_ hb;clear hb CA;go_wp2_with fail;refine (CB.o _ HB1.o).mono ?_;rintro e w2 ⟨rfl,hb⟩;have HB2:=bT HB1 hb;clear hb CB HB1;go_wp2;go_ret2;exact ⟨_,by rw [HE.o];rfl,by rw [HX.o];exact NewP.nil _ _,HB2.o⟩
 have HE:=h_ (show sumE cs a b=c from by unfold sumE;rw [if_pos (by omega),hc]);have HX:=h_ (show sumO cs a b=[] from by unfold sumO;rw [if_neg (by rw [HE.o];exact hcz)]);have q:((c:Int) != 0)=true:=by rw [bne_iff_ne];omega
 clear hc hd h1 h2 h3 CB;go_enter func133,ntmps133;go_wp2_with fail;refine CA.mono ?_;rintro e w1 ⟨rfl,hb⟩;have HB1:=h_ hb;clear hb CA;go_wp2;go_ret2;exact ⟨_,by rw [HE.o];rfl,by rw [HX.o];exact NewP.nil _ _,HB1.o⟩
/- -/
def ApON (w:World) (cs:List ColB) (seq:Int) (view:List PairB) (x:EntB) (e:Ending) (w':World):Prop :=
 ∃ v,e=.returned (.tuple #[.int .i64 (apN cs seq view x),v,.int .i64 (apE cs seq view x:Nat)])/\NewP w' w.heap.size v (apV cs seq view x)/\Below w.heap.size w w'
theorem ApON.no {w w':World} {cs:List ColB} {seq:Int} {view:List PairB} {x:EntB} {k:Nat} {y:Int} (h:apE cs seq view x=k) (hk:k≠0) (hy:y=(k:Int)) (hb:Below w.heap.size w w') :
  ApON w cs seq view x (.returned (.tuple #[.int .i64 0,.slice none 0 0,.int .i64 y])) w':=by
 subst hy;refine ⟨.slice none 0 0,?_,?_,hb⟩
 ·unfold apN;rw [h,if_neg hk]
 unfold apV;rw [h,if_neg hk];exact NewP.nil w' _
theorem ApON.yes {w w':World} {cs:List ColB} {seq:Int} {view qs:List PairB} {x:EntB} {v:Value} {n:Int} {base:Nat} (h:apE cs seq view x=0) (hn:x.2.1=n) (hv:apV cs seq view x=qs) (hr:NewP w' base v qs) (hs:w.heap.size<=base) (hb:Below w.heap.size w w') :
  ApON w cs seq view x (.returned (.tuple #[.int .i64 n,v,.int .i64 0])) w':=by
 subst hn hv;refine ⟨v,?_,hr.lower hs,hb⟩;unfold apN;rw [h,if_pos rfl];rfl
theorem zhP (sv vv ev:Value) (cs:List ColB) (seq:Int) (view:List PairB) (x:EntB) (w:World) (hR:RdC w sv cs) (hV:RdP w vv view) (hE:RdN w ev x) (hC:CS cs) (hVO:PSO view) (hX:EnO x) (hq:inW seq) (hT:Tabs w) :
  Calls prog 100 #[sv,.int .i64 seq,vv,ev] w (ApON w cs seq view x):=by
 obtain ⟨kind,s2,ps⟩:=x;obtain ⟨pv,rfl,hP⟩:=hE;dsimp only at hP;obtain ⟨ao,no,co,rfl⟩:=hP.lit12;obtain ⟨av,nv,cv,rfl⟩:=hV.lit12;have VC:=h_ (fun wz (hz:Below w.heap.size w wz)=>zd2 sv (.slice av nv cv) cs view wz (hR.later hz l_) (hV.later hz l_) hC hVO (hT.later hz));have EC:=h_ (fun wz (hz:Below w.heap.size w wz)=>zk2 sv _ cs (kind,s2,ps) wz (hR.later hz l_) ⟨_,rfl,hP.later hz l_⟩ hC hX (hT.later hz));have SM:=h_ (fun wz (hz:Below w.heap.size w wz)=>zvR (.slice ao no co) (.slice av nv cv) ps view wz (hP.later hz l_) (hV.later hz l_));have SU:=h_ (fun wz (hz:Below w.heap.size w wz)=>znX sv (.slice av nv cv) (.slice ao no co) cs view ps wz (hR.later hz l_) (hV.later hz l_) (hP.later hz l_) hC hVO hX.2.2 (hT.later hz));have S0:=h_ (fun wz (hz:Below w.heap.size w wz)=>znX sv (.slice av nv cv) (.slice none 0 0) cs view [] wz (hR.later hz l_) (hV.later hz l_) (RdP.nil _) hC hVO (fun p hp=>absurd hp (by simp)) (hT.later hz));obtain ⟨N1,N2⟩:=za7 w (.cells #[.int .i64 kind,.int .i64 s2,.slice ao no co] 92);obtain ⟨w0,hw0⟩:=nm_ (w.alloc (.cells #[.int .i64 kind,.int .i64 s2,.slice ao no co] 92));rw [<- hw0] at N1 N2;obtain ⟨g,hg⟩:=nm_ w.heap.size;rw [<- hg] at N1;have HE0:=h_ (show Ebox w0 g kind s2 (.slice ao no co) from N1);have HB0:=h_ N2;have HW0:=h_ hw0;have HG:=h_ hg;have hA:apE cs seq view (kind,s2,ps)=if chkZ cs view≠0 then chkZ cs view else if seq < 0∨281474976710656 < seq then 3 else if entE cs (kind,s2,ps)≠0 then entE cs (kind,s2,ps)
  else if (kind=0/\s2≠seq + 1)∨(kind=1/\s2≠seq) then 14 else if kind=1 then (if ps=view then 0 else 15) else sumE cs view ps:=rfl
 have hVw:apE cs seq view (kind,s2,ps)=0->apV cs seq view (kind,s2,ps)=if kind=1 then view else sumO cs view ps:=fun h=>by unfold apV;rw [if_pos h]
 have IN:=h_ (fun wz=>zd0 seq wz);have hZs:chkZ cs view=0->Zs cs view:=fun h=>⟨hVO,h⟩;have hez:=zb9 (cs:=cs) (x:=(kind,s2,ps));obtain ⟨E1,hE1⟩:=nm_ (chkZ cs view);obtain ⟨E2,hE2⟩:=nm_ (entE cs (kind,s2,ps));rw [<- hE1] at VC hA hZs;rw [<- hE2] at EC hA hez;clear hR hV hP hC hVO hX hT N1 N2 hw0 hg hE1 hE2;by_cases h1:E1=0
 ·subst h1;have hZ:=h_ (hZs rfl);rw [if_neg (by simp)] at hA;clear hZs;by_cases h2:seq < 0∨281474976710656 < seq
  ·rw [if_pos h2] at hA;rw [decide_eq_true h2] at IN;have HA:=h_ hA;clear hA hVw h2 EC SM SU S0 hez hq;go_enter func100,ntmps100;go_wp2_with fail;rw [<- HW0.o,<- HG.o];refine (VC.o w0 HB0.o).mono ?_;rintro e w1 ⟨rfl,hb⟩;replace HB0:=bT HB0 hb;replace HE0:=h_ (HE0.later hb);clear hb VC;go_wp2_with fail;refine (IN.o w1).mono ?_;rintro e w2 ⟨rfl,rfl⟩;clear IN;go_wp2;go_ret3;exact ApON.no HA.o (by decide) rfl HB0.o
  rw [if_neg h2] at hA;rw [decide_eq_false h2] at IN;have h2':0<=seq/\seq<=281474976710656:=by omega
  clear h2;by_cases h3:E2=0
  ·subst h3;rw [if_neg (by simp)] at hA;obtain ⟨_,hk,hs,hck⟩:=hez.1 rfl;dsimp only at hk hs hck;clear hez;have NX:=h_ (fun wz=>zvG seq kind h2' wz);by_cases h4:(kind=0/\s2≠seq + 1)∨(kind=1/\s2≠seq)
   ·rw [if_pos h4] at hA;have HA:=h_ hA;have hd:∃ y:Int,(if kind=1 then seq else seq + 1)=y/\(s2 != y)=true:=by
     refine ⟨_,rfl,?_⟩;rw [bne_iff_ne];rcases h4 with ⟨rfl,h⟩ | ⟨rfl,h⟩
     ·exact h
     exact h
    obtain ⟨y,hy,d1⟩:=hd;rw [hy] at NX;clear hA hVw h4 hy SM SU S0 hck hk hq hs h2';go_enter func100,ntmps100;go_wp2_with fail;rw [<- HW0.o,<- HG.o];refine (VC.o w0 HB0.o).mono ?_;rintro e w1 ⟨rfl,hb⟩;replace HB0:=bT HB0 hb;replace HE0:=h_ (HE0.later hb);clear hb VC;go_wp2_with fail;refine (IN.o w1).mono ?_;rintro e w2 ⟨rfl,rfl⟩;clear IN;obtain ⟨c0,c1,c2⟩:=HE0.cells;go_wp2_with fail;refine (EC.o w1 HB0.o).mono ?_;rintro e w3 ⟨rfl,hb⟩;replace HB0:=bT HB0 hb;replace HE0:=h_ (HE0.later hb);clear hb EC c0 c1 c2;obtain ⟨c0,c1,c2⟩:=HE0.cells;go_wp2;go_quiet (first | (go_at_call 132;refine Calls.quiet_of_same ((NX.o _).mono (fun _ _ h=>⟨h.1,h.2.symm⟩))));have HD:=h_ (Go.below_drewN HB0.o 1);go_wp2;go_ret3;exact ApON.no HA.o (by decide) rfl (Go.below_drewN HB0.o _)
   rw [if_neg h4] at hA;have h0:(0:Int)≠1:=(by decide);rcases hk with rfl | rfl
   ·rw [if_neg h0] at hA NX;rw [if_neg h0] at hVw;obtain rfl:s2=seq + 1:=(by omega);have d1:((seq + 1:Int) != seq + 1)=false:=(by simp);obtain ⟨E4,hE4⟩:=nm_ (sumE cs view ps);rw [<- hE4] at hA SU;have HA:=h_ hA;have HV:=h_ hVw;clear hA hVw h4 h0 SM S0 hck hq hs hE4;go_enter func100,ntmps100;go_wp2_with fail;rw [<- HW0.o,<- HG.o];refine (VC.o w0 HB0.o).mono ?_;rintro e w1 ⟨rfl,hb⟩;replace HB0:=bT HB0 hb;replace HE0:=h_ (HE0.later hb);clear hb VC;go_wp2_with fail;refine (IN.o w1).mono ?_;rintro e w2 ⟨rfl,rfl⟩;clear IN;obtain ⟨c0,c1,c2⟩:=HE0.cells;go_wp2_with fail;refine (EC.o w1 HB0.o).mono ?_;rintro e w3 ⟨rfl,hb⟩;replace HB0:=bT HB0 hb;replace HE0:=h_ (HE0.later hb);clear hb EC c0 c1 c2;obtain ⟨c0,c1,c2⟩:=HE0.cells;go_wp2;go_quiet (first | (go_at_call 132;refine Calls.quiet_of_same ((NX.o _).mono (fun _ _ h=>⟨h.1,h.2.symm⟩))));generalize hwd:w3.drewN _=w4;have HB4:=h_ (show Below w.heap.size w w4 from by rw [<- hwd];exact Go.below_drewN HB0.o _);have hE4:Ebox w4 g 0 (seq + 1) (.slice ao no co):=(by rw [<- hwd];exact HE0.o);obtain ⟨c0,c1,c2⟩:=hE4.cells;clear hwd;go_wp2_with fail;refine (SU.o w4 HB4.o).mono ?_;rintro e w5 ⟨rv,rfl,hr,hb⟩;have HB5:=bT HB4 hb;have HE5:=h_ (hE4.later hb);have HR5:=h_ hr;have hr9:=hr.rd.lit12;clear hb SU hr hE4 c0 c1 c2;obtain ⟨ar,nr,cr,rfl⟩:=hr9;obtain ⟨c0,c1,c2⟩:=HE5.cells;by_cases h9:E4=0
    ·subst h9;go_wp2;go_ret3;exact ApON.yes HA.o rfl (HV.o HA.o) HR5.o HB4.size HB5.o
    have q9:((E4:Int) != 0)=true:=(by rw [bne_iff_ne];omega);have H9:=h_ h9;clear h9;go_wp2;go_ret3;exact ApON.no HA.o H9.o rfl HB5.o
   rw [if_pos rfl] at hA NX;rw [if_pos rfl] at hVw;obtain rfl:s2=seq:=(by omega);have d1:((s2:Int) != s2)=false:=(by simp);clear h4 h0;by_cases h5:ps=view
   ·rw [if_pos h5] at hA;have HA:=h_ hA;have HV:=h_ hVw;rw [decide_eq_true h5] at SM;obtain ⟨z1,z2⟩:=zAJ hZ.o;rw [z1,z2] at S0;clear hA hVw SU hck hq hs h5 z1 z2;go_enter func100,ntmps100;go_wp2_with fail;rw [<- HW0.o,<- HG.o];refine (VC.o w0 HB0.o).mono ?_;rintro e w1 ⟨rfl,hb⟩;replace HB0:=bT HB0 hb;replace HE0:=h_ (HE0.later hb);clear hb VC;go_wp2_with fail;refine (IN.o w1).mono ?_;rintro e w2 ⟨rfl,rfl⟩;clear IN;obtain ⟨c0,c1,c2⟩:=HE0.cells;go_wp2_with fail;refine (EC.o w1 HB0.o).mono ?_;rintro e w3 ⟨rfl,hb⟩;replace HB0:=bT HB0 hb;replace HE0:=h_ (HE0.later hb);clear hb EC c0 c1 c2;obtain ⟨c0,c1,c2⟩:=HE0.cells;go_wp2;go_quiet (first | (go_at_call 132;refine Calls.quiet_of_same ((NX.o _).mono (fun _ _ h=>⟨h.1,h.2.symm⟩))));generalize hwd:w3.drewN _=w4;have HB4:=h_ (show Below w.heap.size w w4 from by rw [<- hwd];exact Go.below_drewN HB0.o _);have HE4:=h_ (show Ebox w4 g 1 s2 (.slice ao no co) from by rw [<- hwd];exact HE0.o);obtain ⟨c0,c1,c2⟩:=HE4.cells;clear hwd;go_wp2_with fail;refine (SM.o w4 HB4.o).mono ?_;rintro e w5 ⟨rfl,hb⟩;have HB5:=bT HB4 hb;have HE5:=h_ (HE4.later hb);clear hb SM c0 c1 c2 HE4;go_wp2_with fail;refine (S0.o w5 HB5.o).mono ?_;rintro e w6 ⟨rv,rfl,hr,hb⟩;have HB6:=bT HB5 hb;have HE6:=h_ (HE5.later hb);have HR6:=h_ hr;have hr9:=hr.rd.lit12;clear hb S0 hr;obtain ⟨ar,nr,cr,rfl⟩:=hr9;obtain ⟨c0,c1,c2⟩:=HE6.cells;go_wp2;go_ret3;exact ApON.yes HA.o rfl (HV.o HA.o) HR6.o HB5.size HB6.o
   rw [if_neg h5] at hA;have HA:=h_ hA;rw [decide_eq_false h5] at SM;clear hA hVw SU S0 hck hq hs h5;go_enter func100,ntmps100;go_wp2_with fail;rw [<- HW0.o,<- HG.o];refine (VC.o w0 HB0.o).mono ?_;rintro e w1 ⟨rfl,hb⟩;replace HB0:=bT HB0 hb;replace HE0:=h_ (HE0.later hb);clear hb VC;go_wp2_with fail;refine (IN.o w1).mono ?_;rintro e w2 ⟨rfl,rfl⟩;clear IN;obtain ⟨c0,c1,c2⟩:=HE0.cells;go_wp2_with fail;refine (EC.o w1 HB0.o).mono ?_;rintro e w3 ⟨rfl,hb⟩;replace HB0:=bT HB0 hb;replace HE0:=h_ (HE0.later hb);clear hb EC c0 c1 c2;obtain ⟨c0,c1,c2⟩:=HE0.cells;go_wp2;go_quiet (first | (go_at_call 132;refine Calls.quiet_of_same ((NX.o _).mono (fun _ _ h=>⟨h.1,h.2.symm⟩))));generalize hwd:w3.drewN _=w4;have HB4:=h_ (show Below w.heap.size w w4 from by rw [<- hwd];exact Go.below_drewN HB0.o _);have HE4:=h_ (show Ebox w4 g 1 s2 (.slice ao no co) from by rw [<- hwd];exact HE0.o);obtain ⟨c0,c1,c2⟩:=HE4.cells;clear hwd;go_wp2_with fail;refine (SM.o w4 HB4.o).mono ?_;rintro e w5 ⟨rfl,hb⟩;have HB5:=bT HB4 hb;have HE5:=h_ (HE4.later hb);clear hb SM c0 c1 c2 HE4;go_wp2;go_ret3;exact ApON.no HA.o (by decide) rfl HB5.o
  rw [if_pos h3] at hA;have HA:=h_ hA;have q3:((E2:Int) != 0)=true:=by rw [bne_iff_ne];omega
  have H3:=h_ h3;clear hA hVw h3 SM SU S0 hez hq;go_enter func100,ntmps100;go_wp2_with fail;rw [<- HW0.o,<- HG.o];refine (VC.o w0 HB0.o).mono ?_;rintro e w1 ⟨rfl,hb⟩;replace HB0:=bT HB0 hb;replace HE0:=h_ (HE0.later hb);clear hb VC;go_wp2_with fail;refine (IN.o w1).mono ?_;rintro e w2 ⟨rfl,rfl⟩;clear IN;obtain ⟨c0,c1,c2⟩:=HE0.cells;go_wp2_with fail;refine (EC.o w1 HB0.o).mono ?_;rintro e w3 ⟨rfl,hb⟩;replace HB0:=bT HB0 hb;replace HE0:=h_ (HE0.later hb);clear hb EC c0 c1 c2;go_wp2;go_ret3;exact ApON.no HA.o H3.o rfl HB0.o
 rw [if_pos h1] at hA;have HA:=h_ hA;have q1:((E1:Int) != 0)=true:=by rw [bne_iff_ne];omega
 have H1:=h_ h1;clear hA hVw h1 hZs EC IN SM SU S0 hez hq;go_enter func100,ntmps100;go_wp2_with fail;rw [<- HW0.o,<- HG.o];refine (VC.o w0 HB0.o).mono ?_;rintro e w1 ⟨rfl,hb⟩;replace HB0:=bT HB0 hb;replace HE0:=h_ (HE0.later hb);clear hb VC;go_wp2;go_ret3;exact ApON.no HA.o H1.o rfl HB0.o
