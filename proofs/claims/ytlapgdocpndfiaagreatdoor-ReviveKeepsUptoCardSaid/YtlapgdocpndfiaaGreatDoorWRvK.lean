/- -/
import Derived.Test.YtlapgdocpndfiaaGreatDoorWWrtM
import Derived.Test.YtlapgdocpndfiaaGreatDoorDeep
set_option maxHeartbeats 8000000
set_option linter.unusedVariables false
set_option linter.unusedSimpArgs false
set_option maxRecDepth 1000000
namespace Go.Proofs.YtlapgdocpndfiaaGreatDoor
open _root_.Go.Proofs.Tryz
open Go.ChangeShapes Go.WideShapes Go.ChangeAt Go.RowKit Go.Shelf Go.Deep
section
variable {H:Type} {enc:TypeId × Value->H} {W:World}
theorem zAP (d:DataW H):1<=Rows.uptoBulk d:=by
 cases d with
 | lit x=>cases x <;> simp [Rows.uptoBulk]
 | _=>simp [Rows.uptoBulk]
theorem zkP:∀ l:List (DataW H),l.length<=Rows.uptoBulkAll l
 | []=>by simp
 | d :: r=>by
  have h1:=zkP r
  have h2:=zAP d
  simp only [Rows.uptoBulkAll,List.length_cons];omega
theorem zAO {n:Nat} {f:Nat->Nat} {D:Nat->DataW H} (h:∀ i,i < n->f i<=Rows.uptoBulk (D i)):((List.range n).map f).sum<=Rows.uptoBulkAll ((List.range n).map D):=by
 have key:∀ l:List Nat,(∀ i ∈ l,i < n)->(l.map f).sum<=Rows.uptoBulkAll (l.map D):=by
  intro l
  induction l with
  | nil=>intro _;simp
  | cons i r ih =>
   intro hi;have h1:=ih fun j hj=>hi j (by simp [hj]);have h2:=h i (hi i (by simp));simp only [List.map_cons,List.sum_cons,Rows.uptoBulkAll];omega
 exact key _ fun i hi=>List.mem_range.1 hi
theorem ztO {fuel:Nat} {v:Value} {d:DataW H} {pl:List MemPlace} {ps:List PairB} (hf:DataW.trod enc prog W 0 (fun _=>true) true fuel 43 [v]=some (d,pl)) (hr:RdP W v ps):ps.length<=Rows.uptoBulk d:=by
 obtain ⟨ts,rfl,hG,_⟩:=hr;obtain ⟨ao,cap,hv,_⟩:=RdG.shape hG;rw [List.length_map] at hv ⊢;rcases open_slice underlying43 hf with ⟨hcs,_⟩ | ⟨x,len,c,m,n,D,Pl,hcs,_,hl,hm,hmm,hx,hcell⟩
 ·rw [hv] at hcs;simp at hcs;have:ts.length=0:=by simp [hcs]
  omega
 rw [hv] at hcs;simp at hcs;simp only [Prod.mk.injEq] at hx;obtain ⟨rfl,_⟩:=hx;have h1:=zkP ((List.range len).map D);rw [List.length_map,List.length_range] at h1;simp only [Rows.uptoBulk];omega
end
/- -/
abbrev ActR:=Int × List PairB × Nat × Bs
abbrev zAX:=(Value × Value) × ActR
def acR (t:zAX):List Value:=[.int .i64 t.2.1,t.1.1,.int .u8 (t.2.2.2.1:Int),t.1.2]
def zDG:Elt:=⟨35,45,4,64,.agg #[.int .i64 0,.slice none 0 0,.int .u8 0,.slice none 0 0]⟩
theorem zyF:zDG.Ok:=⟨underlying35,by kernel_rfl,by kernel_rfl,rfl,by decide⟩
def ze6 (w:World) (v:Value) (l:List ActR):Prop:=∃ ts:List zAX,l=ts.map (·.2)/\RdG zDG w v (ts.map acR)/\∀ t ∈ ts,RdP w t.1.1 t.2.2.1/\Rd w t.1.2 t.2.2.2.2
def ACR (l:List ActR):Prop:=∀ a ∈ l,inW a.1/\PSO a.2.1/\a.2.2.1<=255
def flat16 (l:List ActR):List PairB:=l.flatMap fun a=>a.2.1
def junk16 (l:List ActR):Nat:=(l.map fun a=>a.2.2.2.length).sum
section
variable {w w':World} {v:Value} {l:List ActR}
theorem ze6.later (h:ze6 w v l) (hb:Below w.heap.size w w'):ze6 w' v l:=by
 obtain ⟨ts,e,h1,h2⟩:=h;exact ⟨ts,e,h1.later zyF hb l_,fun t ht=>⟨(h2 t ht).1.later hb l_,(h2 t ht).2.later hb l_⟩⟩
theorem ze6.small (h:ze6 w v l):l.length<=140737488351232:=by
 obtain ⟨ts,rfl,h,_⟩:=h;have:=h.small;simpa using this
theorem ze6.lit (h:ze6 w v l):∃ ao n cap,v=.slice ao n cap:=by
 obtain ⟨ts,e,h,_⟩:=h;obtain ⟨ao,cap,e,_⟩:=RdG.shape h;exact ⟨_,_,_,e⟩
theorem ze6.len (h:ze6 w v l):∀ u,(Builtin.len_ #[35] 3 #[v]).run prog u=.ok (.int .i64 (l.length:Int)) u:=by
 obtain ⟨ts,rfl,h,_⟩:=h;have:=RdG.len h zyF;rw [List.length_map] at this ⊢;exact this
theorem ze6.get (h:ze6 w v l) {i:Nat} (hi:i < l.length):∃ b o pv jv,(∀ u,(Instr.indexAt 35 v (.int .i64 (i:Int))).run prog u=.ok (.pointer (some ⟨b,o,none⟩)) u) /\
  w.cell? ⟨b,o,none⟩=some (.int .i64 (l.getD i default).1)/\w.cell? ⟨b,o + 1,none⟩=some pv/\w.cell? ⟨b,o + 2,none⟩=some (.int .u8 ((l.getD i default).2.2.1:Int))/\w.cell? ⟨b,o + 3,none⟩=some jv /\
  RdP w pv (l.getD i default).2.1/\Rd w jv (l.getD i default).2.2.2/\b < w.heap.size:=by
 obtain ⟨ts,rfl,h,hr⟩:=h;rw [List.length_map] at hi;have hi':i < (ts.map acR).length:=by simpa using hi
 have hx:=RdG.idx h zyF i hi';obtain ⟨b,o,ha,hc⟩:=RdG.at h hi';rw [ha] at hx;have eg:(ts.map acR).getD i []=acR ts[i]:=by simp [List.getD,hi]
 have ep:(ts.map (·.2)).getD i default=ts[i].2:=by simp [List.getD,hi]
 rw [eg] at hc;rw [ep];exact ⟨b,o,ts[i].1.1,ts[i].1.2,hx,hc 0 _ rfl,hc 1 _ rfl,hc 2 _ rfl,hc 3 _ rfl,(hr _ (List.getElem_mem _)).1,(hr _ (List.getElem_mem _)).2,World.block_lt_of_cell? w _ (hc 0 _ rfl)⟩
theorem ACR.get (h:ACR l) {i:Nat} (hi:i < l.length):inW (l.getD i default).1/\PSO (l.getD i default).2.1/\(l.getD i default).2.2.1<=255:=by
 have e:l.getD i default=l[i]:=by simp [List.getD,hi]
 rw [e];exact h _ (List.getElem_mem hi)
theorem zAZ {k:Nat} (h:k < l.length):l.take (k + 1)=l.take k ++ [l.getD k default]:=by
 rw [List.take_add_one,List.getElem?_eq_getElem h,Option.toList_some];simp [List.getD,h]
theorem zjY {k:Nat} (h:k < l.length):flat16 (l.take (k + 1))=flat16 (l.take k) ++ (l.getD k default).2.1:=by
 rw [zAZ h];simp [flat16]
theorem zjP {k:Nat} (h:k < l.length):junk16 (l.take (k + 1))=junk16 (l.take k) + (l.getD k default).2.2.2.length:=by
 rw [zAZ h];simp [junk16]
theorem zjX (l:List ActR) (k:Nat):(flat16 (l.take k)).length<=(flat16 l).length:=by
 rw [show flat16 l=flat16 (l.take k) ++ flat16 (l.drop k) from by unfold flat16;rw [<- List.flatMap_append,List.take_append_drop],List.length_append];omega
theorem zjO (l:List ActR) (k:Nat):junk16 (l.take k)<=junk16 l:=by
 rw [show junk16 l=junk16 (l.take k) + junk16 (l.drop k) from by unfold junk16;rw [<- List.sum_append,<- List.map_append,List.take_append_drop]];omega
theorem zgQ {k:Nat} (h:k < l.length):(l.getD k default).2.1.length<=(flat16 l).length:=by
 have h1:=zjX l (k + 1);rw [zjY h,List.length_append] at h1;omega
theorem zgM {k:Nat} (h:k < l.length):(l.getD k default).2.2.2.length<=junk16 l:=by
 have h1:=zjO l (k + 1);rw [zjP h] at h1;omega
end
def zEK (l:List ActR):Prop:=l.length<=20/\(flat16 l).length<=150/\junk16 l<=2000/\fewG (flat16 l)
def Ybox (w:World) (b:Nat) (k:Int) (pv:Value) (c:Nat) (jv:Value):Prop:=w.heap[b]?=some (.cells #[.int .i64 k,pv,.int .u8 (c:Int),jv] 45 (0,0))
section
variable {w w':World} {b:Nat} {k:Int} {pv:Value} {c:Nat} {jv:Value}
theorem Ybox.cells (h:Ybox w b k pv c jv):w.cell? ⟨b,0,none⟩=some (.int .i64 k)/\w.cell? ⟨b,1,none⟩=some pv/\w.cell? ⟨b,2,none⟩=some (.int .u8 (c:Int))/\w.cell? ⟨b,3,none⟩=some jv :=
 ⟨cell_of_row _ _ 0 _ _ _ h,cell_of_row _ _ 1 _ _ _ h,cell_of_row _ _ 2 _ _ _ h,cell_of_row _ _ 3 _ _ _ h⟩
theorem Ybox.later (h:Ybox w b k pv c jv) (hb:Below w.heap.size w w'):Ybox w' b k pv c jv:=(hb.block b (Array.getElem?_eq_some_iff.1 h).1).trans h
end
theorem zf4 (v:Value) (l:List ActR) (w:World) (hA:ze6 w v l) (hU:(flat16 l).length<=1048576) (hJ:junk16 l<=1048576) :
  Calls prog 15 #[v] w (zED w (zEK l)):=by
 obtain ⟨aa,na,ca,rfl⟩:=hA.lit;have hlen:=hA.len;have hsm:=hA.small;have HA:=h_ hA;have HU:=h_ (fun k=>Nat.le_trans (zjX l k) hU);have HJ:=h_ (fun k=>Nat.le_trans (zjO l k) hJ);obtain ⟨n,hn⟩:=nm_ l.length;rw [<- hn] at hlen hsm;have HN:=h_ hn;clear hA hU hn hJ;go_enter func15,ntmps15;go_wp2;go_loopw [3,4,9] (fun al jn i wr=>∃ k:Nat,k<=n/\i=.int .i64 k/\jn=.int .i64 (junk16 (l.take k):Nat)/\Hid (OwnP wr w.heap.size al (flat16 (l.take k)))/\Hid (Below w.heap.size w wr)) (fun _ _ i _=>n - (intOf i).toNat)
 case atStart=>exact ⟨0,by omega,rfl,by simp [junk16],h_ (OwnP.nil _ _),h_ (Below.refl _ _)⟩
 obtain ⟨k,hk,rfl,rfl,HO,HB⟩:=hrel;by_cases hlt:k < n
 ·have hkn:k < l.length:=by rw [<- HN.o];exact hlt
  obtain ⟨b9,o9,pv,jv,hidx,y0,y1,y2,y3,hpv,hjv,hbl⟩:=HA.get hkn;have e0:=zaA HB.o y0;have e1:=zaA HB.o y1;have e2:=zaA HB.o y2;have e3:=zaA HB.o y3;clear y0 y1 y2 y3;have hfs:=zjY hkn;have hfl:=HU.o (k + 1);have hjs:=zjP hkn;have hjl:=HJ.o (k + 1);obtain ⟨⟨kd,ps,kc,jl⟩,hx⟩:∃ x,x=l.getD k default:=⟨_,rfl⟩;rw [<- hx] at e0 e2 hpv hjv hfs hjs;dsimp only at e0 e1 e2 e3 hpv hjv hfs hjs;rw [hfs,List.length_append] at hfl;rw [hjs] at hjl;obtain ⟨J,hJd⟩:=nm_ (junk16 (l.take k));rw [<- hJd] at hjs hjl;rw [<- hJd];have HFS:=h_ (And.intro hfs hjs);have HFL:=h_ (And.intro hfl hjl);have hlj:=hjv.len;obtain ⟨ap,np,cp,rfl⟩:=hpv.lit12;obtain ⟨aj,cj,rfl,_⟩:=hjv.shape;obtain ⟨jn,hjn⟩:=nm_ jl.length;rw [<- hjn] at hlj e3 hjl;rw [<- hjn] at HFS HFL;have hjb:J + jn<=1048576:=hjl;obtain ⟨us,hu1,hu2,hu3⟩:=hpv.app;obtain ⟨w7,hw7⟩:=nm_ (wr.alloc (.cells #[.int .i64 kd,.slice ap np cp,.int .u8 (kc:Int),.slice aj jn cj] 45));have hbb:=(Below.refl wr.heap.size wr).alloc l_ (.cells #[.int .i64 kd,.slice ap np cp,.int .u8 (kc:Int),.slice aj jn cj] 45);have hg7:=heap_alloc_new wr (.cells #[.int .i64 kd,.slice ap np cp,.int .u8 (kc:Int),.slice aj jn cj] 45);have ha7:=HO.alloc (.cells #[.int .i64 kd,.slice ap np cp,.int .u8 (kc:Int),.slice aj jn cj] 45);rw [<- hw7] at hbb hg7 ha7;have hb7:=HB.trans (hbb.mono HB.size);obtain ⟨hu4,hu5⟩:=hu3 w7 hb7;have hu6:=hu5 u3 (fun g hg=>(HO.lt hg).1);obtain ⟨_,q2,_,q3⟩:=(show Ybox w7 wr.heap.size kd (.slice ap np cp) kc (.slice aj jn cj) from hg7).cells;have HG7:=h_ hg7;have HW7:=h_ hw7;clear hx hfs hfl hu3 hu5 hg7 hbb hpv hjv hkn hjs hjl hJd hjn;subst hw7;go_wp2_with ((with_reducible show wpList _ _ _ (⟨some 16,_,_,_,_,_⟩ :: _) _ _);refine Hid.o ?_);refine h_ (zl4 w.heap.size u3 ?hs ha7 (.slice ap np cp) ?hx us hu4 hu6 ?hn ?hbase w.heap.size w hb7 l_ ?_)
  case hs=>rfl
  case hx=>rfl
  case hn=>have:=HFL.1;rw [hu2];omega
  case hbase=>exact hb7.size
  intro v8 w8 ho8 hb8 hg8 _;have HA8:=h_ (show OwnP w8 w.heap.size v8 (flat16 (l.take (k + 1))) from by rw [HFS.1,<- hu1];exact ho8);have HB8:=h_ hb8
  have q8:w8.cell? ⟨wr.heap.size,3,none⟩=some (.slice aj jn cj):=cell_of_row _ _ 3 _ _ _ ((hg8.block wr.heap.size (by simp) (fun hq=>by
   have:=(HO.lt hq.symm).2
   exact absurd this (Nat.lt_irrefl _))).trans HG7.o)
  clear ho8 hb8 hg8 ha7 hb7 hu4 hu6 hu1 hu2 q2 q3 e0 e1 e2 e3 HO HB;go_wp2;go_roundw
  case rel=>exact ⟨k + 1,by omega,by go_num,by rw [HFS.2];go_num,HA8,HB8⟩
  simp [intOf];omega
 obtain rfl:k=n:=by omega
 have ha:OwnP wr w.heap.size u3 (flat16 l):=by
  have:=HO.o;rwa [List.take_of_length_le (by rw [HN.o];exact l_)] at this
 have hfl:(flat16 l).length<=1048576:=Nat.le_trans (by have:=HU.o l.length;rwa [List.take_length] at this) l_;have hjl:junk16 l<=1048576:=Nat.le_trans (by have:=HJ.o l.length;rwa [List.take_length] at this) l_;have hje:junk16 (l.take k)=junk16 l:=by rw [List.take_of_length_le (by rw [HN.o];exact l_)]
 rw [hje];have hr:=ha.rd (by omega);have hlf:=hr.len;obtain ⟨ar,nr,cr,rfl⟩:=hr.lit12;have GG:=h_ (zjR (.slice ar nr cr) (flat16 l) wr hr);have HB9:=h_ (HB.alloc HB.size (.cells #[.slice ar nr cr] 43));obtain ⟨m,hm⟩:=nm_ ((flat16 l).length);obtain ⟨J,hJd⟩:=nm_ (junk16 l);rw [<- hm] at hlf hfl;rw [<- hJd];rw [<- hJd] at hjl;have HM:=h_ (And.intro hm hJd);clear ha hr HO hm hlt hje hJd;by_cases h30:20 < k
 ·have d1:decide ((k:Int) > 20)=true:=decide_eq_true (by omega);have h3:=HB.o;clear h30 GG HB9;go_wp2;go_ret;exact ⟨1,rfl,.inr rfl,fun h=>absurd h (by decide),HB.o⟩
 have d1:decide ((k:Int) > 20)=false:=decide_eq_false (by omega);by_cases h200:150 < m
 ·have d2:decide ((m:Int) > 150)=true:=decide_eq_true (by omega);clear h30 h200 GG HB9;go_wp2;go_ret;exact ⟨1,rfl,.inr rfl,fun h=>absurd h (by decide),HB.o⟩
 have d2:decide ((m:Int) > 150)=false:=decide_eq_false (by omega);by_cases h2000:2000 < J
 ·have d3:decide ((J:Int) > 2000)=true:=decide_eq_true (by omega);clear h30 h200 h2000 GG HB9;go_wp2;go_ret;exact ⟨1,rfl,.inr rfl,fun h=>absurd h (by decide),HB.o⟩
 have d3:decide ((J:Int) > 2000)=false:=decide_eq_false (by omega);have HF3:=h_ (show l.length<=20/\(flat16 l).length<=150/\junk16 l<=2000 from ⟨by rw [<- HN.o];omega,by rw [<- HM.1];omega,by rw [<- HM.2];omega⟩);clear h30 h200 h2000;go_wp2_with fail;refine GG.mono ?_;rintro e w8 ⟨y,rfl,hy,hf,hb⟩;have HF:=h_ hf;have HB10:=bT HB9 hb;have HY:=h_ hy;clear hf hb hy GG;go_wp2;go_ret;exact ⟨y,rfl,HY.o,fun h=>⟨HF3.1,HF3.2.1,HF3.2.2,HF.o h⟩,HB10.o⟩
def keep16 (c rest:Nat):Nat:=c * (rest + 1) / 256
theorem zp1 {c rest:Nat} (h:c<=255):keep16 c rest<=rest:=by
 unfold keep16;have:c * (rest + 1)<=255 * (rest + 1):=Nat.mul_le_mul_right _ h;omega
theorem zr4 (kd:Int) (ap:Option Addr) (np cp:Nat) (c:Nat) (aj:Option Addr) (cj jn:Nat) (j:Bs) (rest:Nat) (w:World) (hc:c<=255) (hjn:jn=j.length) (hj:Rd w (.slice aj jn cj) j) (hr:rest<=100000000) :
  Calls prog 24 #[.agg #[.int .i64 kd,.slice ap np cp,.int .u8 (c:Int),.slice aj jn cj],.int .i64 (rest:Int)] w fun e w'=>∃ xv,e=.returned (.tuple #[.int .i64 (keep16 c rest:Nat),xv])/\(∀ wz,Rd wz (.slice aj jn cj) j->Rd wz xv (j.take (rest - keep16 c rest)))/\Below w.heap.size w w':=by
 obtain ⟨N1,N2⟩:=za5 w (.cells #[.int .i64 kd,.slice ap np cp,.int .u8 (c:Int),.slice aj jn cj] 45);obtain ⟨_,_,x2,x3⟩:=(show Ybox _ w.heap.size kd (.slice ap np cp) c (.slice aj jn cj) from N1).cells;have hlj:=hj.len;rw [<- hjn] at hlj;have hkl:=zp1 (rest:=rest) hc;obtain ⟨K,hK⟩:=nm_ (keep16 c rest);rw [<- hK] at hkl;rw [<- hK];obtain ⟨P,hP⟩:=nm_ (c * (rest + 1));have hPb:P<=255 * 100000001:=by rw [hP];exact Nat.mul_le_mul hc (by omega)
 have hPI:(c:Int) * ((rest:Int) + 1)=(P:Int):=by rw [hP];simp
 have hKP:(P:Int).tdiv 256=(K:Int):=by rw [hK];unfold keep16;rw [<- hP];rfl
 obtain ⟨d,hd⟩:=nm_ (rest - K);have hsub:(rest:Int) - (K:Int)=(d:Int):=by omega
 rw [<- hd];have HJ:=h_ hjn;have HB:=h_ N2;have HD:=h_ (fun (wz:World) j=>Go.below_drewN (Below.refl wz.heap.size wz) j);have hjs:=hj.small;rw [<- hjn] at hjs;have fin:∀ m,m<=jn->(m=d∨(m=jn/\jn<=d))->∃ xv,(∀ u,(Instr.slice 22 (.slice aj jn cj) none (some (.int .i64 (m:Int))) none).run prog u=.ok xv u)/\∀ wz,Rd wz (.slice aj jn cj) j->Rd wz xv (j.take d):=fun m hm h=>by
  obtain ⟨xv,h1,h2⟩:=hj.upto m (by omega);refine ⟨xv,h1,fun wz hz=>?_⟩;rcases h with rfl | ⟨rfl,h⟩
  ·exact h2 wz hz
  have h3:=h2 wz hz;rw [List.take_of_length_le (by omega)] at h3;rw [List.take_of_length_le (by omega)];exact h3
 clear hK hP N1 N2 hd hjn hj;go_enter func24,ntmps24;go_wp2;obtain ⟨m,hm⟩:=nm_ (min jn d);obtain ⟨xv,hup,hfin⟩:=fin m (by omega) (by omega);have hmin:min (jn:Int) (d:Int)=(m:Int):=by omega
 have hmax:max 0 (m:Int)=(m:Int):=by omega
 have HFIN:=h_ hfin;clear fin hfin hm;go_quiet (fail);go_wp2;go_ret2;exact ⟨_,rfl,HFIN.o,HB.trans ((HD.o _ _).mono HB.size)⟩
/- -/
open Go.Lib
theorem zvO {α:Type} (l:List α) (f g:α->Nat):(l.map f).sum + (l.map g).sum=(l.map fun i=>f i + g i).sum:=by
 induction l with
 | nil=>rfl
 | cons a r ih=>simp only [List.map_cons,List.sum_cons];omega
section
variable {H:Type} {enc:TypeId × Value->H} {W:World}
theorem zkJ:prog.cellsOf 45=4:=by kernel_rfl
theorem zuD {fuel:Nat} {v:Value} {d:DataW H} {pl:List MemPlace} {l:Bs} (hf:DataW.trod enc prog W 0 (fun _=>true) true fuel 22 [v]=some (d,pl)) (hr:Rd W v l):l.length<=Rows.uptoBulk d:=by
 obtain ⟨ao,cap,hv,_⟩:=hr.shape;rcases open_slice underlying22 hf with ⟨hcs,_⟩ | ⟨x,len,c,m,n,D,Pl,hcs,_,hl,hm,hmm,hx,hcell⟩
 ·rw [hv] at hcs;simp at hcs;have:l.length=0:=by simp [hcs]
  omega
 rw [hv] at hcs;simp at hcs;simp only [Prod.mk.injEq] at hx;obtain ⟨rfl,_⟩:=hx;have h1:=zkP ((List.range len).map D);rw [List.length_map,List.length_range] at h1;simp only [Rows.uptoBulk];omega
theorem zuN {m:Nat} {cs:List Value} {x:DataW H × List MemPlace} (h:DataW.trod enc prog W 0 (fun _=>true) true m 45 cs=some x) (hw:∀ n ∈ x.1.weights prog 45,n<=reachBytes) :
  ∃ t:zAX,cs=acR t/\(RdP W t.1.1 t.2.2.1/\Rd W t.1.2 t.2.2.2.2)/\(inW t.2.1/\PSO t.2.2.1/\t.2.2.2.1<=255)/\t.2.2.1.length + t.2.2.2.2.length<=Rows.uptoBulk x.1:=by
 obtain ⟨y0,y1,y2,y3,k,hx,hl,h0,h1,h2,h3⟩:=Go.Joins.trod_struct4 underlying45 h;rw [zkJ] at hl
 match cs,hl with
 | [c0,c1,c2,c3],_ =>
  have k9:prog.cellsOf 3=1:=by kernel_rfl
  have k7:prog.cellsOf 43=1:=by kernel_rfl
  have k6:prog.cellsOf 5=1:=by kernel_rfl
  have k5:prog.cellsOf 22=1:=by kernel_rfl
  simp [k9,k7,k6,k5] at h0 h1 h2 h3;obtain ⟨a,e0,_,wa⟩:=DataW.trod_int underlying3 h0;obtain ⟨b,e2,_,wb⟩:=DataW.trod_int underlying5 h2;simp at e0 e2;subst e0 e2
  have hwt:∀ n,n ∈ y1.1.weights prog 43∨n ∈ y3.1.weights prog 22->n<=reachBytes:=fun n hn=>hw n (by
   rw [hx]
   simp only [DataW.weights,underlying45]
   rcases hn with hn | hn <;> simp [DataW.weightsEach,hn])
  obtain ⟨ps,hr,hp,_⟩:=zlU (d:=y1.1) (pl:=y1.2) h1 (fun n hn=>hwt n (.inl hn));obtain ⟨l,hr3⟩:=zC2 (d:=y3.1) (ps:=y3.2) h3 (fun n hn=>hwt n (.inr hn));have hb:=ztO (d:=y1.1) (pl:=y1.2) h1 hr;have hb3:=zuD (d:=y3.1) (pl:=y3.2) h3 hr3;obtain ⟨b0,b1⟩:=zDC wb;obtain ⟨c,rfl⟩:=Int.eq_ofNat_of_zero_le b0;refine ⟨((c1,c3),(a,ps,c,l)),rfl,⟨hr,hr3⟩,⟨zt1 wa,hp,by dsimp only;omega⟩,?_⟩;rw [hx];simp only [Rows.uptoBulk,Rows.uptoBulkAll];show ps.length + l.length<=_;omega
theorem zq2 {fuel:Nat} {v:Value} {d:DataW H} {pl:List MemPlace} (hf:DataW.trod enc prog W 0 (fun _=>true) true fuel 35 [v]=some (d,pl)) (hzd:∀ n ∈ d.weights prog 35,n<=reachBytes):∃ l,ze6 W v l/\ACR l/\(flat16 l).length + junk16 l<=Rows.uptoBulk d:=by
 have hb1:1<=prog.bytesOf 45:=Nat.le_of_ble_eq_true (by kernel_rfl);rcases open_slice underlying35 hf with ⟨hcs,_⟩ | ⟨x,len,c,m,n,D,Pl,hcs,_,hl,hm,hmm,hx,hcell⟩
 ·obtain rfl:v=.slice none 0 0:=by simpa using hcs
  exact ⟨[],⟨[],rfl,RdG.nil zDG W,by simp⟩,fun c hc=>absurd hc (by simp),by simp [flat16,junk16]⟩
 obtain rfl:v=.slice (some x) len c:=by simpa using hcs
 simp only [Prod.mk.injEq] at hx;obtain ⟨rfl,_⟩:=hx;simp only [if_true] at hmm;subst hmm;have hw:∀ i,i < len->∀ k ∈ (D i).weights prog 45,k<=reachBytes:=fun i hi k hk=>by
  refine hzd k ?_;rw [DataW.weights];simp only [underlying35];refine List.mem_cons_of_mem _ (List.mem_append.2 (.inl (zb0 hk ?_)));exact List.mem_map.2 ⟨i,List.mem_range.2 hi,rfl⟩
 have hs:=hzd _ (by rw [DataW.weights];simp only [underlying35];exact List.mem_cons_self ..);simp only [List.length_map,List.length_range,reachBytes] at hs;have hs2:len<=140737488351232:=by
  have:(len + (m - len)) * 1<=(len + (m - len)) * prog.bytesOf 45:=Nat.mul_le_mul_left _ hb1;omega
 rw [zkJ] at hcell
 obtain ⟨L,hL⟩:=choose_lt (α:=zAX) (p:=fun i a=>((RdP W a.1.1 a.2.2.1/\Rd W a.1.2 a.2.2.2.2)/\(inW a.2.1/\PSO a.2.2.1/\a.2.2.2.1<=255)/\a.2.2.1.length + a.2.2.2.2.length<=Rows.uptoBulk (D i))/\∀ j u,(acR a)[j]?=some u->W.cell? ((x.add (i * 4)).add j)=some u) (n:=len) (fun i hi=>by
  obtain ⟨cs',h1,h2⟩:=hcell i (by omega)
  obtain ⟨_,h3,h4⟩:=World.cells?_some h1
  obtain ⟨a,rfl,hr⟩:=zuN h2 (hw i hi)
  refine ⟨a,hr,fun j u hu=>?_⟩
  have hj:j < 4:=by have:=(List.getElem?_eq_some_iff.1 hu).1;simpa [acR] using this
  rw [h4 j hj,hu])
 have hlen:((List.range len).map L).length=len:=by simp
 have e:∀ i,i < len->((List.range len).map L).getD i default=L i:=fun i hi=>by simp [List.getD,hi]
 have hsp:0 < len->∃ b o,x=⟨b,o,none⟩:=by
  intro hp;have h0:=(hL 0 hp).2 0 _ rfl;obtain ⟨b,o,sp⟩:=x;cases sp with
  | none=>exact ⟨b,o,rfl⟩
  | some s =>
   exfalso;simp only [Addr.add,if_true,World.cell?] at h0;split at h0 <;> simp at h0
 have hmem:∀ t ∈ (List.range len).map L,(RdP W t.1.1 t.2.2.1/\Rd W t.1.2 t.2.2.2.2)/\inW t.2.1/\PSO t.2.2.1/\t.2.2.2.1<=255:=by
  intro t ht;obtain ⟨i,hi,rfl⟩:=List.mem_map.1 ht;have:=(hL i (List.mem_range.1 hi)).1;exact ⟨this.1,this.2.1⟩
 refine ⟨((List.range len).map L).map (·.2),⟨(List.range len).map L,rfl,⟨⟨some x,_,by rw [List.length_map,hlen],by rw [List.length_map,hlen];omega,(by intro h;cases h),fun hp=>?_⟩,?_,?_,by rw [List.length_map,hlen];exact hs2⟩,fun t ht=>(hmem t ht).1⟩,?_,?_⟩
 ·rw [List.length_map,hlen] at hp;obtain ⟨b,o,rfl⟩:=hsp hp;exact ⟨b,o,rfl⟩
 ·intro i hi j u hu;rw [List.length_map,hlen] at hi;rw [getD_map acR _ i (by rw [hlen];exact hi) default,e i hi] at hu;have:=(hL i hi).2 j u hu;obtain ⟨b,o,rfl⟩:=hsp (by omega);rw [Addr.add_mid,Addr.add_mid,Nat.add_assoc] at this;rw [zaG];exact this
 ·intro z hz;obtain ⟨t,_,rfl⟩:=List.mem_map.1 hz;rfl
 ·intro p hp;obtain ⟨t,ht,rfl⟩:=List.mem_map.1 hp;exact (hmem t ht).2
 have h1:(flat16 (((List.range len).map L).map (·.2))).length + junk16 (((List.range len).map L).map (·.2))=((List.range len).map fun i=>(L i).2.2.1.length + (L i).2.2.2.2.length).sum:=by
  unfold flat16 junk16;rw [List.length_flatMap];simp only [List.map_map];exact zvO _ _ _
 have h2:=zAO (D:=D) fun i hi=>(hL i hi).1.2.2;rw [h1];simp only [Rows.uptoBulk];omega
theorem ze5 {base:Nat} {v:Value} {d:DataW H} {pl:List MemPlace} {ts:List TypeId} {ds:List (DataW H)} {j:Nat} (hval:Value.okWide prog W .any base 35 v)
  (h:DataW.Trod enc prog W 0 (fun _=>true) true 35 v d pl) (hz:(DataW.weightsEach prog ts ds).all (·<=reachBytes)=true) (ht:ts[j]?=some 35) (hd:ds[j]?=some d):∃ l,ze6 W v l/\ACR l/\(flat16 l).length + junk16 l<=Rows.uptoBulk d:=by
 have hzd:∀ n ∈ d.weights prog 35,n<=reachBytes:=fun n hn=>by
  have:=List.all_eq_true.1 hz _ (DataW.weights_mem_each ht hd n hn);simpa using this
 obtain ⟨a0,len,cap,rfl⟩:=okWide_slice underlying35 hval;obtain ⟨fuel,hf⟩:=h;exact zq2 (v:=.slice a0 len cap) hf hzd
end
