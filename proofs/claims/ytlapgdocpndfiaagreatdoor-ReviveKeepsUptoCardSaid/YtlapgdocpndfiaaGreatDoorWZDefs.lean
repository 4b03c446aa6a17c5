/- -/
import Derived.Test.YtlapgdocpndfiaaGreatDoorWZPure
import Derived.Test.YtlapgdocpndfiaaGreatDoorWRow
import Derived.Test.YtlapgdocpndfiaaGreatDoorWW
set_option maxHeartbeats 8000000
set_option linter.unusedVariables false
set_option linter.unusedSimpArgs false
set_option maxRecDepth 1000000
namespace Go.Proofs.YtlapgdocpndfiaaGreatDoor
open _root_.Go.Proofs.Tryz
open Go.RowKit Go.Shelf
def Vr (cs:List ColB) (r:List CellB):Prop:=errRow cs r=0/\CES r
theorem zbN (cs:List ColB):Z.TO (Vr cs) (cmpR cs):=by
 refine ⟨fun {a b} ha hb=>?_,fun {a b} ha hb=>?_,fun {a b c} ha hb hc h1 h2=>?_⟩
 ·rw [zeH ha.1 hb.1];exact zpQ (zf1 ha.2 ha.1) (zf1 hb.2 hb.1)
 ·rw [zeH ha.1 hb.1,zeH hb.1 ha.1];exact zpR (zf1 ha.2 ha.1) (zf1 hb.2 hb.1)
 rw [zeH ha.1 hb.1] at h1;rw [zeH hb.1 hc.1] at h2;rw [zeH ha.1 hc.1];exact (zm9 (zf1 ha.2 ha.1) (zf1 hb.2 hb.1) (zf1 hc.2 hc.1) (by omega) (by omega)).2 (.inl h1)
def chkF (cs:List ColB):Option (List CellB)->List PairB->Nat
 | _,[]=>0
 | q,p :: t=>if errRow cs p.1≠0 then errRow cs p.1 else if p.2=0 then 2 else
   match q with
   | some r=>if 0<=cmpR cs r p.1 then 9 else chkF cs (some p.1) t
   | none=>chkF cs (some p.1) t
def chkZ (cs:List ColB) (ps:List PairB):Nat:=if errS (colsL cs)≠0 then errS (colsL cs) else if 1024 < ps.length then 13 else chkF cs none ps
def firstE (cs:List ColB):List PairB->Nat
 | []=>0
 | p :: t=>if errRow cs p.1≠0 then errRow cs p.1 else firstE cs t
def overB (pt:List PairB):Bool:=pt.any fun p=>wE p.2 != 0
abbrev zsE (cs:List ColB) (ps:List PairB):List PairB:=Z.parts (cmpR cs) ps
abbrev canonC (cs:List ColB) (ps:List PairB):List PairB:=Z.canon (cmpR cs) ps
def clcE (cs:List ColB) (ps:List PairB):Nat :=
 if errS (colsL cs)≠0 then errS (colsL cs) else if firstE cs ps≠0 then firstE cs ps else if overB (zsE cs ps)=true then 12 else if 1024 < (canonC cs ps).length then 13 else 0
def clcO (cs:List ColB) (ps:List PairB):List PairB:=if clcE cs ps=0 then canonC cs ps else []
def sumE (cs:List ColB) (a b:List PairB):Nat:=if chkZ cs a≠0 then chkZ cs a else if chkZ cs b≠0 then chkZ cs b else clcE cs (a ++ b)
def sumO (cs:List ColB) (a b:List PairB):List PairB:=if sumE cs a b=0 then canonC cs (a ++ b) else []
section
variable {cs:List ColB} {ps qs a b:List PairB}
theorem zp6:∀ (ps:List PairB),firstE cs ps<=13
 | []=>by simp [firstE]
 | p :: t=>by
  have h1:=zpD cs p.1
  have h2:=zp6 t
  unfold firstE;split <;> omega
theorem firstE_zero:∀ {ps:List PairB},firstE cs ps=0 ↔ ∀ p ∈ ps,errRow cs p.1=0
 | []=>by simp [firstE]
 | p :: t=>by
  unfold firstE
  by_cases h:errRow cs p.1=0
  ·rw [if_neg (fun h9=>h9 h),firstE_zero]
   simp [h]
  ·rw [if_pos h]
   constructor
   ·intro h9;exact absurd h9 h
   ·intro h9;exact absurd (h9 p (by simp)) h
theorem zyA (hP:PSO ps) (h:∀ p ∈ ps,errRow cs p.1=0):Z.AllV (Vr cs) ps:=fun p hp=>⟨h p hp,(hP p hp).1⟩
theorem zxS (hP:PSO ps):∀ {q:Option (List CellB)},(∀ r,q=some r->Vr cs r)->(chkF cs q ps=0 ↔ Z.isSet (Vr cs) (cmpR cs) ps/\∀ r,q=some r->∀ p ∈ ps,cmpR cs r p.1 < 0):=by
 induction ps with
 | nil=>intro q _;simp [chkF,Z.isSet.nil]
 | cons p t ih =>
  intro q hq;have hPt:PSO t:=hP.sub (fun x hx=>by simp [hx]);have hcons:∀ (hv:Vr cs p.1) (h0:p.2≠0),(Z.isSet (Vr cs) (cmpR cs) (p :: t) ↔ Z.isSet (Vr cs) (cmpR cs) t/\∀ x ∈ t,cmpR cs p.1 x.1 < 0):=fun hv h0=>by
   constructor
   ·intro h;exact ⟨h.sub (List.sublist_cons_self p t),(List.pairwise_cons.1 h.srt).1⟩
   rintro ⟨h1,h2⟩;exact ⟨List.pairwise_cons.2 ⟨h2,h1.srt⟩,fun x hx=>by rcases List.mem_cons.1 hx with rfl | hx;exact hv;exact h1.all x hx,fun x hx=>by rcases List.mem_cons.1 hx with rfl | hx;exact h0;exact h1.nz x hx⟩
  unfold chkF;by_cases h1:errRow cs p.1=0
  ·have hv:Vr cs p.1:=⟨h1,(hP p (by simp)).1⟩;rw [if_neg (fun h9=>h9 h1)];by_cases h2:p.2=0
   ·rw [if_pos h2];constructor
    ·intro h;cases h
    rintro ⟨h,_⟩;exact absurd h2 (h.nz p (by simp))
   rw [if_neg h2];have iht:=ih hPt (q:=some p.1) (fun r hr=>by injection hr with hr;rw [<- hr];exact hv);have hnext:chkF cs (some p.1) t=0 ↔ Z.isSet (Vr cs) (cmpR cs) (p :: t):=by
    rw [iht,hcons hv h2];constructor
    ·rintro ⟨h3,h4⟩;exact ⟨h3,h4 p.1 rfl⟩
    rintro ⟨h3,h4⟩;exact ⟨h3,fun r hr=>by injection hr with hr;rw [<- hr];exact h4⟩
   cases q with
   | none =>
    show chkF cs (some p.1) t=0 ↔ _;rw [hnext];constructor
    ·intro h;exact ⟨h,fun r hr=>by cases hr⟩
    rintro ⟨h,_⟩;exact h
   | some r =>
    have hr:=hq r rfl;show (if 0<=cmpR cs r p.1 then 9 else chkF cs (some p.1) t)=0 ↔ _;by_cases h3:0<=cmpR cs r p.1
    ·rw [if_pos h3];constructor
     ·intro h;cases h
     rintro ⟨_,h⟩;have:=h r rfl p (by simp);omega
    rw [if_neg h3,hnext];constructor
    ·intro h;refine ⟨h,fun r' hr' x hx=>?_⟩;injection hr' with hr'
     subst hr';rcases List.mem_cons.1 hx with rfl | hx
     ·omega
     exact (zbN cs).trans hr hv (h.all x (by simp [hx])) (by omega) ((List.pairwise_cons.1 h.srt).1 x hx)
    rintro ⟨h,_⟩;exact h
  rw [if_pos h1];constructor
  ·intro h;exact absurd h h1
  rintro ⟨h,_⟩;exact absurd (h.all p (by simp)).1 h1
theorem zbH (hP:PSO ps):chkZ cs ps=0 ↔ errS (colsL cs)=0/\ps.length<=1024/\Z.isSet (Vr cs) (cmpR cs) ps:=by
 unfold chkZ;by_cases h1:errS (colsL cs)=0
 ·rw [if_neg (fun h9=>h9 h1)];by_cases h2:1024 < ps.length
  ·rw [if_pos h2];constructor
   ·intro h;cases h
   rintro ⟨_,h,_⟩;omega
  rw [if_neg h2,zxS hP (fun r hr=>by cases hr)];constructor
  ·rintro ⟨h,_⟩;exact ⟨h1,by omega,h⟩
  rintro ⟨_,_,h⟩;exact ⟨h,fun r hr=>by cases hr⟩
 rw [if_pos h1];constructor
 ·intro h;exact absurd h h1
 rintro ⟨h,_⟩;exact absurd h h1
theorem zuZ {x:Int}:wE x=0 ↔ i64 x:=by
 by_cases h:i64 x
 ·rw [show wE x=0 from if_pos h];simp [h]
 rw [show wE x=12 from if_neg h];simp [h]
theorem zjL:overB ps=false ↔ ∀ p ∈ ps,i64 p.2:=by
 unfold overB;rw [List.any_eq_false];constructor
 ·intro h p hp;have:=h p hp;exact zuZ.1 (by simpa using this)
 intro h p hp;have:=zuZ.2 (h p hp);simp [this]
theorem znE:i64 0:=⟨by omega,by omega⟩
theorem zkF (hP:PSO ps):clcE cs ps=0 ↔ errS (colsL cs)=0/\Z.AllV (Vr cs) ps/\(∀ r,i64 (Z.sumW ps r))/\(canonC cs ps).length<=1024:=by
 unfold clcE;by_cases h1:errS (colsL cs)=0
 ·rw [if_neg (fun h9=>h9 h1)];by_cases h2:firstE cs ps=0
  ·have hV:=zyA (cs:=cs) hP (firstE_zero.1 h2);have hall:=Z.parts_all (zbN cs) hV (I:=i64) znE;rw [if_neg (fun h9=>h9 h2)];by_cases h3:overB (zsE cs ps)=true
   ·rw [if_pos h3];constructor
    ·intro h;cases h
    rintro ⟨_,_,h,_⟩;have:=zjL.2 (hall.2 h);rw [h3] at this;cases this
   rw [if_neg h3];have h3':=hall.1 (zjL.1 (by simpa using h3));by_cases h4:1024 < (canonC cs ps).length
   ·rw [if_pos h4];constructor
    ·intro h;cases h
    rintro ⟨_,_,_,h⟩;omega
   rw [if_neg h4];constructor
   ·intro _;exact ⟨h1,hV,h3',by omega⟩
   intro _;rfl
  rw [if_pos h2];constructor
  ·intro h;exact absurd h h2
  rintro ⟨_,h,_⟩;exact absurd (firstE_zero.2 fun p hp=>(h p hp).1) h2
 rw [if_pos h1];constructor
 ·intro h;exact absurd h h1
 rintro ⟨h,_⟩;exact absurd h h1
theorem zzU {pt:List PairB} (h:∀ r,Z.has pt r->Z.has ps r) (hP:PSO ps) (hw:∀ p ∈ pt,i64 p.2):PSO pt:=fun p hp=>by
 obtain ⟨q,hq,e⟩:=h p.1 ⟨p,hp,rfl⟩
 refine ⟨?_,hw p hp⟩
 rw [<- e];exact (hP q hq).1
theorem zpX (hP:PSO ps) (hV:Z.AllV (Vr cs) ps) (hw:∀ r,i64 (Z.sumW ps r)):PSO (canonC cs ps):=by
 have h1:=(Z.parts_all (zbN cs) hV (I:=i64) znE).2 hw;refine zzU (ps:=ps) (fun r ⟨p,hp,e⟩=>(Z.parts_has ps r).1 ⟨p,(List.mem_filter.1 hp).1,e⟩) hP fun p hp=>h1 p (List.mem_filter.1 hp).1
theorem zAK (hP:PSO ps):PSO (clcO cs ps):=by
 unfold clcO;split
 ·rename_i h;obtain ⟨_,h2,h3,_⟩:=(zkF hP).1 h;exact zpX hP h2 h3
 intro p hp;simp at hp
end
/- -/
def zB7:Elt:=⟨122,43,1,24,.slice none 0 0⟩
theorem zqV:zB7.Ok:=⟨underlying122,by kernel_rfl,by kernel_rfl,rfl,by decide⟩
def RdPs (w:World) (v:Value) (vals:List Value):Prop:=RdG zB7 w v (vals.map fun x=>[x])
theorem ztN {w:World} {b:Nat} {vals:List Value} {z:Nat × Nat} (h:w.heap[b]?=some (.cells vals.toArray 43 z)) (hs:vals.length<=100):RdPs w (.slice (some ⟨b,0,none⟩) vals.length vals.length) vals:=by
 refine ⟨⟨_,_,by rw [List.length_map],by rw [List.length_map];omega,(by intro h;cases h),fun _=>⟨_,_,rfl⟩⟩,fun i hi j u hu=>?_,fun x hx=>?_,by rw [List.length_map];omega⟩
 ·rw [List.length_map] at hi;rw [getD_map (fun x=>[x]) vals i hi undef] at hu;obtain rfl:j=0:=by
   have:=(List.getElem?_eq_some_iff.1 hu).1;simpa using this
  have hu:vals.getD i undef=u:=by simpa using hu
  rw [zaG,cell_of_row _ _ _ _ _ z h,List.getElem?_toArray];show vals[0 + (i * 1 + 0)]?=some u;rw [show 0 + (i * 1 + 0)=i from by omega,List.getElem?_eq_getElem hi,<- hu];simp [List.getD,hi]
 obtain ⟨c,_,rfl⟩:=List.mem_map.1 hx;rfl
def zh5 (r:List CellB):Prop:=r.length<=8/\∀ c ∈ r,c.2.size<=256
def gP (p:PairB):Int:=1 + zdN p.1 + (p.1.length:Int)
def gS:List PairB->Int
 | []=>0
 | p :: t=>gP p + gS t
theorem zxE (a b:List PairB):gS (a ++ b)=gS a + gS b:=by
 induction a with
 | nil=>simp [gS]
 | cons p t ih=>simp only [List.cons_append,gS,ih];omega
theorem zmN {x:Int} (h:-9223372036854775808<=x/\x<=9223372036854775807):wrap64 x=x:=by unfold wrap64;omega
theorem ziZ:∀ (r:List CellB) (x:Int),r.length<=100->(∀ c ∈ r,c.2.size<=256)->0<=x->x + 256 * (r.length:Int)<=1000000->x<=r.foldl (fun n c=>wrap64 (n + (c.2.size:Int))) x/\r.foldl (fun n c=>wrap64 (n + (c.2.size:Int))) x<=x + 256 * (r.length:Int)
 | [],x,_,_,_,_=>by simp
 | c :: t,x,hl,h,h0,h1=>by
  have hc:=h c (by simp)
  simp only [List.length_cons] at h1 hl ⊢
  push_cast at h1 ⊢
  have e:wrap64 (x + (c.2.size:Int))=x + (c.2.size:Int):=zmN ⟨by omega,by omega⟩
  rw [List.foldl_cons,e]
  have:=ziZ t (x + (c.2.size:Int)) (by omega) (fun d hd=>h d (by simp [hd])) (by omega) (by omega)
  omega
theorem zsQ {p:PairB} (h:zh5 p.1):0<=zdN p.1/\zdN p.1<=2048/\1<=gP p/\gP p<=2057:=by
 obtain ⟨h1,h2⟩:=h;have:=ziZ p.1 0 (by omega) h2 (by omega) (by omega);have e:zdN p.1=p.1.foldl (fun n c=>wrap64 (n + (c.2.size:Int))) 0:=rfl;unfold gP;rw [e];omega
theorem zsP:∀ {l:List PairB},(∀ p ∈ l,zh5 p.1)->(l.length:Int)<=gS l/\gS l<=2057 * (l.length:Int)
 | [],_=>by simp [gS]
 | p :: t,h=>by
  have h1:=zsQ (h p (by simp))
  have h2:=zsP (l:=t) (fun q hq=>h q (by simp [hq]))
  simp only [gS,List.length_cons];push_cast;omega
def fewG (l:List PairB):Prop:=(∀ p ∈ l,zh5 p.1)->gS l<=5000
theorem zoY (v:Value) (vals:List Value) (pss:List (List PairB)) (w:World) (h:RdPs w v vals) (hn3:vals.length<=12) (hl:pss.length=vals.length) (hr:∀ i,i < vals.length->∀ wz,Below w.heap.size w wz->RdP wz (vals.getD i undef) (pss.getD i [])) :
  Calls prog 37 #[v] w fun e w'=>∃ x:Int,e=.returned (.int .i64 x)/\(x=0∨x=1)/\(x=0->fewG pss.flatten)/\Below w.heap.size w w':=by
 have hlen:=RdG.len h zqV;rw [List.length_map] at hlen;have HH:=h_ h;have HR:=h_ hr;have HS3:=h_ (show ∀ i,i < vals.length->(pss.getD i []).length<=140737488351232 from fun i hi=>(hr i hi w (Below.refl _ _)).small);obtain ⟨n,hn⟩:=nm_ vals.length;rw [<- hn] at hlen hn3;have hlen:∀ u,(Builtin.len_ #[122] 3 #[v]).run prog u=.ok (.int .i64 (n:Int)) u:=hlen;have HN:=h_ hn;have HL:=h_ hl;have hsz0:(∀ i,i<=n->((pss.take i).flatten.length:Int)<=(i:Int) * 140737488351232):=fun i=>by
  induction i with
  | zero=>intro _;simp
  | succ i ih =>
   intro hi;have h1:=ih (by omega);have hip:i < pss.length:=(by rw [HL.o,<- HN.o];omega);have h2:=HS3.o i (by rw [<- HN.o];omega);have e:pss.take (i + 1)=pss.take i ++ [pss.getD i []]:=by
    rw [List.take_add_one];simp [List.getD,hip]
   rw [e,List.flatten_append,List.length_append,List.flatten_singleton];push_cast;omega
 have HSZ:=h_ hsz0;clear h hn hr hl hsz0;go_enter func37,ntmps37;go_wp2;go_loopw [3,10] (fun a i wr=>∃ (k:Nat) (x:Int),k<=n/\i=.int .i64 k/\a=.int .i64 x/\Hid ((∀ p ∈ pss.flatten,zh5 p.1)->x=gS (pss.take k).flatten)/\Hid (Below w.heap.size w wr)) (fun _ i _=>n - (intOf i).toNat)
 case atStart=>exact ⟨0,0,by omega,rfl,rfl,h_ (fun _=>rfl),h_ (Below.refl _ _)⟩
 obtain ⟨k,x,hk,rfl,rfl,HX,HB⟩:=hrel;by_cases hlt:k < n
 ·have hr:=RdG.later HH.o zqV HB.o l_;have hl2:k < (vals.map fun x=>[x]).length:=by rw [List.length_map,<- HN.o];exact hlt
  have hidx:=RdG.idx hr zqV k hl2;obtain ⟨b,o,ha,hc⟩:=RdG.at hr hl2;rw [ha] at hidx;rw [getD_map (fun x=>[x]) vals k (by rw [<- HN.o];exact hlt) undef] at hc;have hc0:=hc 0 _ rfl;rw [Nat.add_zero] at hc0;have hre:=HR.o k (by rw [<- HN.o];exact hlt)
  have HTK:=h_ (show pss.take (k + 1)=pss.take k ++ [pss.getD k []] from by
   rw [List.take_add_one];simp [List.getD,show k < pss.length by rw [HL.o,<- HN.o];exact hlt])
  have HMEM:=h_ (show pss.getD k [] ∈ pss from by simp [List.getD,show k < pss.length by rw [HL.o,<- HN.o];exact hlt]);obtain ⟨rv,hrv⟩:=nm_ (vals.getD k undef);rw [<- hrv] at hc0 hre;obtain ⟨ps,hps⟩:=nm_ (pss.getD k []);rw [<- hps] at hre HTK HMEM;have HRE:=h_ hre;have hl5:=(HRE.o wr HB.o).len;have hsm5:=(HRE.o wr HB.o).small;have hzk:=HSZ.o k (by omega);obtain ⟨m,hm⟩:=nm_ ps.length;rw [<- hm] at hl5 hsm5;have HM:=h_ hm;have hidx:∀ u,(Instr.indexAt 122 v (.int .i64 (k:Int))).run prog u=.ok (.pointer (some ⟨b,o,none⟩)) u:=hidx;clear hr hl2 ha hc hre hrv hps hm;have HZK:=h_ hzk;clear hzk;go_wp2;go_loopw [3,16] (fun a i wr=>∃ (j:Nat) (y:Int),j<=m/\i=.int .i64 j/\a=.int .i64 y/\Hid ((∀ p ∈ pss.flatten,zh5 p.1)->y=gS ((pss.take k).flatten ++ ps.take j))/\Hid (Below w.heap.size w wr)) (fun _ i _=>m - (intOf i).toNat)
  case atStart=>exact ⟨0,_,by omega,rfl,rfl,h_ (fun h=>by rw [HX.o h];simp),HB⟩
  clear HB hc0 hidx;obtain ⟨j,y,hj,rfl,rfl,HY,HB⟩:=hrel;by_cases hjl:j < m
  ·have hj2:j < ps.length:=(by rw [<- HM.o];exact hjl);obtain ⟨b9,o9,rw9,hidx,hc0,hc1,hre9,hbl9⟩:=(HRE.o wr HB.o).get hj2
   have HPT:=h_ (show ps.take (j + 1)=ps.take j ++ [ps.getD j default] from by
    rw [List.take_add_one];simp [List.getD,hj2])
   have HPM:=h_ (show ps.getD j default ∈ pss.flatten from List.mem_flatten.2 ⟨ps,HMEM.o,by simp [List.getD,hj2]⟩);obtain ⟨p,hp⟩:=nm_ (ps.getD j default);rw [<- hp] at hc1 hre9 HPT HPM;rcases p with ⟨r,z⟩
   dsimp only at hc1 hre9;obtain ⟨ao,no,co,rfl⟩:=hre9.lit;obtain ⟨w7,hw7⟩:=nm_ (wr.alloc (.cells #[.slice ao no co,.int .i64 z] 86));have hbb:=(Below.refl wr.heap.size wr).alloc l_ (.cells #[.slice ao no co,.int .i64 z] 86);have hg7:=heap_alloc_new wr (.cells #[.slice ao no co,.int .i64 z] 86);rw [<- hw7] at hbb hg7;have HB7:=bT HB hbb.drew;have hre7:=(hre9.later hbb l_).drew;have hl7:=hre7.len;have SZ:=h_ (fun wz (hz:Below w7.drew.heap.size w7.drew wz)=>ztK (.slice ao no co) r wz (hre7.later hz l_));have hW7:=Below.refl w7.drew.heap.size w7.drew;have hg7':(w7.drew).heap[wr.heap.size]?=_:=hg7;have s0:=fun x:Ord.GW w7.drew=>zaA x.grew (cell_of_row _ _ 0 _ _ _ hg7');simp at s0;have hrl:r.length<=140737488351232:=hre9.small;clear hg7 hg7' hbb hre7 hre9 hp hj2;subst hw7;go_wp2_with fail;refine OrdR.wp_region_ord Ord.way [(0,false),(1,false),(2,false),(5,false),(6,false),(7,false),(3,true),(4,false),(8,false),(9,false),(10,false)] (by kernel_rfl) rfl (by kernel_rfl) (by kernel_rfl) (fun _ _ _ d _ h=>by cases d <;> exact h) ?_;iterate 6 (refine OrdR.ord_still rfl rfl (by kernel_rfl) (fun K hK=>?_);go_big_quiet_op;refine hK _ ?_;clear hK K)
   refine OrdR.ord_loud rfl (by kernel_rfl) (fun K hK=>?_);go_big_op;refine (SZ.o _ hW7).mono ?_;rintro e w8 ⟨rfl,hb⟩;refine hK _ _ hb ?_;have HB8:=bT HB7 hb;clear hb;clear hK K;iterate 4 (refine OrdR.ord_still rfl rfl (by kernel_rfl) (fun K hK=>?_);go_big_quiet_op;refine hK _ ?_;clear hK K)
   refine OrdR.ord_nil ?_
   have HY2:=h_ (show (∀ p ∈ pss.flatten,zh5 p.1)->wrap64 (y + wrap64 (wrap64 (1 + zdN r) + (r.length:Int)))=gS ((pss.take k).flatten ++ ps.take (j + 1)) from fun hs=>by
    obtain ⟨g1,g2,g3,g4⟩:=zsQ (hs _ HPM.o)
    have hy:=HY.o hs
    have hsub:∀ q ∈ (pss.take k).flatten ++ ps.take j,zh5 q.1:=fun q hq=>by
     rcases List.mem_append.1 hq with hq | hq
     ·obtain ⟨l,hl,hq⟩:=List.mem_flatten.1 hq
      exact hs q (List.mem_flatten.2 ⟨l,List.mem_of_mem_take hl,hq⟩)
     ·exact hs q (List.mem_flatten.2 ⟨ps,HMEM.o,List.mem_of_mem_take hq⟩)
    have hb:=zsP hsub
    rw [List.length_append,List.length_take] at hb
    have hzk:=HZK.o
    dsimp only at g1 g2
    have hrs:(r.length:Int)<=8:=by have:=(hs _ HPM.o).1;dsimp only at this;omega
    rw [HPT.o,<- List.append_assoc,zxE,<- hy]
    have e1:gS [((r,z):PairB)]=1 + zdN r + (r.length:Int):=by simp [gS,gP]
    rw [e1]
    rw [<- hy] at hb
    push_cast at hb
    have hj9:((min j ps.length:Nat):Int)<=140737488351232:=by have:=HM.o;omega
    have w1:wrap64 (1 + zdN r)=1 + zdN r:=zmN ⟨by omega,by omega⟩
    have w2:wrap64 (1 + zdN r + (r.length:Int))=1 + zdN r + (r.length:Int):=zmN ⟨by omega,by omega⟩
    have w3:wrap64 (y + (1 + zdN r + (r.length:Int)))=y + (1 + zdN r + (r.length:Int)):=zmN ⟨by omega,by omega⟩
    rw [w1,w2,w3])
   go_wp2;go_roundw
   case rel=>exact ⟨j + 1,_,by omega,by go_num,rfl,HY2,HB8⟩
   simp [intOf];omega
  obtain rfl:j=m:=by omega
  have HX2:=h_ (show (∀ p ∈ pss.flatten,zh5 p.1)->y=gS (pss.take (k + 1)).flatten from fun hs=>by
   rw [HY.o hs,HTK.o,List.flatten_append,List.flatten_singleton,List.take_of_length_le (l:=ps) (by rw [<- HM.o];exact l_)])
  clear hjl;go_wp2;go_roundw
  case rel=>exact ⟨k + 1,_,by omega,by go_num,rfl,HX2,HB⟩
  simp [intOf];omega
 obtain rfl:k=n:=by omega
 have HF:=h_ (show x<=5000->fewG pss.flatten from fun hx hs=>by
  have h1:=HX.o hs
  rw [List.take_of_length_le (by rw [HL.o,<- HN.o];exact l_)] at h1
  omega)
 clear hlt;by_cases hx:5000 < x
 ·have hd:decide (5000 < x)=true:=decide_eq_true hx;go_wp2;go_ret;exact ⟨1,rfl,.inr rfl,fun h=>absurd h (by decide),HB.o⟩
 have hd:decide (5000 < x)=false:=decide_eq_false hx;go_wp2;go_ret;exact ⟨0,rfl,.inl rfl,fun _=>HF.o (by omega),HB.o⟩
