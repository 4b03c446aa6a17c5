/- -/
import Derived.Test.YtlapgdocpndfiaaGreatDoorWTrcS
set_option maxHeartbeats 4000000
set_option linter.unusedVariables false
set_option linter.unusedSimpArgs false
set_option maxRecDepth 1000000
namespace Go.Proofs.YtlapgdocpndfiaaGreatDoor
open _root_.Go.Proofs.Tryz
open Go.RowKit Go.Shelf
instance entB_dec:DecidableEq EntB:=fun a b=>(inferInstance:Decidable (a=b))
theorem ziT (v1 v2:Value) (x y:EntB) (w:World) (h1:RdN w v1 x) (h2:RdN w v2 y) :
  Calls prog 68 #[v1,v2] w fun e w'=>e=.returned (.bool (decide (x=y)))/\Below w.heap.size w w':=by
 obtain ⟨k1,s1,ps⟩:=x;obtain ⟨k2,s2,qs⟩:=y;obtain ⟨p1,rfl,hP⟩:=h1;obtain ⟨p2,rfl,hQ⟩:=h2;dsimp only at hP hQ ⊢;obtain ⟨ao,no,co,rfl⟩:=hP.lit12;obtain ⟨bo,mo,do_,rfl⟩:=hQ.lit12;have SM:=h_ (fun wz (hz:Below w.heap.size w wz)=>zdP (.slice ao no co) (.slice bo mo do_) ps qs wz (hP.later hz l_) (hQ.later hz l_));have HB0:=h_ (((Below.refl w.heap.size w).alloc l_ (.cells #[.int .i64 k1,.int .i64 s1,.slice ao no co] 92)).alloc (by simp) (.cells #[.int .i64 k2,.int .i64 s2,.slice bo mo do_] 92));clear hP hQ;by_cases h1:k1=k2
 ·subst h1;have d1:((k1:Int) == k1)=true:=by simp
  by_cases h2:s1=s2
  ·subst h2;have d2:((s1:Int) == s1)=true:=(by simp);have HE:=h_ (show decide (ps=qs)=decide (((k1,s1,ps):EntB)=(k1,s1,qs)) from by simp);go_enter func68,ntmps68;go_wp2_with fail;refine (SM.o _ HB0.o).mono ?_;rintro e w3 ⟨rfl,hb⟩;have HB3:=bT HB0 hb;generalize decide (ps=qs)=z at *;clear hb;go_wp2;go_ret;exact ⟨by rw [<- HE.o];rfl,HB3.o⟩
  have d2:((s1:Int) == s2)=false:=by rw [beq_eq_false_iff_ne];exact h2
  have HE:=h_ (show false=decide (((k1,s1,ps):EntB)=(k1,s2,qs)) from by simp [h2]);clear h2 SM;go_enter func68,ntmps68;go_wp2;go_ret;exact ⟨by rw [<- HE.o];rfl,HB0.o⟩
 have d1:((k1:Int) == k2)=false:=by rw [beq_eq_false_iff_ne];exact h1
 have HE:=h_ (show false=decide (((k1,s1,ps):EntB)=(k2,s2,qs)) from by simp [h1]);clear h1 SM;go_enter func68,ntmps68;go_wp2;go_ret;exact ⟨by rw [<- HE.o];rfl,HB0.o⟩
theorem zgR (v1 v2:Value) (ps qs:List EntB) (w:World) (h1:RdZ w v1 ps) (h2:RdZ w v2 qs) :
  Calls prog 67 #[v1,v2,.func (.func 68) #[] #[]] w fun e w'=>e=.returned (.bool (decide (ps=qs)))/\Below w.heap.size w w':=by
 have hl1:=h1.len;have hl2:=h2.len;have hs1:=h1.small;have hs2:=h2.small;have H1:=h_ h1;have H2:=h_ h2;clear h1 h2;by_cases hln:ps.length=qs.length
 ·obtain ⟨n,hn⟩:=nm_ ps.length;rw [<- hln] at hl2 hs2;rw [<- hn] at hl1 hl2 hs1 hs2;have HN:=h_ hn;have HL:=h_ hln;clear hln hn;go_enter func67,ntmps67;go_wp2;go_loopw [17] (fun i wr=>∃ k:Nat,k<=n/\i=.int .i64 k/\Hid (ps.take k=qs.take k)/\Hid (Below w.heap.size w wr)) (fun i _=>n - (intOf i).toNat)
  case atStart=>exact ⟨0,by omega,rfl,h_ (by simp),h_ (Below.refl _ _)⟩
  obtain ⟨k,hk,rfl,HE,HB⟩:=hrel;by_cases hlt:k < n
  ·have k1:k < ps.length:=(by rw [<- HN.o];exact hlt);have k2:k < qs.length:=(by rw [<- HL.o];exact k1);obtain ⟨b,o,rv,hi,c0,c1,c2,re,hbl⟩:=H1.get k1;obtain ⟨b',o',rv',hi',c0',c1',c2',re',hbl'⟩:=H2.get k2;obtain ⟨ao,nn,cap,rfl⟩:=re.lit12;obtain ⟨ao',nn',cap',rfl⟩:=re'.lit12;have HT:=h_ (show ps.take (k + 1)=ps.take k ++ [ps.getD k default] from by rw [List.take_add_one];simp [List.getD,k1]);have HT':=h_ (show qs.take (k + 1)=qs.take k ++ [qs.getD k default] from by rw [List.take_add_one];simp [List.getD,k2]);have HNE:=h_ (fun e:ps=qs=>show ps.getD k default=qs.getD k default by rw [e]);obtain ⟨p,hp⟩:=nm_ (ps.getD k default);obtain ⟨p',hp'⟩:=nm_ (qs.getD k default);rw [<- hp] at c0 c1 re HT HNE;rw [<- hp'] at c0' c1' re' HT' HNE;rcases p with ⟨x,z,r1⟩
   rcases p' with ⟨y,z',r2⟩
   dsimp only at c0 c1 re c0' c1' re';have hc0:=(HB.cell (p:=⟨b,o,none⟩) hbl).trans c0;have hc1:=(HB.cell (p:=⟨b,o + 1,none⟩) hbl).trans c1;have hc2:=(HB.cell (p:=⟨b,o + 2,none⟩) hbl).trans c2;have hc0':=(HB.cell (p:=⟨b',o',none⟩) hbl').trans c0';have hc1':=(HB.cell (p:=⟨b',o' + 1,none⟩) hbl').trans c1';have hc2':=(HB.cell (p:=⟨b',o' + 2,none⟩) hbl').trans c2';have hbw:b' < wr.heap.size:=Nat.lt_of_lt_of_le hbl' HB.size;have NN:=h_ (new2 wr (.cells #[.int .i64 x,.int .i64 z,.slice ao nn cap] 92) (.cells #[.int .i64 y,.int .i64 z',.slice ao' nn' cap'] 92));have HBN:=bT HB NN.2.2.2;have SS:=h_ (ziT (.agg #[.int .i64 x,.int .i64 z,.slice ao nn cap]) (.agg #[.int .i64 y,.int .i64 z',.slice ao' nn' cap']) (x,z,r1) (y,z',r2) _ ⟨_,rfl,re.later HBN.o l_⟩ ⟨_,rfl,re'.later HBN.o l_⟩);clear hp hp' k1 k2 re re' c0 c1 c2 c0' c1' c2';by_cases hpq:((x,z,r1):EntB)=(y,z',r2)
   ·have hdd:decide (((x,z,r1):EntB)=(y,z',r2))=true:=decide_eq_true hpq;rw [hdd] at SS;have HE2:=h_ (show ps.take (k + 1)=qs.take (k + 1) from by rw [HT.o,HT'.o,HE.o,hpq]);clear hdd hpq HNE;go_wp2_with fail;refine SS.mono ?_;rintro e w3 ⟨rfl,hb⟩;have HB4:=bT HBN hb;clear hb SS hc0 hc1 hc2 hc0' hc1' hc2' NN HBN;go_wp2;go_roundw
    case rel=>exact ⟨k + 1,by omega,by go_num,HE2,HB4⟩
    simp [intOf];omega
   have hdd:decide (((x,z,r1):EntB)=(y,z',r2))=false:=decide_eq_false hpq;rw [hdd] at SS;have HF:=h_ (show decide (ps=qs)=false from decide_eq_false (fun e=>hpq (HNE.o e)));clear hdd hpq HNE;go_wp2_with fail;refine SS.mono ?_;rintro e w3 ⟨rfl,hb⟩;have HB4:=bT HBN hb;clear hb SS hc0 hc1 hc2 hc0' hc1' hc2' NN HBN;go_wp2;go_ret;exact ⟨by rw [HF.o];rfl,HB4.o⟩
  obtain rfl:k=n:=by omega
  have HF:=h_ (show decide (ps=qs)=true from decide_eq_true (by
   have h:=HE.o
   rwa [List.take_of_length_le (by rw [<- HN.o];exact l_),List.take_of_length_le (by rw [<- HL.o,<- HN.o];exact l_)] at h))
  go_wp2;go_ret;exact ⟨by rw [HF.o];rfl,HB.o⟩
 have HF:=h_ (show decide (ps=qs)=false from decide_eq_false (fun e=>hln (by rw [e])));obtain ⟨n,hn⟩:=nm_ ps.length;obtain ⟨m,hm⟩:=nm_ qs.length;rw [<- hn] at hl1 hs1 hln;rw [<- hm] at hl2 hs2 hln;have hne:((n:Int) != (m:Int))=true:=by rw [bne_iff_ne];omega
 clear hn hm H1 H2;go_enter func67,ntmps67;go_wp2;go_ret;exact ⟨by rw [HF.o];rfl,Below.refl _ _⟩
theorem zgC (v1 v2:Value) (cs ds:List ColB) (es fs:List EntB) (w:World) (h1:RdT13 w v1 cs es) (h2:RdT13 w v2 ds fs) :
  Calls prog 36 #[v1,v2] w (zEL w (cs=ds/\es=fs)):=by
 obtain ⟨s1,e1,rfl,hR1,hZ1⟩:=h1;obtain ⟨s2,e2,rfl,hR2,hZ2⟩:=h2;obtain ⟨a1,l1,p1,rfl⟩:=hR1.lit12;obtain ⟨a2,l2,p2,rfl⟩:=hR2.lit12;obtain ⟨a3,l3,p3,rfl⟩:=hZ1.lit;obtain ⟨a4,l4,p4,rfl⟩:=hZ2.lit;have SS:=h_ (fun wz (hz:Below w.heap.size w wz)=>zqN (.slice a1 l1 p1) (.slice a2 l2 p2) cs ds wz (hR1.later hz l_) (hR2.later hz l_));have EF:=h_ (fun wz (hz:Below w.heap.size w wz)=>zgR (.slice a3 l3 p3) (.slice a4 l4 p4) es fs wz (hZ1.later hz l_) (hZ2.later hz l_));obtain ⟨z0,z1,z2,z3⟩:=new2 w (.cells #[.slice a1 l1 p1,.slice a3 l3 p3] 27) (.cells #[.slice a2 l2 p2,.slice a4 l4 p4] 27);have HV:=h_ (And.intro (show Tbox ((w.alloc (.cells #[.slice a1 l1 p1,.slice a3 l3 p3] 27)).alloc (.cells #[.slice a2 l2 p2,.slice a4 l4 p4] 27)) w.heap.size (.slice a1 l1 p1) (.slice a3 l3 p3) from z1) (show Tbox ((w.alloc (.cells #[.slice a1 l1 p1,.slice a3 l3 p3] 27)).alloc (.cells #[.slice a2 l2 p2,.slice a4 l4 p4] 27)) (w.heap.size + 1) (.slice a2 l2 p2) (.slice a4 l4 p4) from z2));have HB:=h_ z3;clear hR1 hR2 hZ1 hZ2 z0 z1 z2 z3;go_enter func36,ntmps36;by_cases hc:cs=ds
 ·rw [decide_eq_true hc] at SS;have HC:=h_ hc;clear hc;go_wp2_with fail;generalize (w.alloc (.cells #[.slice a1 l1 p1,.slice a3 l3 p3] 27)).alloc (.cells #[.slice a2 l2 p2,.slice a4 l4 p4] 27)=w0 at *;obtain ⟨sb,hsb⟩:=nm_ w.heap.size;obtain ⟨lb,hlb9⟩:=nm_ (sb + 1);rw [<- hsb] at HV;rw [<- hsb];rw [<- hlb9] at HV;rw [<- hlb9];have HSB:=h_ hsb;have HLB:=h_ hlb9;clear hsb hlb9;refine (SS.o w0 HB.o).mono ?_;rintro e w1 ⟨rfl,hb⟩;replace HB:=bT HB hb;replace HV:=h_ (And.intro (HV.1.later hb) (HV.2.later hb));clear hb SS;obtain ⟨c0,c1⟩:=HV.1.cells;obtain ⟨c2,c3⟩:=HV.2.cells;go_wp2_with fail;refine (EF.o w1 HB.o).mono ?_;rintro e w2 ⟨rfl,hb⟩;replace HB:=bT HB hb;have HF:=h_ (show decide (es=fs)=true ↔ cs=ds/\es=fs from by rw [decide_eq_true_iff];exact ⟨fun h=>⟨HC.o,h⟩,fun h=>h.2⟩);generalize decide (es=fs)=z at *;clear hb EF c0 c1 c2 c3;go_wp2;go_ret;exact ⟨z,rfl,HF.o,HB.o⟩
 rw [decide_eq_false hc] at SS;have HC:=h_ (show false=true ↔ cs=ds/\es=fs from iff_of_false (by simp) (fun h=>hc h.1));clear hc EF;go_wp2_with fail;generalize (w.alloc (.cells #[.slice a1 l1 p1,.slice a3 l3 p3] 27)).alloc (.cells #[.slice a2 l2 p2,.slice a4 l4 p4] 27)=w0 at *;refine (SS.o w0 HB.o).mono ?_;rintro e w1 ⟨rfl,hb⟩;replace HB:=bT HB hb;clear hb SS HV;go_wp2;go_ret;exact ⟨false,rfl,HC.o,HB.o⟩
