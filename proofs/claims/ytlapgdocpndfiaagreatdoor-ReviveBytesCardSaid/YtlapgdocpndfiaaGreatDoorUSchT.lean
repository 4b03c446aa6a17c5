/- -/
import Derived.Test.YtlapgdocpndfiaaGreatDoorUEntP
set_option maxHeartbeats 16000000
set_option linter.unusedVariables false
set_option linter.unusedSimpArgs false
set_option maxRecDepth 1000000
namespace Go.Proofs.YtlapgdocpndfiaaGreatDoor
open _root_.Go.Proofs.Tryz
open Go.RowKit Go.Shelf
theorem Only.fresh {S:Nat->Prop} {a b c:World} {m:Nat} (h:Only S a b) (k:b.grownBy c (some m)) (hm:a.heap.size<=m):Only S a c :=
 ⟨k.os.trans h.os,k.tape.trans h.tape,k.output.trans h.output,Nat.le_trans h.size k.size,fun j h1 h2=>(k.block j (Nat.lt_of_lt_of_le h1 h.size) (fun e=>by injection e;omega)).trans (h.block j h1 h2)⟩
theorem Only.far {S:Nat->Prop} {a b c:World} {r:Option Nat} (h:Only S a b) (k:b.grownBy c r) (hm:∀ q,r=some q->a.heap.size<=q):Only S a c :=
 ⟨k.os.trans h.os,k.tape.trans h.tape,k.output.trans h.output,Nat.le_trans h.size k.size,fun j h1 h2=>(k.block j (Nat.lt_of_lt_of_le h1 h.size) (fun e=>by have:=hm j e.symm;omega)).trans (h.block j h1 h2)⟩
theorem Rdr.fresh {w w':World} {g m:Nat} {v:Value} {l:Bs} {k:Nat} (h:Rdr w g v l k) (hg:w.grownBy w' (some m)) (hm:m≠g) (hv:∀ i,i < l.length->(adr v i).block≠m):Rdr w' g v l k :=
 h.same (hg.block g h.lt (by simpa using hm.symm)) (fun i hi=>hg.block _ (h.rd.block hi) (by simpa using hv i hi))
theorem zxS {l:Bs} {k:Nat} {most:Int} (hk:k<=l.length) (h:(rdB l k most).2.2=0):(rdB l k most).1.length<=l.length/\(rdB l k most).2.1<=l.length/\k<=(rdB l k most).2.1:=by
 have hg:=zjQ (l.drop k) most;unfold rdB at h ⊢;split at h
 ·rename_i h1;exact absurd h h1
 rename_i h1;rw [if_neg h1];dsimp only;refine ⟨?_,?_,by omega⟩
 ·have:(getB (l.drop k) most).1.length<=(l.drop k).length:=by
   unfold getB;split
   ·simp
   split
   ·simp
   split
   ·simp
   simp;omega
  simp at this;omega
 have:=hg.1;simp at this;omega
def Took (w:World) (g:Nat) (v:Value) (l:Bs) (e:Ending) (w':World):Prop :=
 Only (fun j=>j=g) w w'/\∃ k x,(x=0/\∃ tv cs,e=.returned tv/\OwnC w' w.heap.size tv cs/\CS cs/\cs.length<=8/\rdTake l=(colsL cs,k,0)/\Rdr w' g v l k) ∨
  (x≠0/\e=.panicked [{ v:=zaR g x,recovered:=false }]/\rdTake l=([],k,x)/\zi9 w' g v l k x)
theorem zr3 (g:Nat) (v:Value) (l:Bs) (w:World) (hR:Rdr w g v l 0) (hT:Tabs w) (hg:zcA<=g) :
  Calls prog 162 #[.pointer (some ⟨g,0,none⟩)] w (Took w g v l):=by
 have hgl:=hR.lt;have hsm:=hR.rd.small;have HV:=h_ (fun i (hi:i < l.length)=>hR.rd.block hi);have HT:=h_ hT;have hTab:Hid (∀ u,Only (fun j=>j=g) w u->Tabs u):=h_ (fun u hu=>zfY HT.o (fun j hj=>hu.block j (by omega) (by omega)));go_enter func162,ntmps162;go_wp2_with fail;refine (zbW g v l 0 w hR 8 (by omega)).mono ?_;intro e w1 hu;by_cases hx:(rdU l 0 8).2.2=0
 ·obtain ⟨rfl,hg1,hR1⟩:=hu.ok hx;obtain ⟨n,hn⟩:=nm_ ((rdU l 0 8).1);obtain ⟨k1,hk1⟩:=nm_ ((rdU l 0 8).2.1);have hn8:n<=8:=by
   obtain ⟨_,h2,h3,_⟩:=zxG (Nat.zero_le _) hx;rw [hn,h3];dsimp only;omega
  rw [<- hn,<- hk1] at hu;rw [<- hk1] at hR1;rw [<- hn];have HO1:=h_ ((Only.refl (fun j=>j=g) w).grown hg1 rfl)
  have HTk:=h_ (show rdTake l=if n=0 then ([],k1,4) else zaP l n [] k1 by
   unfold rdTake;rw [if_neg (fun hh=>hh hx),<- hn,<- hk1])
  have HR1:=h_ hR1;clear hu hx hn hk1 hg1 hR1 hR hT;by_cases hn0:n=0
  ·subst hn0;have HF:=h_ (show rdTake l=([],k1,4) by rw [HTk.o,if_pos rfl]);go_wp2_with fail;refine (zaB g v l k1 w1 HR1.o 4 (by decide)).mono ?_;rintro e w2 ⟨rfl,hg2,hE⟩;have HO2:=h_ (HO1.grown hg2 rfl);have HE:=h_ hE;clear hg2 hE;go_wp2;exact ⟨rfl,HO2.o,k1,4,.inr ⟨by decide,rfl,HF.o,HE.o⟩⟩
  have HTk2:=h_ (show rdTake l=zaP l n [] k1 by rw [HTk.o,if_neg hn0]);have hne:((n:Int) != 0)=true:=by rw [bne_iff_ne];omega
  have hne2:(n != 0)=true:=by simpa using hn0
  have hnpos:0 < n:=by omega
  clear hn0 HTk;go_wp2_with fail;refine (zaD _ _ _).mono ?_;rintro e w2 ⟨rfl,rfl⟩;go_wp2_with fail;refine (zhH w1).mono ?_;rintro e w2 ⟨rfl,hW,hb⟩;have HO2:=h_ (HO1.below hb l_);have HR2:=h_ (HR1.later hb l_);have HW:=h_ hW;obtain ⟨m,hm⟩:=nm_ w1.heap.size;rw [<- hm] at hW HW;rw [<- hm];have hmg:w.heap.size<=m:=by rw [hm];exact HO1.size
  have hB2:m + 2<=w2.heap.size:=by have:=hW.lt;omega
  obtain ⟨bb,hbb⟩:=nm_ w2.heap.size;have HC0:=h_ (OwnC.nil w2 bb);have hbb2:bb<=w2.heap.size:=by omega
  have hbm:m + 2<=bb:=by omega
  clear hb hW hm HR1 HO1 hbb hB2;go_wp2;go_loopw [5,16] (fun a i wr=>∃ (k j:Nat) (cs:List ColB),j<=n/\i=.int .u64 j/\Hid (cs.length=j)/\Hid (CS cs)/\Hid (OwnC wr bb a cs)/\Hid (Rdr wr g v l k)/\Hid (Were wr (m + 1) m (names (colsL cs)))/\Hid (Only (fun j=>j=g) w wr)/\bb<=wr.heap.size/\Hid (rdTake l=zaP l (n - j) (colsL cs) k)) (fun _ i _=>n - (intOf i).toNat)
  case atStart=>exact ⟨k1,0,[],by omega,rfl,h_ rfl,h_ (fun c hc=>absurd hc (by simp)),HC0,HR2,HW,HO2,hbb2,HTk2⟩
  clear HC0 HR2 HW HO2 HTk2 hbb2;obtain ⟨k,j,cs,hj,rfl,HL,HCS,HC,HR,HW,HO,hbw,HK⟩:=hrel;have hkl:=HR.le;by_cases hlt:j < n
  ·have d1:decide ((j:Int) < (n:Int))=true:=decide_eq_true (by omega);have d2:decide (j < n)=true:=decide_eq_true hlt;go_wp2_with fail;refine (zhJ g v l k wr HR.o 32 (by omega)).mono ?_;rintro e w3 ⟨val,hu,hown⟩;by_cases hx:(rdB l k 32).2.2=0
   ·obtain ⟨rfl,hg3,hR3⟩:=hu.ok hx;obtain ⟨hnl,hpl,_⟩:=zxS hkl hx;have hown:=hown hx;have hstr:=(hown.rd (by omega)).str;have HX:=h_ hx;obtain ⟨nm,hnm⟩:=nm_ ((rdB l k 32).1);obtain ⟨k2,hk2⟩:=nm_ ((rdB l k 32).2.1);rw [<- hk2] at hR3 hpl;rw [<- hnm] at hstr hnl;have hS:RdS ⟨nm.toArray⟩ nm:=⟨rfl,by omega⟩;obtain ⟨s,hs⟩:=nm_ (⟨nm.toArray⟩:ByteArray);rw [<- hs] at hstr hS;have hsd:s.data.toList=nm:=(by rw [hs]);have HSD:=h_ hsd;have HS:=h_ hS;have HNM:=h_ hnm;have HK2:=h_ hk2;have HO3:=h_ (HO.grown hg3 rfl);have hwl:=HW.lt;have HW3:=h_ (HW.kept hg3 (by omega) (by omega));have HC3:=h_ (HC.grown hg3 (fun q hq=>by have:=(OwnC.lt HC.o hq).1;simp;omega));have HR3:=h_ hR3;have hs3:=hg3.size;clear hu hx hg3 hR3 hown hnm hk2 hs hsd hS;go_wp2_with fail;refine (zj7 s nm (m + 1) m _ w3 HS.o HW3.o (by simp [names,za4,HL.o];omega)).mono ?_;rintro e w4 ⟨rfl,hW4,hg4⟩;have HW4:=h_ hW4;have HO4:=h_ (HO3.fresh hg4 hmg);have HR4:=h_ (HR3.fresh hg4 (by omega) (fun i hi=>by have:=HV.o i hi;omega));have HC4:=h_ (HC3.grown hg4 (fun q hq=>by have:=(OwnC.lt HC3.o hq).1;simp;omega));have hs4:=hg4.size;clear hW4 hg4 hstr;by_cases hf:fine nm (names (colsL cs))=true
    ·rw [hf];go_wp2_with fail;refine (zaD _ _ _).mono ?_;rintro e w5 ⟨rfl,rfl⟩;go_wp2_with fail;refine (zjD g v l k2 w4 HR4.o).mono ?_;intro e w5 hu;by_cases hkb:k2 < l.length
     ·rw [if_pos hkb,if_pos hkb,if_pos hkb] at hu;obtain ⟨rfl,hg5,hR5⟩:=hu.ok rfl;have HO5:=h_ (HO4.grown hg5 rfl);have HW5:=h_ (HW4.kept hg5 (by omega) (by omega));have HC5:=h_ (HC4.grown hg5 (fun q hq=>by have:=(OwnC.lt HC4.o hq).1;simp;omega));have HR5:=h_ hR5;have hs5:=hg5.size;obtain ⟨kd,hkd⟩:=nm_ (at8 l k2);have hkd0:=zeH l k2;have hkd1:=zcZ l k2;rw [<- hkd] at hkd0 hkd1;rw [<- hkd];have HKD:=h_ hkd;clear hu hg5 hR5 hkd;go_wp2_with fail;refine (zg0 kd w5 (hTab.o _ HO5.o)).mono ?_;rintro e w6 ⟨rfl,hb6⟩;have HO6:=h_ (HO5.below hb6 l_);have HW6:=h_ (HW5.later hb6 l_);have HC6:=h_ (HC5.later hb6 l_);have HR6:=h_ (HR5.later hb6 l_);have hs6:=hb6.size;clear hb6;by_cases hko:kd<=5
      ·have HST:=h_ (show rdTake l=zaP l (n - (j + 1)) (colsL (cs ++ [(s,kd)])) (k2 + 1) from by
        rw [HK.o,show n - j=(n - (j + 1)) + 1 from by omega,
         zjE (ziH HX.o (by rw [<- HNM.o];exact hf) (by rw [<- HK2.o];exact hkb) (by rw [<- HK2.o,<- HKD.o];omega)),<- HNM.o,<- HK2.o,<- HKD.o]
        congr 1
        unfold colsL
        rw [List.map_append,List.map_singleton]
        unfold colL
        rw [HSD.o])
       have HNE:=h_ (show names (colsL (cs ++ [(s,kd)]))=names (colsL cs) ++ [nm] from by
        unfold colsL names colL;simp [HSD.o])
       have HCS2:=h_ (show CS (cs ++ [(s,kd)]) from fun c hc=>by
        rcases List.mem_append.1 hc with hc | hc
        ·exact HCS.o c hc
        ·rw [List.mem_singleton.1 hc]
         refine ⟨?_,by dsimp only;omega,by dsimp only;omega⟩
         have:=HS.small
         have e:s.size=nm.length:=by rw [HS.eq];simp [ByteArray.size]
         dsimp only;omega)
       rw [show kindOk kd=true from decide_eq_true ⟨hkd0,hko⟩];clear hf;go_wp2_with fail;refine (zaD _ _ _).mono ?_;rintro e w7 ⟨rfl,rfl⟩;obtain ⟨N0,N1,N2⟩:=new1 w6 (.cells #[.string s,.int .i64 kd] 79);have HO7:=h_ (HO6.alloc (.cells #[.string s,.int .i64 kd] 79));have HW7:=h_ (HW6.alloc (.cells #[.string s,.int .i64 kd] 79));have HC7:=h_ (HC6.alloc (.cells #[.string s,.int .i64 kd] 79));have HR7:=h_ (HR6.alloc (.cells #[.string s,.int .i64 kd] 79));have hs7:w6.heap.size<=(w6.alloc (.cells #[.string s,.int .i64 kd] 79)).heap.size:=(by simp);have hq7:=fun q hq=>OwnC.lt HC7.o (k:=q) hq;clear N0 N1 N2;go_wp2_with (with_reducible refine ziU bb _ ?hs HC7.o ⟨w6.heap.size,0,none⟩ (s,kd) ?hx (zy9 w6 (s,kd)) ?hn ?hbase bb _ (Below.refl bb _) l_ ?_)
       case hs=>rfl
       case hx=>rfl
       case hn=>rw [HL.o];omega
       case hbase=>omega
       intro v8 w8 hC8 hb8 hg8;have HO8:=h_ (HO7.far hg8 (fun q hq=>by have:=(hq7 q hq).1;omega));have HR8:=h_ (HR7.same (hb8.block g (by omega)) (fun i hi=>hb8.block _ (by have:=HV.o i hi;omega)))
       have HW8:=h_ (show Were w8 (m + 1) m (names (colsL (cs ++ [(s,kd)]))) from by
        have:=HW6.o
        rw [HNE.o]
        exact ⟨(hb8.block (m + 1) (by omega)).trans HW7.var,HW7.set.kept hg8 (fun hh=>by have:=(hq7 m hh.symm).1;omega),HW7.ne⟩)
       have HC8:=h_ hC8;have hs8:=hb8.size;have hs9:bb<=w8.heap.size:=(by omega);have HL8:=h_ (show (cs ++ [(s,kd)]).length=j + 1 from by rw [List.length_append,HL.o];rfl);clear hC8 hb8 hg8 hq7;go_wp2;go_roundw
       case rel=>exact ⟨k2 + 1,j + 1,cs ++ [(s,kd)],by omega,by go_num,HL8,HCS2,HC8,HR8,HW8,HO8,hs9,HST⟩
       simp [intOf];omega
      have HF:=h_ (show rdTake l=([],k2 + 1,10) from by
       rw [HK.o,show n - j=(n - (j + 1)) + 1 from by omega,HK2.o]
       exact zbH (zgU HX.o (by rw [<- HNM.o];exact hf) (by rw [<- HK2.o];exact hkb) (by rw [<- HK2.o,<- HKD.o];omega)) (by decide))
      rw [show kindOk kd=false from decide_eq_false (fun h=>hko h.2)];clear hf;go_wp2_with fail;refine (zaB g v l (k2 + 1) w6 HR6.o 10 (by decide)).mono ?_;rintro e w7 ⟨rfl,hg7,hE⟩;have HO7:=h_ (HO6.grown hg7 rfl);have HE:=h_ hE;clear hg7 hE;go_wp2;exact ⟨rfl,HO7.o,k2 + 1,10,.inr ⟨by decide,rfl,HF.o,HE.o⟩⟩
     rw [if_neg hkb,if_neg hkb,if_neg hkb] at hu;obtain ⟨rfl,hg5,hE⟩:=hu.no (by decide)
     have HF:=h_ (show rdTake l=([],k2,5) from by
      rw [HK.o,show n - j=(n - (j + 1)) + 1 from by omega,HK2.o]
      exact zbH (zfA HX.o (by rw [<- HNM.o];exact hf) (by rw [<- HK2.o];exact hkb)) (by decide))
     have HO5:=h_ (HO4.grown hg5 rfl);have HE:=h_ hE;clear hu hg5 hE hf;go_wp2;exact ⟨rfl,HO5.o,k2,5,.inr ⟨by decide,rfl,HF.o,HE.o⟩⟩
    have hf':fine nm (names (colsL cs))=false:=by simpa using hf
    have HF:=h_ (show rdTake l=([],k2,2) from by
     rw [HK.o,show n - j=(n - (j + 1)) + 1 from by omega,HK2.o]
     exact zbH (zgT HX.o (by rw [<- HNM.o];exact hf')) (by decide))
    rw [hf'];clear hf hf';go_wp2_with fail;refine (zaB g v l k2 w4 HR4.o 2 (by decide)).mono ?_;rintro e w5 ⟨rfl,hg5,hE⟩;have HO5:=h_ (HO4.grown hg5 rfl);have HE:=h_ hE;clear hg5 hE;go_wp2;exact ⟨rfl,HO5.o,k2,2,.inr ⟨by decide,rfl,HF.o,HE.o⟩⟩
   obtain ⟨rfl,hg3,hE⟩:=hu.no hx;obtain ⟨x,hxx⟩:=nm_ ((rdB l k 32).2.2);obtain ⟨k2,hk2⟩:=nm_ ((rdB l k 32).2.1);have hx0:x≠0:=by rw [hxx];exact hx
   have HF:=h_ (show rdTake l=([],k2,x) from by
    rw [HK.o,show n - j=(n - (j + 1)) + 1 from by omega,hk2,hxx]
    exact zbH (zfB hx) hx)
   rw [<- hk2,<- hxx] at hE;have HO3:=h_ (HO.grown hg3 rfl);have HE:=h_ hE;rw [<- hxx];clear hu hx hg3 hE hxx hk2 hown;go_wp2;exact ⟨rfl,HO3.o,k2,x,.inr ⟨hx0,rfl,HF.o,HE.o⟩⟩
  obtain rfl:j=n:=by omega
  have HF:=h_ (show rdTake l=(colsL cs,k,0) from by rw [HK.o,Nat.sub_self];rfl);have HC2:=h_ (HC.lower (b':=w.heap.size) (by omega));have HL2:=h_ (show cs.length<=8 by rw [HL.o];omega);clear hlt;go_wp2;go_ret;exact ⟨HO.o,k,0,.inl ⟨rfl,_,cs,rfl,HC2.o,HCS.o,HL2.o,HF.o,HR.o⟩⟩
 obtain ⟨rfl,hg1,hE⟩:=hu.no hx;obtain ⟨x,hxx⟩:=nm_ ((rdU l 0 8).2.2);obtain ⟨k2,hk2⟩:=nm_ ((rdU l 0 8).2.1);have hx0:x≠0:=by rw [hxx];exact hx
 have HF:=h_ (show rdTake l=([],k2,x) from by unfold rdTake;rw [if_pos hx,hk2,hxx]);rw [<- hk2,<- hxx] at hE;have HO3:=h_ ((Only.refl (fun j=>j=g) w).grown hg1 rfl);have HE:=h_ hE;rw [<- hxx];clear hu hx hg1 hE hxx hk2;go_wp2;exact ⟨rfl,HO3.o,k2,x,.inr ⟨hx0,rfl,HF.o,HE.o⟩⟩
/- -/
theorem Only.trans' {S T:Nat->Prop} {a b c:World} (h:Only S a b) (k:Only T b c) (hT:∀ j,T j->S j):Only S a c:=h.trans (k.mono hT)
theorem OwnC.only {w w':World} {base:Nat} {v:Value} {cs:List ColB} {S:Nat->Prop} (h:OwnC w base v cs) (hO:Only S w w') (hq:∀ q,base<=q->¬ S q):OwnC w' base v cs:=by
 refine ⟨⟨h.1.1,?_⟩,h.2⟩;rcases h.1.2 with h2 | ⟨g,cap,cur,rfl,hbg,hg,r⟩
 ·exact .inl h2
 exact .inr ⟨g,cap,cur,rfl,hbg,hO.keep hg (hq g hbg),r⟩
def zFQ (wR:World) (c:Nat) (l:Bs) (g k x:Nat) (a:World):Prop :=
 Only (fun j=>j=c∨wR.heap.size<=j) wR a/\((x=0/\∃ tv cs,a.heap[c]?=some (.cells #[tv] 24 (0,0))/\OwnC a (wR.heap.size + 4) tv cs/\CS cs/\rdTake l=(colsL cs,k,0))∨(x≠0/\rdTake l=([],k,x)))
theorem zpV (args:Array Value) (u:World):(callFunc 161 args).run prog u=.ok (.enter 161 args) u:=zk4 func161 (by kernel_rfl) rfl args u
theorem zoP (wR:World) (g c:Nat) (v:Value) (l:Bs) (w:World) (hR:Rdr w g v l 0) (hc:w.heap[c]?=some (.cells #[.slice none 0 0] 24 (0,0))) (hT:Tabs w) (hg:zcA<=g)
  (hcR:c < wR.heap.size) (hgR:wR.heap.size<=g) (hsz:wR.heap.size + 4<=w.heap.size) (hb:Below wR.heap.size wR w) (hv:∀ i,i < l.length->(adr v i).block≠c) :
  Calls prog 161 #[.pointer (some ⟨g,0,none⟩),.pointer (some ⟨c,0,none⟩)] w fun e w2=>∃ k x,Kept wR.heap.size g w w2/\zFQ wR c l g k x w2/\Went g v l k x e w2:=by
 have hcw:c < w.heap.size:=by omega
 have HC:=h_ hc;go_enter func161,ntmps161;go_wp2_with fail;refine (zr3 g v l w hR hT hg).mono ?_;rintro e w2 ⟨hO,k,x,⟨rfl,tv,cs,rfl,hown,hcs,h8,hrt,hR2⟩ | ⟨hx,rfl,hrt,hE⟩⟩
 ·obtain ⟨ao,cap,htv,_⟩:=RdG.shape (hown.rd (by omega));obtain ⟨tl,htl⟩:=nm_ ((cs.map colV).length);rw [<- htl] at htv;subst htv;clear htl;have q2:=hO.keep HC.o (by omega);have c0:=cell_of_one q2;have c1:=free_of_one q2;have HQ:=h_ q2;have HO:=h_ hO;have HN:=h_ hown;have HRT:=h_ hrt;have HR2:=h_ hR2;have hs2:=hO.size;clear q2 hO hown hrt hR2;go_wp2;go_end0;have hset:=one_setCell (u:=.slice ao tl cap) HQ.o;have hgs:w2.grownBy (w2.setCell ⟨c,0,none⟩ (.slice ao tl cap)) (some c):=za2 (World.grownBy.refl _ _) _;refine ⟨k,0,?_,⟨?_,.inl ⟨rfl,_,cs,hset,?_,hcs,HRT.o⟩⟩,.inl ⟨rfl,rfl,?_⟩⟩
  ·exact (HO.kept (fun j hj=>.inr hj)).setCell hcR _
  ·refine (((Only.refl _ wR).below hb l_).trans' HO.o (fun j hj=>?_)).setCell (p:=⟨c,0,none⟩) (.inl rfl) _;exact .inr (by omega)
  ·exact (HN.grown hgs (fun q hq=>by have:=(OwnC.lt HN.o hq).1;simp;omega)).lower hsz
  exact HR2.setVar (p:=⟨c,0,none⟩) (by dsimp only;omega) hv _
 have HO:=h_ hO;have HE:=h_ hE;have HRT:=h_ hrt;clear hO hE hrt;go_wp2;refine ⟨rfl,k,x,HO.kept (fun j hj=>.inr hj),⟨?_,.inr ⟨hx,HRT.o⟩⟩,.inr ⟨hx,rfl,HE.o⟩⟩;exact ((Only.refl _ wR).below hb l_).trans' HO.o (fun j hj=>.inr (by omega))
def RdO (w:World) (l:Bs) (e:Ending) (w':World):Prop :=
 Below w.heap.size w w'/\∃ tv cs,e=.returned (.tuple #[tv,.int .i64 ((rdTake l).2.1:Int),.int .i64 (readE l:Int)])/\OwnC w' w.heap.size tv cs/\CS cs/\cs.length<=8/\colsL cs=readC l
theorem zlM (l:Bs):∀ (m:Nat) (acc:List Col) (k:Nat),(zaP l m acc k).1.length<=acc.length + m
 | 0,acc,k=>by rw [zaP];simp
 | m + 1,acc,k=>by
  rw [zaP]
  split
  ·simp
  ·have:=zlM l m (acc ++ [(zbS l (names acc) k).1]) (zbS l (names acc) k).2.1
   simp at this
   omega
theorem zxI (l:Bs):(rdTake l).1.length<=8:=by
 unfold rdTake;split
 ·simp
 split
 ·simp
 rename_i h1 h2;have h3:=zlM l (rdU l 0 8).1 [] (rdU l 0 8).2.1;obtain ⟨_,h4,h5,_⟩:=zxG (l:=l) (k:=0) (most:=8) (Nat.zero_le _) (Decidable.of_not_not h1);have:(rdU l 0 8).1<=8:=by rw [h5];dsimp only;omega
 simp at h3;omega
theorem zr4 (v:Value) (l:Bs) (w:World) (h:Rd w v l) (hT:Tabs w) :
  Calls prog 118 #[v] w (RdO w l):=by
 have hmf:∀ (fn:Fn) (first cap:Array Value) (w:World),(Instr.makeFunc fn first cap).run prog w=.ok (.func fn first cap) w:=fun _ _ _ _=>rfl;obtain ⟨N0,N1,N2⟩:=new1 w (.cells #[.slice none 0 0] 24);obtain ⟨w0,hw0⟩:=nm_ (w.alloc (.cells #[.slice none 0 0] 24));rw [<- hw0] at N0 N1 N2;have HW0:=h_ hw0;have htl:=zmT hT;have HB0:=h_ N2;have HC0:=h_ N1;have hR0:=h.later N2 l_;have hvb:=fun i (hi:i < l.length)=>h.block hi;have HT0:=h_ (hT.later N2);obtain ⟨cb,hcb⟩:=nm_ w.heap.size;rw [<- hcb] at N0 HC0 hvb htl;have HCB:=h_ hcb;clear hw0 N1 N2 h hT hcb
 have hrun:=zjC 161 zpV #[.pointer (some ⟨cb,0,none⟩)] v l w0 hR0 (zFQ w0 cb l) (fun g k x a b hp hs hO=>by
  obtain ⟨h1,h2⟩:=hp
  refine ⟨h1.trans' hO (fun j hj=>.inr (by omega)),?_⟩
  rcases h2 with ⟨hx,tv,cs,q1,q2,q3,q4⟩ | h2
  ·exact .inl ⟨hx,tv,cs,hO.keep q1 (by omega),q2.only hO (fun q hq=>by omega),q3,q4⟩
  ·exact .inr h2) (fun g w1 h1 h2 h3 hb hR=>by
  have:=zoP w0 g cb v l w1 hR ((hb.block cb (by omega)).trans HC0.o) (HT0.later hb) (by omega) (by omega) h1 h2 hb (fun i hi=>by have:=hvb i hi;omega)
  exact this)
 have HRUN:=h_ hrun;have hw0s:w0.heap.size=cb + 1:=N0;clear hrun hR0 hvb N0;go_enter func118,ntmps118;go_wp2_with fail;rw [<- HW0.o,<- HCB.o];refine HRUN.mono ?_;rintro e w2 ⟨g,k,x,hk,hg,⟨hO,hp⟩,hsh,rfl⟩;have HB2:=h_ (show Below w.heap.size w w2 from HB0.trans (hO.toBelow (fun j hj=>by have:=HCB.o;omega) (by have:=HCB.o;omega)));have hs2:=hO.size;rcases hp with ⟨rfl,tv,cs,hq,hown,hcs,hrt⟩ | ⟨hx,hrt⟩
 ·have hrl:=zxI l;rw [hrt] at hrl;dsimp only at hrl;rw [za4] at hrl;by_cases hkl:k < l.length
  ·have ht:told l k 0=7:=(by unfold told;rw [if_pos rfl,if_pos hkl]);have HRE:=h_ (show readE l=7 by unfold readE;rw [hrt];exact ht);have HRT:=h_ hrt;rw [ht];clear hO hrt hq hown hsh ht;go_wp2;go_ret3;refine ⟨HB2.o,_,[],by rw [HRT.o,HRE.o];rfl,OwnC.nil _ _,fun c hc=>absurd hc (by simp),by simp,?_⟩;unfold readC;rw [HRE.o];rfl
  have ht:told l k 0=0:=by unfold told;rw [if_pos rfl,if_neg hkl]
  have HRE:=h_ (show readE l=0 by unfold readE;rw [hrt];exact ht);have HRT:=h_ hrt;have HOWN:=h_ (hown.lower (b':=w.heap.size) (by have:=HCB.o;omega));rw [ht];have c0:=cell_of_one hq;clear hO hrt hq hown hsh ht;go_wp2;go_ret3;refine ⟨HB2.o,tv,cs,by rw [HRT.o,HRE.o];rfl,HOWN.o,hcs,hrl,?_⟩;unfold readC;rw [HRE.o,if_pos rfl,HRT.o]
 have ht:told l k x=x:=by unfold told;rw [if_neg hx]
 have HRE:=h_ (show readE l=x by unfold readE;rw [hrt];exact ht);have HRT:=h_ hrt;have hne:((x:Int) != 0)=true:=by rw [bne_iff_ne];omega
 rw [ht];clear hO hrt hsh ht;go_wp2;go_ret3;refine ⟨HB2.o,_,[],by rw [HRT.o,HRE.o];rfl,OwnC.nil _ _,fun c hc=>absurd hc (by simp),by simp,?_⟩;unfold readC;rw [HRE.o,if_neg hx];rfl
