/- -/
import Derived.Test.YtlapgdocpndfiaaGreatDoorUZProgA
import Derived.Lib.LaidTab
import Derived.LaidLaws
import Derived.Deep.Strs
import Derived.Test.YtlapgdocpndfiaaGreatDoorUColCw
set_option maxHeartbeats 16000000
set_option linter.unusedVariables false
set_option linter.unusedSimpArgs false
set_option maxRecDepth 1000000
namespace Go.Proofs.YtlapgdocpndfiaaGreatDoor
open _root_.Go.Proofs.Tryz
open Go.RowKit Go.Shelf
theorem RdP.lit12 {w:World} {v:Value} {ps:List PairB} (h:RdP w v ps):∃ ao n cap,v=.slice ao n cap:=by
 obtain ⟨ts,_,h,_⟩:=h;obtain ⟨ao,cap,e,_⟩:=RdG.shape h;exact ⟨ao,_,cap,e⟩
theorem RdC.lit12 {w:World} {v:Value} {cs:List ColB} (h:RdC w v cs):∃ ao n cap,v=.slice ao n cap:=by
 obtain ⟨ao,cap,e,_⟩:=RdG.shape h;exact ⟨ao,_,cap,e⟩
def Frs (w:World):Prop:=w.cell? ⟨0,0,none⟩=some (.int .i64 2)/\w.cell? ⟨0,1,none⟩=some (.int .i64 1)
theorem Frs.later {w w':World} (h:Frs w) (hb:Below w.heap.size w w'):Frs w':=⟨za5 hb h.1,za5 hb h.2⟩
def RdN (w:World) (v:Value) (x:EntB):Prop:=∃ pv,v=.agg #[.int .i64 x.1,.int .i64 x.2.1,pv]/\RdP w pv x.2.2
theorem zd0 (x:Int) (w:World):Calls prog 130 #[.int .i64 x] w fun e w'=>e=.returned (.bool (!decide (x < 0∨281474976710656 < x)))/\w=w':=by
 by_cases h1:x < 0
 ·have d1:decide (x ≥ 0)=false:=decide_eq_false (by omega);have HE:=h_ (show (!decide (x < 0∨281474976710656 < x))=false from by simp;omega);clear h1;go_enter func130,ntmps130;go_wp2;go_ret;exact ⟨by rw [HE.o];rfl,rfl⟩
 have d1:decide (x ≥ 0)=true:=decide_eq_true (by omega);by_cases h2:281474976710656 < x
 ·have d2:decide (x<=281474976710656)=false:=decide_eq_false (by omega);have HE:=h_ (show (!decide (x < 0∨281474976710656 < x))=false from by simp;omega);clear h1 h2;go_enter func130,ntmps130;go_wp2;go_ret;exact ⟨by rw [HE.o];rfl,rfl⟩
 have d2:decide (x<=281474976710656)=true:=decide_eq_true (by omega);have HE:=h_ (show (!decide (x < 0∨281474976710656 < x))=true from by simp;omega);clear h1 h2;go_enter func130,ntmps130;go_wp2;go_ret;exact ⟨by rw [HE.o];rfl,rfl⟩
theorem zvG (s k:Int) (hs:0<=s/\s<=281474976710656) (w:World):Calls prog 132 #[.int .i64 s,.int .i64 k] w fun e w'=>e=.returned (.int .i64 (if k=1 then s else s + 1))/\w=w':=by
 by_cases h1:k=1
 ·subst h1;rw [if_pos rfl];clear hs;go_enter func132,ntmps132;go_wp2;go_ret;exact ⟨rfl,rfl⟩
 have d1:(k == 1)=false:=by rw [beq_eq_false_iff_ne];exact h1
 rw [if_neg h1];clear h1;go_enter func132,ntmps132;go_wp2;go_ret;exact ⟨rfl,rfl⟩
def zG1 (k:Int) (w:World) (e:Ending) (w':World):Prop:=(∃ x,e=.returned (.tuple #[.int .i64 x,.bool (decide (k=1∨k=2))])/\(k=1∨k=2->x=2 - k))/\w=w'
theorem zhO (k:Int) (w:World) (hF:Frs w):Calls prog 163 #[.int .i64 k] w (zG1 k w):=by
 obtain ⟨f0,f1⟩:=hF;have i0:∀ u,(Instr.index 219 (.agg #[.int .i64 2,.int .i64 1]) (.int .i64 0)).run prog u=.ok (.int .i64 2) u:=fun _=>by kernel_rfl
 have i1:∀ u,(Instr.index 219 (.agg #[.int .i64 2,.int .i64 1]) (.int .i64 1)).run prog u=.ok (.int .i64 1) u:=fun _=>by kernel_rfl
 go_enter func163,ntmps163;go_wp2;go_loopw [7] (fun i wr=>∃ j:Nat,j<=2/\i=.int .i64 j/\w=wr/\Hid ((0 < j->k≠2)/\(1 < j->k≠1))) (fun i _=>2 - (intOf i).toNat)
 case atStart=>exact ⟨0,by omega,rfl,rfl,h_ ⟨by omega,by omega⟩⟩
 obtain ⟨j,hj,rfl,rfl,HH⟩:=hrel;have hjc:j=0∨j=1∨j=2:=by omega
 rcases hjc with rfl | rfl | rfl
 ·rw [show ((0:Nat):Int)=0 from rfl];clear hj;by_cases h1:k=2
  ·subst h1;go_wp2;go_ret2;exact ⟨⟨0,rfl,fun _=>rfl⟩,rfl⟩
  have d1:((2:Int) == k)=false:=by rw [beq_eq_false_iff_ne];exact fun e=>h1 e.symm
  have HN:=h_ h1;clear h1;go_wp2;go_roundw
  case rel=>exact ⟨1,by omega,by simp,by simp,h_ ⟨fun _=>HN.o,by omega⟩⟩
  simp [intOf]
 ·rw [show ((1:Nat):Int)=1 from rfl];clear hj;by_cases h1:k=1
  ·subst h1;go_wp2;go_ret2;exact ⟨⟨1,rfl,fun _=>rfl⟩,rfl⟩
  have d1:((1:Int) == k)=false:=by rw [beq_eq_false_iff_ne];exact fun e=>h1 e.symm
  have HN:=h_ h1;clear h1;go_wp2;go_roundw
  case rel=>exact ⟨2,by omega,by simp,by simp,h_ ⟨fun _=>HH.1 (by omega),fun _=>HN.o⟩⟩
  simp [intOf]
 have h1:=h_ (HH.1 (by omega));have h2:=h_ (HH.2 (by omega));rw [show ((2:Nat):Int)=2 from rfl];clear hj;go_wp2;go_ret2;refine ⟨⟨0,?_,fun h=>?_⟩,rfl⟩
 ·rw [decide_eq_false (by have:=h1.o;have:=h2.o;omega)];rfl
 exfalso;rcases h with h | h
 ·exact h2.o h
 exact h1.o h
theorem za7 (w:World) (o:Obj):(w.alloc o).heap[w.heap.size]?=some o/\Below w.heap.size w (w.alloc o):=⟨heap_alloc_new _ _,(Below.refl _ _).alloc l_ _⟩
def Ebox (w:World) (b:Nat) (kind seq:Int) (pv:Value):Prop:=w.heap[b]?=some (.cells #[.int .i64 kind,.int .i64 seq,pv] 92 (0,0))
theorem Ebox.cells {w:World} {b:Nat} {kind seq:Int} {pv:Value} (h:Ebox w b kind seq pv):w.cell? ⟨b,0,none⟩=some (.int .i64 kind)/\w.cell? ⟨b,1,none⟩=some (.int .i64 seq)/\w.cell? ⟨b,2,none⟩=some pv :=
 ⟨cell_of_row _ _ 0 _ _ _ h,cell_of_row _ _ 1 _ _ _ h,cell_of_row _ _ 2 _ _ _ h⟩
theorem Ebox.later {w w':World} {b:Nat} {kind seq:Int} {pv:Value} (h:Ebox w b kind seq pv) (hb:Below w.heap.size w w'):Ebox w' b kind seq pv :=
 (hb.block b (Array.getElem?_eq_some_iff.1 h).1).trans h
theorem zk2 (sv ev:Value) (cs:List ColB) (x:EntB) (w:World) (hR:RdC w sv cs) (hE:RdN w ev x) (hC:CS cs) (hX:EnO x) (hT:Tabs w) :
  Calls prog 131 #[sv,ev] w fun e w'=>e=.returned (.int .i64 (entE cs x:Nat))/\Below w.heap.size w w':=by
 obtain ⟨kind,seq,ps⟩:=x;obtain ⟨pv,rfl,hP⟩:=hE;obtain ⟨hk,hs,hO⟩:=hX;dsimp only at hP hk hs hO ⊢;obtain ⟨ao,no,co,rfl⟩:=hP.lit12;obtain ⟨N1,N2⟩:=za7 w (.cells #[.int .i64 kind,.int .i64 seq,.slice ao no co] 92);obtain ⟨w0,hw0⟩:=nm_ (w.alloc (.cells #[.int .i64 kind,.int .i64 seq,.slice ao no co] 92));rw [<- hw0] at N1 N2;have SC:=h_ (zaW sv cs w0 (hR.later N2 l_) hC (hT.later N2));have ZC:=h_ (fun wz (hz:Below w.heap.size w wz)=>zd2 sv (.slice ao no co) cs ps wz (hR.later hz l_) (hP.later hz l_) hC hO (hT.later hz));obtain ⟨g,hg⟩:=nm_ w.heap.size;rw [<- hg] at N1;have HE0:=h_ (show Ebox w0 g kind seq (.slice ao no co) from N1);have HB0:=h_ N2;have HW0:=h_ hw0;have HG:=h_ hg;obtain ⟨E,hE⟩:=nm_ (errS (colsL cs));obtain ⟨R,hRR⟩:=nm_ (entE cs (kind,seq,ps));rw [<- hE] at SC;rw [<- hRR];unfold entE at hRR;dsimp only at hRR;rw [<- hE] at hRR;clear hR hP hC hO hT N1 N2 hw0 hg hE;by_cases hE0:E=0
 ·subst hE0;rw [if_neg (by simp)] at hRR;by_cases h1:kind < 0∨1 < kind
  ·rw [if_pos h1] at hRR;subst hRR;have hd:(decide (kind < 0)=true)∨(decide (kind < 0)=false/\decide (kind ≥ 2)=true):=by
    by_cases h:kind < 0
    ·exact .inl (decide_eq_true h)
    exact .inr ⟨decide_eq_false h,decide_eq_true (by omega)⟩
   clear h1 ZC;rcases hd with d1 | ⟨d1,d2⟩
   all_goals (
    go_enter func131,ntmps131
    go_wp2_with fail
    rw [<- HW0.o,<- HG.o]
    refine SC.mono ?_
    rintro e w1 ⟨rfl,hb⟩
    have HB1:=bT HB0 hb
    obtain ⟨c0,c1,c2⟩:=(HE0.later hb).cells
    clear hb SC HE0
    go_wp2
    go_ret
    exact ⟨rfl,HB1.o⟩)
  rw [if_neg h1] at hRR;have d1:decide (kind < 0)=false:=decide_eq_false (by omega);have d2:decide (kind ≥ 2)=false:=decide_eq_false (by omega);clear h1;by_cases h2:seq < 0∨281474976710656 < seq
  ·rw [if_pos h2] at hRR;subst hRR;have IN:=h_ (fun wz=>zd0 seq wz);rw [decide_eq_true h2] at IN;clear h2 ZC;go_enter func131,ntmps131;go_wp2_with fail;rw [<- HW0.o,<- HG.o];refine SC.mono ?_;rintro e w1 ⟨rfl,hb⟩;have HB1:=bT HB0 hb;obtain ⟨c0,c1,c2⟩:=(HE0.later hb).cells;clear hb SC HE0;go_wp2_with fail;refine (IN.o w1).mono ?_;rintro e w2 ⟨rfl,rfl⟩;go_wp2;go_ret;exact ⟨rfl,HB1.o⟩
  rw [if_neg h2] at hRR;have IN:=h_ (fun wz=>zd0 seq wz);rw [decide_eq_false h2] at IN;rw [<- hRR] at ZC;clear h2 hRR;go_enter func131,ntmps131;go_wp2_with fail;rw [<- HW0.o,<- HG.o];refine SC.mono ?_;rintro e w1 ⟨rfl,hb⟩;have HB1:=bT HB0 hb;obtain ⟨c0,c1,c2⟩:=(HE0.later hb).cells;clear hb SC HE0;go_wp2_with fail;refine (IN.o w1).mono ?_;rintro e w2 ⟨rfl,rfl⟩;go_wp2_with fail;refine (ZC.o w1 HB1.o).mono ?_;rintro e w3 ⟨rfl,hb⟩;have HB3:=bT HB1 hb;clear hb;go_wp2;go_ret;exact ⟨rfl,HB3.o⟩
 rw [if_pos hE0] at hRR;subst hRR;have q:((R:Int) != 0)=true:=by rw [bne_iff_ne];omega
 clear hE0 ZC;go_enter func131,ntmps131;go_wp2_with fail;rw [<- HW0.o,<- HG.o];refine SC.mono ?_;rintro e w1 ⟨rfl,hb⟩;have HB1:=bT HB0 hb;clear hb SC HE0;go_wp2;go_ret;exact ⟨rfl,HB1.o⟩
/- -/
open Go.ChangeShapes Go.WideShapes Go.ChangeAt Go.Deep
theorem zyX {W : World} (h : Lib.VarReads prog W "deckle/entry.frames" Rows.laid_deckle_entry_frames) : Frs W := by
 have e:(Rows.laid_deckle_entry_frames:DataW Unit)=Lib.tabData .i64 [2,1]:=by kernel_rfl
 rw [e] at h;obtain ⟨g',t',cs,fuel,p,hg',ht',hvar,hd⟩:=h;have hg : prog.globalNamed "deckle/entry.frames" = some 0 := by kernel_rfl
 have hty:(prog.globals[0]?).map (·.type)=some 219:=by kernel_rfl
 obtain rfl:=Option.some.inj (hg.symm.trans hg');obtain rfl:=Option.some.inj (hty.symm.trans ht');have hT : Lib.TabIs prog W "deckle/entry.frames" .i64 [2, 1] := by
  unfold Lib.TabIs;rw [hvar,<- Lib.cells_of_tab (n:=2) (e:=3) (by kernel_rfl) (by kernel_rfl) (by kernel_rfl) (by kernel_rfl) hd]
 exact ⟨hT.cell (g:=0) (by kernel_rfl) 0 (by decide),hT.cell (g:=0) (by kernel_rfl) 1 (by decide)⟩
section
variable {H:Type} {enc:TypeId × Value->H} {W:World}
end
/- -/
theorem zeC (nf:Nat) (hnf:∀ (args:Array Value) (u:World),(callFunc nf args).run prog u=.ok (.enter nf args) u) (fit:Bs->Bool) (g:Nat) (v:Value) (l:Bs) (k0:Nat) (n:Nat) (w:World) (kind:Int) (hk:kind=3∨kind=4)
  (hfit:∀ t,fit t=true ↔ ¬ (kind=4/\utf8 t=false)) (hR:Rdr w g v l k0) (hn:n<=1024)
  (hf:∀ wz s t,Only (fun j=>j=g) w wz->RdS s t->Calls prog nf #[.string s] wz fun e w'=>e=.returned (.bool (fit t))/\Below wz.heap.size wz w') :
  Calls prog 274 #[.pointer (some ⟨g,0,none⟩),.int .i64 (n:Int),.func (.func nf) #[] #[]] w (Took9 w g v l (rdN l kind n (0,[]) [] k0)):=by
 obtain ⟨R,hRR⟩:=nm_ (rdN l kind n (0,[]) [] k0);rw [<- hRR];have HRR:=h_ hRR;have HG:=h_ hR.lt;have HVB:=h_ (fun i (hi:i < l.length)=>hR.rd.block hi);have HO0:=h_ (Only.refl (fun j=>j=g) w);have HR0:=h_ hR;have HK:=h_ hk;have HF:=h_ hf;have HFt:=h_ hfit;clear hRR hR hk hf hfit;go_enter func274,ntmps274;go_wp2;go_loopw [7,8,10] (fun b a i wr=>∃ (j k:Nat) (cs:List CellB) (ps:ByteArray) (pl:Bs),j<=n/\i=.int .i64 j/\a=.string ps/\Hid (RdS ps pl/\pl.length<=256)/\Hid (cs.length=j)/\Hid (Only (fun j=>j=g) w wr)/\Hid (Rdr wr g v l k)/\Hid (OwnE wr w.heap.size b cs)/\Hid (CES cs)/\Hid (R=rdN l kind (n - j) (0,pl) (cesL cs) k)) (fun _ _ i _=>n - (intOf i).toNat)
 case atStart=>exact ⟨0,k0,[],_,[],by omega,rfl,rfl,h_ ⟨⟨rfl,by simp⟩,by simp⟩,h_ rfl,HO0,HR0,h_ (OwnE.nil _ _),h_ CES.nil,HRR⟩
 clear HO0 HR0 HRR;obtain ⟨j,k,cs,ps,pl,hj,rfl,rfl,HP,HL,HO,HR,HW,HC,HE⟩:=hrel;by_cases hlt:j < n
 ·have d1:decide ((j:Int) < (n:Int))=true:=decide_eq_true (by omega);have hkl:=HR.le;have hsl:=HR.rd.small;have hrd:=zDL (l:=l) (i:=cs.length) (k:=k) (p:=(0,pl)) HK.o;have hts:=zAW (l:=l) (k:=k) hkl HP.2;have CN:=h_ (zk6 g v l k wr HR.o ps pl HP.1 HP.2);dsimp only at hrd;rcases hr:rdT l pl k with ⟨t,k1,x1⟩
  rw [hr] at hrd hts CN;dsimp only at hrd hts;have HRD:=h_ hrd;have HNx:=h_ (show R=rdN l kind ((n - (j + 1)) + 1) (0,pl) (cesL cs) k from by rw [HE.o,show n - j=(n - (j + 1)) + 1 from by omega]);clear hrd hr hkl;go_wp2_with fail;refine CN.mono ?_;rintro e w1 ⟨hg1,⟨hx,s,rfl,hs,hR1⟩ | ⟨hx,rfl,hEn⟩⟩
  ·dsimp only at hx hs hR1;subst hx;have HO1:=h_ (HO.grown hg1 rfl);have HR1:=h_ hR1;have HW1:=h_ (HW.grown hg1 (fun q hq=>by have:=(OwnE.lt HW.o hq).1;have:=HG.o;intro e;injection e with e;omega));have HS:=h_ hs;have hent:=hnf #[.string s];clear hg1 hR1 hs HO HR HW CN;go_wp2_with fail;refine (HF.o w1 s t HO1.o HS.o).mono ?_;rintro e w2 ⟨rfl,hb⟩;have HO2:=h_ (HO1.below hb l_);have HR2:=h_ (HR1.later hb l_);have HW2:=h_ (HW1.later hb l_);clear hb HO1 HR1 HW1 hent;by_cases hu:kind=4/\utf8 t=false
   ·have hfa:fit t=false:=by
     cases h:fit t with
     | false=>rfl
     | true=>exact absurd hu ((HFt.o t).1 h)
    rw [hfa];have hF:R=([],k1,11):=by
     rw [HNx.o];exact zn0 (c:=(0,[])) (by rw [za8,HRD.o,if_neg (by simp),if_pos hu]) (by decide)
    have HFF:=h_ hF;clear hfa hF hu;go_wp2_with fail;refine (zaB g v l k1 w2 HR2.o 11 (by decide)).mono ?_;rintro e w3 ⟨rfl,hg3,hE3⟩;have HFin:=h_ (show Took9 w g v l R (.panicked [{ v:=zaR g 11,recovered:=false }]) w3 from ⟨HO2.grown hg3 rfl,.inr ⟨by rw [HFF.o];show (11:Nat)≠0;decide,by rw [HFF.o],by rw [HFF.o];exact hE3⟩⟩);clear hg3 hE3;go_wp2;exact ⟨rfl,HFin.o⟩
   rw [(HFt.o t).2 hu];have hs1:rd1 l kind (cesL cs).length (0,pl) k=((0,t),k1,0):=(by rw [za8,HRD.o,if_neg (by simp),if_neg hu]);have HS1:=h_ hs1;have hsz:s.size<=256:=(by rw [HS.size9];exact hts);clear hu hs1;go_wp2_with fail;refine (zaD _ _ _).mono ?_;rintro e w3 ⟨rfl,rfl⟩;have HB7:=h_ (show Below w.heap.size w2 (w2.alloc (.cells #[.int .u64 0,.string s] 82)) from (Below.refl _ _).alloc HO2.size _);have h1c:=h_ (show ∀ j z,(cellVs (0,s))[j]?=some z->(w2.alloc (.cells #[.int .u64 0,.string s] 82)).cell? (Addr.add ⟨w2.heap.size,0,none⟩ j)=some z from zcM w2 (0,s));have HW7:=h_ (HW2.alloc (.cells #[.int .u64 0,.string s] 82));go_wp2_with (with_reducible refine zcK w.heap.size _ ?hs HW7.o ⟨w2.heap.size,0,none⟩ (0,s) ?hx h1c.o ?hn ?hbase w.heap.size w2 HB7.o l_ ?_)
   case hs=>rfl
   case hx=>rfl
   case hn=>rw [HL.o];omega
   case hbase=>rw [World.size_alloc];have:=HO2.size;omega
   intro v8 w8 hW8 hB8 hg8;have hta:=zf6 HG.o HVB.o HO2.o HR2.o HW2.o hB8;have HO8:=h_ hta.1;have HR8:=h_ hta.2;have HW8:=h_ hW8;have HC8:=h_ (HC.snoc (c:=(0,s)) ⟨by show (0:Nat) < 18446744073709551616;decide,by dsimp only;omega⟩);have HL8:=h_ (show (cs ++ [((0,s):CellB)]).length=j + 1 by rw [List.length_append,List.length_singleton,HL.o])
   have HK8:=h_ (show R=rdN l kind (n - (j + 1)) (0,t) (cesL (cs ++ [((0,s):CellB)])) k1 from by
    rw [HNx.o,zt7 HS1.o,zeT]
    unfold ceL
    rw [HS.dl])
   have HP8:=h_ (show RdS s t/\t.length<=256 from ⟨HS.o,hts⟩);clear hta hW8 hB8 hg8 HO2 HR2 HW2 HB7 HW7 hsz h1c;go_wp2;go_roundw
   case rel=>exact ⟨j + 1,k1,_,s,t,by omega,by go_num,rfl,HP8,HL8,HO8,HR8,HW8,HC8,HK8⟩
   simp [intOf];omega
  dsimp only at hx hEn ⊢;have hF:R=([],k1,x1):=by
   rw [HNx.o];exact zn0 (c:=(0,[])) (by rw [za8,HRD.o,if_pos hx]) hx
  have HFin:=h_ (show Took9 w g v l R (.panicked [{ v:=zaR g x1,recovered:=false }]) w1 from ⟨HO.grown hg1 rfl,.inr ⟨by rw [hF];exact hx,by rw [hF],by rw [hF];exact hEn⟩⟩);clear hg1 hEn hF;go_wp2;exact ⟨rfl,HFin.o⟩
 obtain rfl:j=n:=by omega
 have d1:decide ((j:Int) < (j:Int))=false:=decide_eq_false (by omega);have hF:R=(cesL cs,k,0):=by rw [HE.o,Nat.sub_self,rdN]
 have HFin:=h_ (show Took9 w g v l R (.returned u7) wr from ⟨HO.o,.inl ⟨by rw [hF],u7,cs,rfl,HW.o,HC.o,by rw [hF],by rw [hF];exact HR.o⟩⟩);clear hF hlt;go_wp2;go_ret;exact HFin.o
theorem znJ (args:Array Value) (u:World):(callFunc 275 args).run prog u=.ok (.enter 275 args) u:=zcO func275 (by kernel_rfl) rfl args u
theorem zpU (args:Array Value) (u:World):(callFunc 255 args).run prog u=.ok (.enter 255 args) u:=zcO func255 (by kernel_rfl) rfl args u
theorem znR (v:Value) (w:World):Calls prog 275 #[v] w fun e w'=>e=.returned (.bool true)/\Below w.heap.size w w':=by
 go_enter func275,ntmps275;go_wp2;go_ret;exact ⟨rfl,Below.refl _ _⟩
theorem zi5 (g:Nat) (v:Value) (l:Bs) (k:Nat) (n:Nat) (w:World) (hR:Rdr w g v l k) (hn:n<=1024) :
  Calls prog 264 #[.pointer (some ⟨g,0,none⟩),.int .i64 (n:Int)] w (Took9 w g v l (rdN l 3 n (0,[]) [] k)):=by
 have HA:=h_ (zeC _ znJ (fun _=>true) g v l k n w 3 (.inl rfl) (fun t=>⟨fun _ h=>absurd h.1 (by decide),fun _=>rfl⟩) hR hn (fun wz s t _ _=>znR _ wz));clear hR;go_enter func264,ntmps264;go_wp2_with fail;refine HA.mono ?_;rintro e w1 ⟨hO,⟨hx,tv,cs,rfl,h1,h2,h3,h4⟩ | ⟨hx,rfl,hE⟩⟩
 ·have HF:=h_ (show Took9 w g v l (rdN l 3 n (0,[]) [] k) (.returned tv) w1 from ⟨hO,.inl ⟨hx,tv,cs,rfl,h1,h2,h3,h4⟩⟩);clear hO hx h1 h2 h3 h4 HA;go_wp2;go_ret;exact HF.o
 have HF:=h_ (show Took9 w g v l (rdN l 3 n (0,[]) [] k) (.panicked [{ v:=zaR g (rdN l 3 n (0,[]) [] k).2.2,recovered:=false }]) w1 from ⟨hO,.inr ⟨hx,rfl,hE⟩⟩);clear hO hx hE HA;go_wp2;exact ⟨rfl,HF.o⟩
theorem zi4 (g:Nat) (v:Value) (l:Bs) (k:Nat) (n:Nat) (w:World) (hR:Rdr w g v l k) (hn:n<=1024) (hT:Tabs w) (hg:zcA<=g) :
  Calls prog 265 #[.pointer (some ⟨g,0,none⟩),.int .i64 (n:Int)] w (Took9 w g v l (rdN l 4 n (0,[]) [] k)):=by
 have hgl:=hR.lt
 have HA:=h_ (zeC _ zpU utf8 g v l k n w 4 (.inr rfl) (fun t=>⟨fun h h2=>by rw [h] at h2;exact absurd h2.2 (by decide),fun h=>by cases hu:utf8 t with
   | true=>rfl
   | false=>exact absurd ⟨rfl,hu⟩ h⟩) hR hn (fun wz s t hO hs=>zpB s t wz hs (zfY hT (fun j hj=>hO.block j (by omega) (by omega)))))
 clear hR;go_enter func265,ntmps265;go_wp2_with fail;refine HA.mono ?_;rintro e w1 ⟨hO,⟨hx,tv,cs,rfl,h1,h2,h3,h4⟩ | ⟨hx,rfl,hE⟩⟩
 ·have HF:=h_ (show Took9 w g v l (rdN l 4 n (0,[]) [] k) (.returned tv) w1 from ⟨hO,.inl ⟨hx,tv,cs,rfl,h1,h2,h3,h4⟩⟩);clear hO hx h1 h2 h3 h4 HA;go_wp2;go_ret;exact HF.o
 have HF:=h_ (show Took9 w g v l (rdN l 4 n (0,[]) [] k) (.panicked [{ v:=zaR g (rdN l 4 n (0,[]) [] k).2.2,recovered:=false }]) w1 from ⟨hO,.inr ⟨hx,rfl,hE⟩⟩);clear hO hx hE HA;go_wp2;exact ⟨rfl,HF.o⟩
/- -/
def takeE (kind n:Int):Nat:=if kind < 0∨5 < kind then 10 else if n < 0∨1024 < n then 3 else 0
theorem zi7 (kind n:Int) (w:World) (hT:Tabs w) :
  Calls prog 248 #[.int .i64 kind,.int .i64 n] w fun e w'=>e=.returned (.int .i64 (takeE kind n:Nat))/\Below w.heap.size w w':=by
 have CKd:=h_ (zdX kind w hT);by_cases hk:kind < 0∨5 < kind
 ·rw [if_pos hk] at CKd;rw [show takeE kind n=10 from by unfold takeE;rw [if_pos hk]];clear hk hT;go_enter func248,ntmps248;go_wp2_with fail;refine CKd.mono ?_;rintro e w1 ⟨rfl,hb⟩;have HB:=h_ hb;clear hb CKd;go_wp2;go_ret;exact ⟨rfl,HB.o⟩
 rw [if_neg hk] at CKd;by_cases h1:n < 0
 ·have d1:decide (n < 0)=true:=decide_eq_true h1;rw [show takeE kind n=3 from by unfold takeE;rw [if_neg hk,if_pos (.inl h1)]];clear hk h1 hT;go_enter func248,ntmps248;go_wp2_with fail;refine CKd.mono ?_;rintro e w1 ⟨rfl,hb⟩;have HB:=h_ hb;clear hb CKd;go_wp2;go_ret;exact ⟨rfl,HB.o⟩
 have d1:decide (n < 0)=false:=decide_eq_false h1;by_cases h2:1024 < n
 ·have d2:decide (n > 1024)=true:=decide_eq_true h2;rw [show takeE kind n=3 from by unfold takeE;rw [if_neg hk,if_pos (.inr h2)]];clear hk h1 h2 hT;go_enter func248,ntmps248;go_wp2_with fail;refine CKd.mono ?_;rintro e w1 ⟨rfl,hb⟩;have HB:=h_ hb;clear hb CKd;go_wp2;go_ret;exact ⟨rfl,HB.o⟩
 have d2:decide (n > 1024)=false:=decide_eq_false h2;rw [show takeE kind n=0 from by unfold takeE;rw [if_neg hk,if_neg (by omega)]];clear hk h1 h2 hT;go_enter func248,ntmps248;go_wp2_with fail;refine CKd.mono ?_;rintro e w1 ⟨rfl,hb⟩;have HB:=h_ hb;clear hb CKd;go_wp2;go_ret;exact ⟨rfl,HB.o⟩
theorem zpY (kind n:Int) (h0:takeE kind n=0) (g:Nat) (v:Value) (l:Bs) (k:Nat) (w:World) (hR:Rdr w g v l k) (hT:Tabs w) (hg:zcA<=g) :
  Calls prog (codecT kind) #[.pointer (some ⟨g,0,none⟩),.int .i64 n] w (Took9 w g v l (rdK l kind n k)):=by
 unfold takeE at h0;have hk:0<=kind/\kind<=5:=by
  by_cases h:kind < 0∨5 < kind
  ·rw [if_pos h] at h0;cases h0
  omega
 rw [if_neg (by omega)] at h0;have hn:0<=n/\n<=1024:=by
  by_cases h:n < 0∨1024 < n
  ·rw [if_pos h] at h0;cases h0
  omega
 obtain ⟨m,rfl⟩:∃ m:Nat,n=(m:Int):=⟨n.toNat,by omega⟩;unfold rdK;rw [if_neg (by omega),if_neg (by omega),Int.toNat_natCast];obtain rfl | rfl | rfl | rfl | rfl | rfl:kind=0∨kind=1∨kind=2∨kind=3∨kind=4∨kind=5:=by omega
 ·exact zk7 g v l k m w hR (by omega)
 ·exact zdV 1 (.inl rfl) g v l k m w hR (by omega)
 ·exact zi6 g v l k m w hR (by omega)
 ·exact zi5 g v l k m w hR (by omega)
 ·exact zi4 g v l k m w hR (by omega) hT hg
 exact zdV 5 (.inr rfl) g v l k m w hR (by omega)
theorem zCN {l:Bs} {kind n:Int} {k:Nat} (h:takeE kind n≠0):rdK l kind n k=([],k,takeE kind n):=by
 unfold takeE at h ⊢;unfold rdK;by_cases h1:kind < 0∨5 < kind
 ·rw [if_pos h1,if_pos h1]
 rw [if_neg h1] at h ⊢;rw [if_neg h1];by_cases h2:n < 0∨1024 < n
 ·rw [if_pos h2,if_pos h2]
 rw [if_neg h2] at h;exact absurd rfl h
theorem zs0 (kind n:Int) (g:Nat) (v:Value) (l:Bs) (k:Nat) (w:World) (hR:Rdr w g v l k) (hT:Tabs w) (hg:zcA<=g) :
  Calls prog 217 #[.pointer (some ⟨g,0,none⟩),.int .i64 kind,.int .i64 n] w (Took9 w g v l (rdK l kind n k)):=by
 have CT:=h_ (zi7 kind n w hT);have HR:=h_ hR;have HT:=h_ hT;have HG:=h_ hg;obtain ⟨R,hRR⟩:=nm_ (rdK l kind n k);rw [<- hRR];have HRR:=h_ hRR;clear hR hT hg hRR;by_cases h0:takeE kind n=0
 ·have hkd:0<=kind/\kind<=5:=by
   unfold takeE at h0;by_cases h:kind < 0∨5 < kind
   ·rw [if_pos h] at h0;cases h0
   omega
  have HKd:=h_ hkd;have H0:=h_ h0;rw [h0] at CT;obtain ⟨nf,hnf⟩:=nm_ (codecT kind);have hent:=znI kind #[.pointer (some ⟨g,0,none⟩),.int .i64 n];rw [<- hnf] at hent;have HNF:=h_ hnf;obtain ⟨nw,hnw⟩:=nm_ (codecW kind);have HNW:=h_ hnw;have hfd:∀ u,(Instr.field 318 (.agg #[.func (.func nw) #[] #[],.func (.func nf) #[] #[]]) 1).run prog u=.ok (.func (.func nf) #[] #[]) u:=fun _=>by kernel_rfl
  clear hkd h0 hnf hnw;go_enter func217,ntmps217;go_wp2_with fail;refine CT.mono ?_;rintro e w1 ⟨rfl,hb⟩;have HB1:=h_ hb;clear hb CT;have CD:=h_ (zf0 kind HKd.o w1);rw [<- HNF.o,<- HNW.o] at CD;go_wp2_with fail;refine CD.mono ?_;rintro e w2 ⟨rfl,hb⟩;have HB2:=bT HB1 hb;have CK:=h_ (zpY kind n H0.o g v l k w2 (HR.later HB2.o l_) (HT.later HB2.o) HG.o);rw [<- HNF.o,<- HRR.o] at CK;clear hb CD HB1;go_wp2_with fail;refine CK.mono ?_;rintro e w3 ⟨hO,⟨hx,tv,cs,rfl,h1,h2,h3,h4⟩ | ⟨hx,rfl,hE⟩⟩
  ·have HF:=h_ (show Took9 w g v l R (.returned tv) w3 from ⟨((Only.refl _ w).below HB2.o l_).trans hO,.inl ⟨hx,tv,cs,rfl,h1.lower HB2.size,h2,h3,h4⟩⟩);clear hO hx h1 h2 h3 h4 CK hent hfd;go_wp2;go_ret;exact HF.o
  have HF:=h_ (show Took9 w g v l R (.panicked [{ v:=zaR g R.2.2,recovered:=false }]) w3 from ⟨((Only.refl _ w).below HB2.o l_).trans hO,.inr ⟨hx,rfl,hE⟩⟩);clear hO hx hE CK hent hfd;go_wp2;exact ⟨rfl,HF.o⟩
 have hF:=zCN (l:=l) (k:=k) h0;obtain ⟨y,hy⟩:=nm_ (takeE kind n);rw [<- hy] at CT hF h0;have hyb:((y:Int) != 0)=true:=by rw [bne_iff_ne];omega
 have HF:=h_ (HRR.trans hF);have HY0:=h_ h0;clear h0 hF hy;go_enter func217,ntmps217;go_wp2_with fail;refine CT.mono ?_;rintro e w1 ⟨rfl,hb⟩;have HB1:=h_ hb;clear hb CT;go_wp2_with fail;refine (zaB g v l k w1 (HR.later HB1.o l_) y HY0.o).mono ?_;rintro e w3 ⟨rfl,hg3,hE3⟩;have HFin:=h_ (show Took9 w g v l R (.panicked [{ v:=zaR g y,recovered:=false }]) w3 from ⟨((Only.refl _ w).below HB1.o l_).grown hg3 rfl,.inr ⟨by rw [HF.o];exact HY0.o,by rw [HF.o],by rw [HF.o];exact hE3⟩⟩);clear hg3 hE3;go_wp2;exact ⟨rfl,HFin.o⟩
