/- -/
import Derived.Test.YtlapgdocpndfiaaGreatDoorUColWo
import Derived.Orders
import Derived.Deep.RegionWith
set_option maxHeartbeats 16000000
set_option linter.unusedVariables false
set_option linter.unusedSimpArgs false
set_option maxRecDepth 1000000
namespace Go.Proofs.YtlapgdocpndfiaaGreatDoor
open _root_.Go.Proofs.Tryz
open Go.RowKit
theorem Only.far9 {S:Nat->Prop} {a b c:World} {r:Option Nat} (h:Only S a b) (k:b.grownBy c r) (hm:∀ q,r=some q->a.heap.size<=q):Only S a c :=
 ⟨k.os.trans h.os,k.tape.trans h.tape,k.output.trans h.output,Nat.le_trans h.size k.size,fun j h1 h2=>(k.block j (Nat.lt_of_lt_of_le h1 h.size) (fun e=>by have:=hm j e.symm;omega)).trans (h.block j h1 h2)⟩
theorem Only.trans9 {S T:Nat->Prop} {a b c:World} (h:Only S a b) (k:Only T b c) (hT:∀ j,j < a.heap.size->T j->S j):Only S a c :=
 ⟨k.os.trans h.os,k.tape.trans h.tape,k.output.trans h.output,Nat.le_trans h.size k.size,fun j h1 h2=>(k.block j (Nat.lt_of_lt_of_le h1 h.size) (fun hj=>h2 (hT j h1 hj))).trans (h.block j h1 h2)⟩
def lenV9:Value->Nat
 | .slice _ n _=>n
 | _=>0
theorem OwnE.lenV9 {w:World} {base:Nat} {v:Value} {cs:List CellB} (h:OwnE w base v cs):lenV9 v=cs.length:=by
 rcases h.1.2 with ⟨rfl,hn⟩ | ⟨g,cap,cur,rfl,_⟩
 ·rw [List.length_map] at hn;exact hn.symm
 show (cs.map cellVs).length=_;rw [List.length_map]
theorem zeT (cs:List CellB) (c:CellB):cesL (cs ++ [c])=cesL cs ++ [ceL c]:=by unfold cesL;simp
theorem CES.snoc {cs:List CellB} (h:CES cs) {c:CellB} (hc:ceS c):CES (cs ++ [c]):=by
 intro x hx;rcases List.mem_append.1 hx with hx | hx
 ·exact h x hx
 rw [List.mem_singleton.1 hx];exact hc
theorem CES.nil:CES []:=fun c hc=>absurd hc (by simp)
def Took9 (w0:World) (g:Nat) (v:Value) (l:Bs) (R:List Ce × Nat × Nat) (e:Ending) (w':World):Prop :=
 Only (fun j=>j=g) w0 w'/\((R.2.2=0/\∃ tv cs,e=.returned tv/\OwnE w' w0.heap.size tv cs/\CES cs/\cesL cs=R.1/\Rdr w' g v l R.2.1) ∨
  (R.2.2≠0/\e=.panicked [{ v:=zaR g R.2.2,recovered:=false }]/\zi9 w' g v l R.2.1 R.2.2))
theorem zcO {f : FuncId} {fn : Func} {c : Code} (hf : prog.funcs[f]? = some fn) (hname : (fn.name == "runtime.NumGoroutine") = false) (hb : fn.body = some c) (args : Array Value) (u : World) : (callFunc f args).run prog u = .ok (.enter f args) u := by
 have h1 : fn.name ≠ "runtime.NumGoroutine" := by simpa using hname
 simp [callFunc,hf,h1,hb,mark]
theorem ztT {G:Prop} {a:Act} {w:World} (h:G) (_:wpAny prog .any #[] (fun _ _ _=>True) 0 #[] a w):G:=h
theorem zf6 {w0 w w':World} {g:Nat} {v:Value} {l:Bs} {k:Nat} {sv:Value} {cs:List CellB} (hg:g < w0.heap.size) (hvb:∀ i,i < l.length->(adr v i).block < w0.heap.size) (hO:Only (fun j=>j=g) w0 w) (hR:Rdr w g v l k)
  (hW:OwnE w w0.heap.size sv cs) (hb:Below w0.heap.size w w'):Only (fun j=>j=g) w0 w'/\Rdr w' g v l k :=
 ⟨⟨hb.os.trans hO.os,hb.tape.trans hO.tape,hb.output.trans hO.output,Nat.le_trans hO.size hb.size,fun j h1 h2=>(hb.block j h1).trans (hO.block j h1 h2)⟩,
  hR.same (hb.block g hg) (fun i hi=>hb.block _ (hvb i hi))⟩
/- -/
theorem zzS (p y:Nat):IntKind.u64.wrap ((p:Int) + IntKind.u64.wrap (zag y))=(addZ p y:Int):=by
 rw [IntKind.wrap_u64,IntKind.wrap_u64];unfold addZ;omega
theorem zdW (w0:World) (g:Nat) (v:Value) (l:Bs) (k0:Nat) (bv:Value) (acc:List CellB) (a0:Nat) (ha0:a0 < 18446744073709551616) (n:Nat) (w:World) (kind:Int) (ht:¬ (kind=3∨kind=4)) (hz:acc.length≠0∨kind=0)
  (hg:g < w0.heap.size) (hvb:∀ i,i < l.length->(adr v i).block < w0.heap.size) (hO:Only (fun j=>j=g) w0 w) (hR:Rdr w g v l k0) (hW:OwnE w w0.heap.size bv acc) (hC:CES acc) (hn:acc.length + n<=1024) :
  Calls prog 272 #[.pointer (some ⟨g,0,none⟩),bv,.int .u64 (a0:Int),.int .i64 (n:Int)] w (Took9 w0 g v l (rdN l kind n (a0,[]) (cesL acc) k0)):=by
 obtain ⟨R,hRR⟩:=nm_ (rdN l kind n (a0,[]) (cesL acc) k0);rw [<- hRR];have HRR:=h_ hRR;have hn9:n<=1024:=by omega
 have HG:=h_ hg;have HVB:=h_ hvb;have HO0:=h_ hO;have HR0:=h_ hR;have HW0:=h_ hW;have HC0:=h_ hC;have HN:=h_ hn;have HZ:=h_ hz;have HT:=h_ ht;clear hg hvb hO hR hW hC hn hRR hz ht;go_enter func272,ntmps272;go_wp2;go_loopw [1,2,10] (fun b a i wr=>∃ (j px k:Nat) (cs:List CellB),j<=n/\i=.int .i64 j/\a=.int .u64 (px:Int)/\Hid (px < 18446744073709551616)/\Hid (cs.length=acc.length + j)/\Hid (Only (fun j=>j=g) w0 wr)/\Hid (Rdr wr g v l k)/\Hid (OwnE wr w0.heap.size b cs)/\Hid (CES cs)/\Hid (R=rdN l kind (n - j) (px,[]) (cesL cs) k)) (fun _ _ i _=>n - (intOf i).toNat)
 case atStart=>exact ⟨0,a0,k0,acc,by omega,rfl,rfl,h_ ha0,h_ rfl,HO0,HR0,HW0,HC0,HRR⟩
 clear HO0 HR0 HW0 HC0 HRR ha0;obtain ⟨j,px,k,cs,hj,rfl,rfl,HP,HL,HO,HR,HW,HC,HK⟩:=hrel;by_cases hlt:j < n
 ·have d1:decide ((j:Int) < (n:Int))=true:=decide_eq_true (by omega);go_wp2_with fail;refine (zlL g v l k wr HR.o).mono ?_;intro e w1 hu;by_cases hx:(rdU l k 18446744073709551615).2.2=0
  ·obtain ⟨rfl,hg1,hR1⟩:=hu.ok hx;have hs1:=zAZ (i:=cs.length) (p:=(px,[])) HT.o (by have:=HZ.o;have:=HL.o;omega) hx;obtain ⟨y,hy⟩:=nm_ ((rdU l k 18446744073709551615).1);obtain ⟨k1,hk1⟩:=nm_ ((rdU l k 18446744073709551615).2.1);rw [<- hk1] at hR1;rw [<- hy,<- hk1] at hs1;rw [<- hy];have hw:=zzS px y;obtain ⟨q,hq⟩:=nm_ (addZ px y);have hql:q < 18446744073709551616:=(by rw [hq];exact zsD _ _);dsimp only at hs1;rw [<- hq] at hw hs1;have HS1:=h_ hs1;have HQL:=h_ hql;have HO1:=h_ (HO.grown hg1 rfl);have HR1:=h_ hR1;have HW1:=h_ (HW.grown hg1 (fun q hq=>by have:=(OwnE.lt HW.o hq).1;have:=HG.o;intro e;injection e with e;omega));obtain ⟨z,hz⟩:=nm_ (zag y);rw [<- hz] at hw ⊢;clear hu hx hy hk1 hs1 hq hql hz hg1 hR1 HO HR HW;have HB7:=h_ (show Below w0.heap.size w1 (w1.alloc (.cells #[.int .u64 (q:Int),.string ⟨#[]⟩] 82)) from (Below.refl _ _).alloc HO1.size _);have HW7:=h_ (HW1.alloc (.cells #[.int .u64 (q:Int),.string ⟨#[]⟩] 82));go_wp2_with (with_reducible refine zcK w0.heap.size _ ?hs HW7.o ⟨w1.heap.size,0,none⟩ (q,⟨#[]⟩) ?hx (zcM w1 (q,⟨#[]⟩)) ?hn ?hbase w0.heap.size w1 HB7.o l_ ?_)
   case hs=>rfl
   case hx=>rfl
   case hn=>rw [HL.o];have:=HN.o;omega
   case hbase=>rw [World.size_alloc];have:=HO1.size;omega
   intro v8 w8 hW8 hB8 hg8;have hta:=zf6 HG.o HVB.o HO1.o HR1.o HW1.o hB8;have HO8:=h_ hta.1;have HR8:=h_ hta.2;have HW8:=h_ hW8;have HC8:=h_ (HC.snoc (c:=(q,⟨#[]⟩)) ⟨HQL.o,by show (ByteArray.size ⟨#[]⟩)<=140737488351232;decide⟩);have HL8:=h_ (show (cs ++ [((q,⟨#[]⟩):CellB)]).length=acc.length + (j + 1) by rw [List.length_append,List.length_singleton,HL.o];omega)
   have HK8:=h_ (show R=rdN l kind (n - (j + 1)) (q,[]) (cesL (cs ++ [((q,⟨#[]⟩):CellB)])) k1 from by
    rw [HK.o,show n - j=(n - (j + 1)) + 1 from by omega,zt7 (by rw [za8];exact HS1.o),zeT];rfl)
   clear hta hW8 hB8 hg8 HO1 HR1 HW1 HB7 HW7 hw;go_wp2;go_roundw
   case rel=>exact ⟨j + 1,q,k1,_,by omega,by go_num,rfl,HQL,HL8,HO8,HR8,HW8,HC8,HK8⟩
   simp [intOf];omega
  obtain ⟨rfl,hg1,hE⟩:=hu.no hx;have hs1:=zp1 (kind:=kind) (i:=cs.length) (p:=(px,[])) HT.o hx;obtain ⟨x,hxx⟩:=nm_ ((rdU l k 18446744073709551615).2.2);obtain ⟨k2,hk2⟩:=nm_ ((rdU l k 18446744073709551615).2.1);rw [<- hxx] at hx;rw [<- hk2,<- hxx] at hE hs1;have hF:R=([],k2,x):=by
   rw [HK.o,show n - j=(n - (j + 1)) + 1 from by omega];exact zn0 (by rw [za8];exact hs1) hx
  have HFin:=h_ (show Took9 w0 g v l R (.panicked [{ v:=zaR g x,recovered:=false }]) w1 from ⟨HO.grown hg1 rfl,.inr ⟨by rw [hF];exact hx,by rw [hF],by rw [hF];exact hE⟩⟩);rw [<- hxx];clear hu hg1 hE hxx hk2 hs1 hF;go_wp2;exact ⟨rfl,HFin.o⟩
 obtain rfl:j=n:=by omega
 have d1:decide ((j:Int) < (j:Int))=false:=decide_eq_false (by omega);have hF:R=(cesL cs,k,0):=by rw [HK.o,Nat.sub_self,rdN]
 have HFin:=h_ (show Took9 w0 g v l R (.returned u1) wr from ⟨HO.o,.inl ⟨by rw [hF],u1,cs,rfl,HW.o,HC.o,by rw [hF],by rw [hF];exact HR.o⟩⟩);clear hF hlt;go_wp2;go_ret;exact HFin.o
/- -/
theorem zB3 (w:World) (base:Nat) (hb:base<=w.heap.size) (c:CellB):OwnE (w.alloc (.cells #[.int .u64 (c.1:Int),.string c.2] 82)) base (.slice (some ⟨w.heap.size,0,none⟩) 1 1) [c] :=
 ⟨⟨rfl,.inr ⟨w.heap.size,1,#[.int .u64 (c.1:Int),.string c.2],rfl,hb,heap_alloc_new _ _,l_,by decide,rfl,rfl⟩⟩,by simp [cellVs,zeE],by
  intro x hx u hu
  simp [cellVs] at hx
  subst hx
  simp at hu
  rcases hu with rfl | rfl <;> rfl⟩
theorem zk7 (g:Nat) (v:Value) (l:Bs) (k:Nat) (n:Nat) (w:World) (hR:Rdr w g v l k) (hn:n<=1024) :
  Calls prog 258 #[.pointer (some ⟨g,0,none⟩),.int .i64 (n:Int)] w (Took9 w g v l (rdN l 0 n (0,[]) [] k)):=by
 have hvb:=fun i (hi:i < l.length)=>hR.rd.block hi;have HA:=h_ (zdW w g v l k (.slice none 0 0) [] 0 (by decide) n w 0 (by decide) (.inr rfl) hR.lt hvb (Only.refl _ _) hR (OwnE.nil _ _) CES.nil (by simpa using hn));clear hR hvb;go_enter func258,ntmps258;go_wp2_with fail;refine HA.mono ?_;rintro e w1 ⟨hO,⟨hx,tv,cs,rfl,h1,h2,h3,h4⟩ | ⟨hx,rfl,hE⟩⟩
 ·have HF:=h_ (show Took9 w g v l (rdN l 0 n (0,[]) [] k) (.returned tv) w1 from ⟨hO,.inl ⟨hx,tv,cs,rfl,h1,h2,h3,h4⟩⟩);clear hO hx h1 h2 h3 h4 HA;go_wp2;go_ret;exact HF.o
 have HF:=h_ (show Took9 w g v l (rdN l 0 n (0,[]) [] k) (.panicked [{ v:=zaR g (rdN l 0 n (0,[]) [] k).2.2,recovered:=false }]) w1 from ⟨hO,.inr ⟨hx,rfl,hE⟩⟩);clear hO hx hE HA;go_wp2;exact ⟨rfl,HF.o⟩
theorem zdV (kind:Int) (hk:kind=1∨kind=5) (g:Nat) (v:Value) (l:Bs) (k:Nat) (n:Nat) (w:World) (hR:Rdr w g v l k) (hn:n<=1024) :
  Calls prog 260 #[.pointer (some ⟨g,0,none⟩),.int .i64 (n:Int)] w (Took9 w g v l (rdN l kind n (0,[]) [] k)):=by
 cases n with
 | zero =>
  have HF:=h_ (show Took9 w g v l (rdN l kind 0 (0,[]) [] k) (.returned (.slice none 0 0)) w from ⟨Only.refl _ _,.inl ⟨rfl,_,[],rfl,OwnE.nil _ _,CES.nil,rfl,hR⟩⟩);clear hR;go_enter func260,ntmps260;go_wp2;go_ret;exact HF.o
 | succ m =>
  have hgl:=hR.lt;have HVB:=h_ (fun i (hi:i < l.length)=>hR.rd.block hi);have HKD:=h_ (show ¬ (kind=3∨kind=4) by omega);have HK0:=h_ (show kind≠0 by omega);obtain ⟨R,hRR⟩:=nm_ (rdN l kind (m + 1) (0,[]) [] k);rw [<- hRR];have HRR:=h_ hRR;have hne:(((m + 1:Nat):Int) == 0)=false:=by rw [beq_eq_false_iff_ne];omega
  have hm1:((m + 1:Nat):Int) - 1=(m:Int):=by omega
  obtain ⟨q,hq⟩:=nm_ (m + 1:Nat);rw [<- hq] at hne hm1 ⊢;have hqn:q<=1024:=by omega
  have HQ:=h_ hq;clear hRR hk hq;go_enter func260,ntmps260;go_wp2_with fail;refine (zbW g v l k w hR 18446744073709551615 (by decide)).mono ?_;intro e w1 hu;by_cases hx:(rdU l k 18446744073709551615).2.2=0
  ·obtain ⟨rfl,hg1,hR1⟩:=hu.ok hx;have hl1:=zB0 (p:=(0,[])) HKD.o HK0.o hx;have hxl:=zF6 (l:=l) (k:=k);obtain ⟨x,hxx⟩:=nm_ ((rdU l k 18446744073709551615).1);obtain ⟨k1,hk1⟩:=nm_ ((rdU l k 18446744073709551615).2.1);rw [<- hk1] at hR1;rw [<- hxx,<- hk1] at hl1;rw [<- hxx] at hxl ⊢;have hO1:=(Only.refl (fun j=>j=g) w).grown hg1 rfl;have HO7:=h_ (hO1.alloc (.cells #[.int .u64 (x:Int),.string ⟨#[]⟩] 82));have HR7:=h_ (hR1.alloc (.cells #[.int .u64 (x:Int),.string ⟨#[]⟩] 82));have HW7:=h_ (zB3 w1 w.heap.size hO1.size (x,⟨#[]⟩));have HK:=h_ (show R=rdN l kind m (x,[]) (cesL [((x,⟨#[]⟩):CellB)]) k1 from by rw [HRR.o,zt7 (show rd1 l kind ([]:List Ce).length (0,[]) k=_ from hl1)];rfl);have HA:=h_ (zdW w g v l k1 _ [((x,⟨#[]⟩):CellB)] x (by omega) m _ kind HKD.o (.inl (by simp)) hgl HVB.o HO7.o HR7.o HW7.o (by intro c hc;rw [List.mem_singleton.1 hc];exact ⟨by dsimp only;omega,by show (ByteArray.size ⟨#[]⟩)<=140737488351232;decide⟩) (by simp;omega));rw [<- HK.o] at HA;clear hu hx hl1 hxx hk1 hg1 hR1 hO1 HO7 HR7 HW7 hR;go_wp2_with fail;refine HA.mono ?_;rintro e w2 ⟨hO,⟨hx,tv,cs,rfl,h1,h2,h3,h4⟩ | ⟨hx,rfl,hE⟩⟩
   ·have HF:=h_ (show Took9 w g v l R (.returned tv) w2 from ⟨hO,.inl ⟨hx,tv,cs,rfl,h1,h2,h3,h4⟩⟩);clear hO hx h1 h2 h3 h4 HA;go_wp2;go_ret;exact HF.o
   have HF:=h_ (show Took9 w g v l R (.panicked [{ v:=zaR g R.2.2,recovered:=false }]) w2 from ⟨hO,.inr ⟨hx,rfl,hE⟩⟩);clear hO hx hE HA;go_wp2;exact ⟨rfl,HF.o⟩
  obtain ⟨rfl,hg1,hE⟩:=hu.no hx;have hs1:=zp1 (kind:=kind) (i:=0) (p:=(0,[])) HKD.o hx;obtain ⟨x,hxx⟩:=nm_ ((rdU l k 18446744073709551615).2.2);obtain ⟨k2,hk2⟩:=nm_ ((rdU l k 18446744073709551615).2.1);rw [<- hxx] at hx;rw [<- hk2,<- hxx] at hE hs1;have hF:R=([],k2,x):=by rw [HRR.o];exact zn0 hs1 hx
  have HFin:=h_ (show Took9 w g v l R (.panicked [{ v:=zaR g x,recovered:=false }]) w1 from ⟨(Only.refl _ _).grown hg1 rfl,.inr ⟨by rw [hF];exact hx,by rw [hF],by rw [hF];exact hE⟩⟩);rw [<- hxx];clear hu hg1 hE hxx hk2 hs1 hF hR;go_wp2;exact ⟨rfl,HFin.o⟩
/- -/
theorem zh5:∀ (t c:Nat),zbM (t + 1) c=zbM t c ++ [c / 2 ^ t % 2]
 | 0,c=>by simp [zbM]
 | t + 1,c=>by
  rw [zbM,zh5 t (c / 2),zbM,Nat.div_div_eq_div_mul,Nat.pow_succ,Nat.mul_comm 2];rfl
theorem zmH (a:List Nat) (x:Nat):zbT (a ++ [x])=zbT a ++ [(x,[])]:=by rw [zkT];rfl
theorem zi6 (g:Nat) (v:Value) (l:Bs) (k0:Nat) (n:Nat) (w:World) (hR:Rdr w g v l k0) (hn:n<=1024) :
  Calls prog 262 #[.pointer (some ⟨g,0,none⟩),.int .i64 (n:Int)] w (Took9 w g v l (rdQ l ((n + 7) / 8) n [] k0)):=by
 obtain ⟨R,hRR⟩:=nm_ (rdQ l ((n + 7) / 8) n [] k0);rw [<- hRR];have HRR:=h_ hRR;have HG:=h_ hR.lt;have HVB:=h_ (fun i (hi:i < l.length)=>hR.rd.block hi);have HO0:=h_ (Only.refl (fun j=>j=g) w);have HR0:=h_ hR;clear hRR hR;go_enter func262,ntmps262;go_wp2;go_loopw [5] (fun b wr=>∃ (j k:Nat) (cs:List CellB),j<=n/\Hid (j % 8=0∨j=n)/\Hid (cs.length=j)/\Hid (Only (fun j=>j=g) w wr)/\Hid (Rdr wr g v l k)/\Hid (OwnE wr w.heap.size b cs)/\Hid (CES cs)/\Hid (R=rdQ l ((n - j + 7) / 8) (n - j) (cesL cs) k)) (fun b wr=>n - lenV9 b)
 case atStart=>exact ⟨0,k0,[],by omega,h_ (.inl rfl),h_ rfl,HO0,HR0,h_ (OwnE.nil _ _),h_ CES.nil,HRR⟩
 clear HO0 HR0 HRR;obtain ⟨j,k,cs,hj,H8,HL,HO,HR,HW,HC,HE⟩:=hrel;have hlen:=(HW.rd (by have:=HL.o;omega)).len;rw [HL.o] at hlen;by_cases hlt:j < n
 ·have d1:decide ((j:Int) < (n:Int))=true:=decide_eq_true (by omega);have h8:j % 8=0:=by rcases H8.o with h | h <;> omega
  have hNx:=HE.o;rw [show (n - j + 7) / 8=(n - j - 1) / 8 + 1 from by omega,rdQ] at hNx;have HNx:=h_ hNx;have HJ8:=h_ h8;clear hNx h8;go_wp2_with fail;refine (zjD g v l k wr HR.o).mono ?_;intro e w1 hu;by_cases hk:k < l.length
  ·rw [if_pos hk,if_pos hk,if_pos hk] at hu;obtain ⟨rfl,hg1,hR1⟩:=hu.ok rfl;obtain ⟨c,hc⟩:∃ c:Nat,at8 l k=(c:Int):=⟨(l.getD k 0).toNat,rfl⟩;have hcc:(l.getD k 0).toNat=c:=(by unfold at8 at hc;omega);have hcl:=zcZ l k;rw [hc] at hcl ⊢;have HNx2:=h_ (show R=if c / 2 ^ min 8 (n - j)≠0 then ([],k + 1,6) else rdQ l ((n - j - 1) / 8) (n - j - min 8 (n - j)) (cesL cs ++ zbT (zbM (min 8 (n - j)) c)) (k + 1) from by have:=HNx.o;rw [if_neg (by omega),hcc] at this;exact this);obtain ⟨m,hm⟩:=nm_ (min 8 (n - j):Nat);rw [<- hm] at HNx2;have hif:(if (8:Int) < ((n:Int) - (j:Int)) then (8:Int) else ((n:Int) - (j:Int)))=(m:Int):=(by split <;> omega);have hmn:∀ u,(Builtin.min_ #[3,3] 3 #[.int .i64 ((n:Int) - (j:Int)),.int .i64 8]).run prog u=.ok (.int .i64 (m:Int)) u:=by
    intro u;rw [<- hif];rfl
   have hm1:m<=8:=(by omega);have hm2:j + m<=n:=(by omega);have HM3:=h_ (show (j + m) % 8=0∨j + m=n by have:=HJ8.o;omega);have HM4:=h_ (show (n - j - 1) / 8=(n - (j + m) + 7) / 8 by omega);have HM5:=h_ (show 0 < m by omega);have HO1:=h_ (HO.grown hg1 rfl);have HR1:=h_ hR1;have HW1:=h_ (HW.grown hg1 (fun q hq=>by have:=(OwnE.lt HW.o hq).1;have:=HG.o;intro e;injection e with e;omega));have HLu:=h_ (OwnE.lenV9 HW.o);clear hu hc hcc hg1 hR1 HO HR HW HE HNx hif hm;go_wp2;go_loopw [5,6,18] (fun b a i wi=>∃ (t d:Nat) (ct:List CellB),t<=m/\i=.int .i64 t/\a=.int .u8 (d:Int)/\d<=255/\Hid (d=c / 2 ^ t)/\Hid (ct.length=j + t)/\Hid (cesL ct=cesL cs ++ zbT (zbM t c))/\Hid (Only (fun j=>j=g) w wi)/\Hid (Rdr wi g v l (k + 1))/\Hid (OwnE wi w.heap.size b ct)/\Hid (CES ct)) (fun _ _ i _=>m - (intOf i).toNat)
   case atStart=>exact ⟨0,c,cs,by omega,rfl,rfl,by omega,h_ (by simp),h_ HL.o,h_ (by simp [zbM,zbT]),HO1,HR1,HW1,HC⟩
   clear HO1 HR1 HW1 hlen hmn;obtain ⟨t,d,ct,ht,rfl,rfl,hd,HD,HLt,HCt,HO,HR,HW,HCE⟩:=hrel;by_cases htl:t < m
   ·have d2:decide ((t:Int) < (m:Int))=true:=decide_eq_true (by omega);obtain ⟨q,hq⟩:=nm_ (d % 2:Nat);have hqd:((d:Int) % 2)=(q:Int):=(by omega);have h1c:=h_ (show ∀ j z,(cellVs (q,⟨#[]⟩))[j]?=some z->(wr.alloc (.cells #[.int .u64 ((d:Int) % 2),.string ⟨#[]⟩] 82)).cell? (Addr.add ⟨wr.heap.size,0,none⟩ j)=some z from by rw [hqd];exact zcM wr (q,⟨#[]⟩));have HB7:=h_ (show Below w.heap.size wr (wr.alloc (.cells #[.int .u64 ((d:Int) % 2),.string ⟨#[]⟩] 82)) from (Below.refl _ _).alloc HO.size _);have HW7:=h_ (HW.alloc (.cells #[.int .u64 ((d:Int) % 2),.string ⟨#[]⟩] 82));have HQ:=h_ hq;clear hq hqd;go_wp2_with (with_reducible refine zcK w.heap.size _ ?hs HW7.o ⟨wr.heap.size,0,none⟩ (q,⟨#[]⟩) ?hx h1c.o ?hn ?hbase w.heap.size wr HB7.o l_ ?_)
    case hs=>rfl
    case hx=>rfl
    case hn=>rw [HLt.o];omega
    case hbase=>rw [World.size_alloc];have:=HO.size;omega
    intro v8 w8 hW8 hB8 hg8;have hta:=zf6 HG.o HVB.o HO.o HR.o HW.o hB8;have HO8:=h_ hta.1;have HR8:=h_ hta.2;have HW8:=h_ hW8;have HC8:=h_ (HCE.snoc (c:=(q,⟨#[]⟩)) ⟨by show q < 18446744073709551616;have:=HQ.o;omega,by show (ByteArray.size ⟨#[]⟩)<=140737488351232;decide⟩);have HL8:=h_ (show (ct ++ [((q,⟨#[]⟩):CellB)]).length=j + (t + 1) by rw [List.length_append,List.length_singleton,HLt.o];omega)
    have HK8:=h_ (show cesL (ct ++ [((q,⟨#[]⟩):CellB)])=cesL cs ++ zbT (zbM (t + 1) c) from by
     rw [zeT,HCt.o,zh5,zmH,<- HD.o,<- HQ.o,List.append_assoc];rfl)
    have HD8:=h_ (show d / 2=c / 2 ^ (t + 1) from by rw [HD.o,Nat.pow_succ,Nat.div_div_eq_div_mul]);have hde:Value.int .u8 ((d:Int) / 2)=.int .u8 ((d / 2:Nat):Int):=(by rw [show ((d / 2:Nat):Int)=(d:Int) / 2 from by omega]);have HDe:=h_ hde;clear hta hW8 hB8 hg8 HO HR HW HCE HB7 HW7 h1c hde;go_wp2;go_roundw
    case rel=>exact ⟨t + 1,d / 2,_,by omega,by go_num,HDe.o,by omega,HD8,HL8,HK8,HO8,HR8,HW8,HC8⟩
    simp [intOf];omega
   obtain rfl:t=m:=(by omega);have d2:decide ((t:Int) < (t:Int))=false:=decide_eq_false (by omega);by_cases hd0:d=0
   ·subst hd0
    have HF:=h_ (show R=rdQ l ((n - (j + t) + 7) / 8) (n - (j + t)) (cesL ct) (k + 1) from by
     rw [HNx2.o,if_neg (by rw [<- HD.o];simp),HCt.o,HM4.o,show n - j - t=n - (j + t) from by omega])
    have HLw:=h_ (OwnE.lenV9 HW.o);clear htl;go_wp2_with fail;refine (zaD _ _ _).mono ?_;rintro e w3 ⟨rfl,rfl⟩;go_wp2;go_roundw
    case rel=>exact ⟨j + t,k + 1,ct,hm2,HM3,HLt,HO,HR,HW,HCE,HF⟩
    have h1:=HLw.o;have h2:=HLu.o;have h3:=HLt.o;have h4:=HL.o;have h5:=HM5.o;omega
   have hqe:((d:Int) == 0)=false:=(by rw [beq_eq_false_iff_ne];omega);have HF:=h_ (show R=([],k + 1,6) from by rw [HNx2.o,if_pos (by rw [<- HD.o];exact hd0)]);clear htl;go_wp2_with fail;refine (zaB g v l (k + 1) wr HR.o 6 (by decide)).mono ?_;rintro e w3 ⟨rfl,hg3,hE3⟩;have HFin:=h_ (show Took9 w g v l R (.panicked [{ v:=zaR g 6,recovered:=false }]) w3 from ⟨HO.grown hg3 rfl,.inr ⟨by rw [HF.o];show (6:Nat)≠0;decide,by rw [HF.o],by rw [HF.o];exact hE3⟩⟩);clear hg3 hE3;go_wp2;exact ⟨rfl,HFin.o⟩
  rw [if_neg hk,if_neg hk,if_neg hk] at hu;obtain ⟨rfl,hg1,hE⟩:=hu.no (by decide);have hF:R=([],k,5):=by rw [HNx.o,if_pos (by omega)]
  have HFin:=h_ (show Took9 w g v l R (.panicked [{ v:=zaR g 5,recovered:=false }]) w1 from ⟨HO.grown hg1 rfl,.inr ⟨by rw [hF];show (5:Nat)≠0;decide,by rw [hF],by rw [hF];exact hE⟩⟩);clear hu hg1 hE hF hk;go_wp2;exact ⟨rfl,HFin.o⟩
 obtain rfl:j=n:=by omega
 have d1:decide ((j:Int) < (j:Int))=false:=decide_eq_false (by omega);have hF:R=(cesL cs,k,0):=by rw [HE.o,Nat.sub_self];rfl
 have HFin:=h_ (show Took9 w g v l R (.returned u5) wr from ⟨HO.o,.inl ⟨by rw [hF],u5,cs,rfl,HW.o,HC.o,by rw [hF],by rw [hF];exact HR.o⟩⟩);clear hF hlt;go_wp2;go_ret;exact HFin.o
/- -/
def Next9 (w:World) (g:Nat) (v:Value) (l:Bs) (R:Bs × Nat × Nat) (e:Ending) (w':World):Prop :=
 w.grownBy w' (some g)/\((R.2.2=0/\∃ s,e=.returned (.string s)/\RdS s R.1/\Rdr w' g v l R.2.1) ∨
  (R.2.2≠0/\e=.panicked [{ v:=zaR g R.2.2,recovered:=false }]/\zi9 w' g v l R.2.1 R.2.2))
theorem zk6 (g:Nat) (v:Value) (l:Bs) (k:Nat) (w:World) (hR:Rdr w g v l k) (ps:ByteArray) (pl:Bs) (hP:RdS ps pl) (hl:pl.length<=256) :
  Calls prog 278 #[.pointer (some ⟨g,0,none⟩),.string ps] w (Next9 w g v l (rdT l pl k)):=by
 have hlen:=hP.len;have hsz:=hP.size9;have HPS:=h_ hP;obtain ⟨R,hRR⟩:=nm_ (rdT l pl k);rw [<- hRR];have HRR:=h_ hRR;have HU:=h_ (zbW g v l k w hR pl.length (by omega));have hxl:(rdU l k pl.length).1<=pl.length:=by
  unfold rdU;split
  ·omega
  split <;> dsimp only <;> omega
 unfold rdT at hRR;rcases hr:rdU l k pl.length with ⟨x,k1,x1⟩
 rw [hr] at hRR HU hxl;dsimp only at hRR HU hxl;have HRR:=h_ hRR;clear hRR hr hR hP;go_enter func278,ntmps278;go_wp2_with fail;refine HU.mono ?_;intro e w1 hu;by_cases hx:x1=0
 ·subst hx;obtain ⟨rfl,hg1,hR1⟩:=hu.ok rfl;have HG1:=h_ hg1;have HR1:=h_ hR1;have hk1:=hR1.le;have hsl:=hR1.rd.small;have hwr:IntKind.i64.wrap (256 - (x:Int))=256 - (x:Int):=by simp [IntKind.wrap,IntKind.signed,IntKind.bits];omega
  have HB:=h_ (fun wz (hz:Rdr wz g v l k1)=>show Calls prog 213 #[.pointer (some ⟨g,0,none⟩),.int .i64 (IntKind.i64.wrap (256 - (x:Int)))] wz (zD1 wz g v l (rdB l k1 (256 - (x:Int)))) from by rw [hwr];exact zhJ g v l k1 wz hz (256 - (x:Int)) (by omega));clear hwr;have hbl:=fun h=>(zgE (l:=l) (most:=256 - (x:Int)) hk1 h).2.2;rcases hr:rdB l k1 (256 - (x:Int)) with ⟨bb,k2,x2⟩
  rw [hr] at HB HRR hbl;dsimp only at HRR hbl;clear hu hr hg1 hR1 HU hk1;by_cases hx2:x2=0
  ·subst hx2;have hbl:=hbl rfl;have HRR:=h_ (show R=if shr pl (pl.take x ++ bb)≠x then ([],k2,6) else (pl.take x ++ bb,k2,0) from by rw [HRR.o,if_neg (by simp),if_neg (by simp)]);obtain ⟨s2,hs2⟩:∃ s:ByteArray,s=⟨bb.toArray⟩:=⟨_,rfl⟩;have hS2:RdS s2 bb:=⟨hs2,by omega⟩;have hz1:(ps.extract 0 x).size=x:=(by rw [(HPS.takeS x).size9,List.length_take];omega);have hz2:s2.size=bb.length:=hS2.size9;have hRT:RdS (ps.extract 0 x ++ s2) (pl.take x ++ bb):=(HPS.takeS x).app9 hS2 (by rw [List.length_take];omega);have hcat:¬ ((ps.extract 0 x).size + s2.size > 9223372036854775807):=(by omega);have HRT:=h_ hRT;have HS2:=h_ hs2;clear hs2 hS2 hRT;go_wp2_with fail
   go_region_with (
    go_at_call 213
    refine (HB.o _ ?hbz).mono ?_
    case hbz=>exact HR1.drew
    rintro e w3 ⟨val,hu,hown⟩
    obtain ⟨rfl,hg3,hR3⟩:=hu.ok rfl
    have hstr:=((hown rfl).rd (by dsimp only;omega)).str
    dsimp only at hstr
    rw [<- HS2.o] at hstr
    clear hown hu)
   all_goals (
    have HG3:=h_ ((HG1.trans_drew).trans hg3)
    have HR3:=h_ hR3
    clear hstr hg3 hR3 HB HG1 HR1
    go_wp2_with fail
    refine (zgD ps _ pl _ w3 HPS.o HRT.o).mono ?_
    rintro e w4 ⟨rfl,hb⟩
    have HG4:=h_ (HG3.trans (below_grown hb _))
    have HR4:=h_ (HR3.later hb l_)
    clear hb HG3 HR3
    by_cases hN:shr pl (pl.take x ++ bb)=x
    ·have HF:=h_ (show R=(pl.take x ++ bb,k2,0) from by rw [HRR.o,if_neg (fun h=>h hN)])
     rw [hN]
     clear hN
     go_wp2_with fail
     refine (zaD _ _ _).mono ?_
     rintro e w5 ⟨rfl,rfl⟩
     have HF2:=h_ (show Next9 w g v l R (.returned (.string (ps.extract 0 x ++ s2))) w4 from ⟨HG4.o,.inl ⟨by rw [HF.o],_,rfl,by rw [HF.o];exact HRT.o,by rw [HF.o];exact HR4.o⟩⟩)
     go_wp2
     go_ret
     exact HF2.o
    ·have HF:=h_ (show R=([],k2,6) from by rw [HRR.o,if_pos hN])
     have hqe:(((shr pl (pl.take x ++ bb):Nat):Int) == (x:Int))=false:=by rw [beq_eq_false_iff_ne];omega
     go_wp2_with fail
     refine (zaB g v l k2 w4 HR4.o 6 (by decide)).mono ?_
     rintro e w5 ⟨rfl,hg5,hE⟩
     have HF2:=h_ (show Next9 w g v l R (.panicked [{ v:=zaR g 6,recovered:=false }]) w5 from ⟨HG4.trans hg5,.inr ⟨by rw [HF.o];show (6:Nat)≠0;decide,by rw [HF.o],by rw [HF.o];exact hE⟩⟩)
     clear hg5 hE
     go_wp2
     exact ⟨rfl,HF2.o⟩)
  have HF:=h_ (show R=([],k2,x2) from by rw [HRR.o,if_neg (by simp),if_pos hx2]);clear hbl;go_wp2_with fail
  go_region_with (
   go_at_call 213
   refine (HB.o _ ?hbz).mono ?_
   case hbz=>exact HR1.drew
   rintro e w3 ⟨val,hu,hown⟩
   obtain ⟨rfl,hg3,hE⟩:=hu.no hx2
   have HF2:=h_ (show Next9 w g v l R (.panicked [{ v:=zaR g x2,recovered:=false }]) w3 from ⟨(HG1.trans_drew).trans hg3,.inr ⟨by rw [HF.o];exact hx2,by rw [HF.o],by rw [HF.o];exact hE⟩⟩)
   clear hown hu hg3 hE
   refine ztT (a:={ tmps:=#[],defers:=[] }) (w:=w3) ⟨rfl,HF2.o⟩ ?_)
  all_goals trivial
 obtain ⟨rfl,hg1,hE⟩:=hu.no hx;have HF:=h_ (show R=([],k1,x1) from by rw [HRR.o,if_pos hx]);have HF2:=h_ (show Next9 w g v l R (.panicked [{ v:=zaR g x1,recovered:=false }]) w1 from ⟨hg1,.inr ⟨by rw [HF.o];exact hx,by rw [HF.o],by rw [HF.o];exact hE⟩⟩);clear hg1 hE hu;go_wp2;exact ⟨rfl,HF2.o⟩
