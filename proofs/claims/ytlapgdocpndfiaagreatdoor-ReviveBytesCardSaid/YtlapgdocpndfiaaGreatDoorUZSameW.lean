/- -/
import Derived.Test.YtlapgdocpndfiaaGreatDoorUBatP
import Derived.Test.YtlapgdocpndfiaaGreatDoorUZProgA
set_option maxHeartbeats 4000000
set_option linter.unusedVariables false
set_option linter.unusedSimpArgs false
set_option maxRecDepth 1000000
namespace Go.Proofs.YtlapgdocpndfiaaGreatDoor
open _root_.Go.Proofs.Tryz
open Go.RowKit
def bat (lt:List Ce->List Ce->Bool) (E:Nat) (l:Bs) (kinds:List Int) (k:Nat):List Bp × Nat × Nat:=if E≠0 then ([],k,E) else btRd lt l kinds k
def zEL (lt:List Ce->List Ce->Bool) (l:Bs) (n:Nat) (cols:List (List Ce)) (k:Nat):List Bp × Nat × Nat :=
 if (zaA l n k).2.2≠0 then ([],(zaA l n k).2.1,(zaA l n k).2.2)
 else if btAsc lt (btRows n cols)=false then ([],(zaA l n k).2.1,9)
 else ((btRows n cols).zip (zaA l n k).1,(zaA l n k).2.1,0)
def zc7 (lt:List Ce->List Ce->Bool) (l:Bs) (n:Nat) (cols:List (List Ce)) (ws:List Int) (r k:Nat):List Bp × Nat × Nat :=
 if (zaA l r k).2.2≠0 then ([],(zaA l r k).2.1,(zaA l r k).2.2)
 else if btAsc lt (btRows n cols)=false then ([],(zaA l r k).2.1,9)
 else ((btRows n cols).zip (ws ++ (zaA l r k).1),(zaA l r k).2.1,0)
theorem zmC {lt:List Ce->List Ce->Bool} {l:Bs} {n:Nat} {cols:List (List Ce)} {ws:List Int} {r k:Nat} (h:(rdU l k 18446744073709551615).2.2≠0) :
  zc7 lt l n cols ws (r + 1) k=([],(rdU l k 18446744073709551615).2.1,(rdU l k 18446744073709551615).2.2):=by
 have e:zaA l (r + 1) k=([],(rdU l k 18446744073709551615).2.1,(rdU l k 18446744073709551615).2.2):=by rw [zaA,if_pos h]
 unfold zc7;rw [e,if_pos h]
theorem zkP {lt:List Ce->List Ce->Bool} {l:Bs} {n:Nat} {cols:List (List Ce)} {ws:List Int} {r k:Nat} (h:(rdU l k 18446744073709551615).2.2=0) (hz:zag (rdU l k 18446744073709551615).1=0) :
  zc7 lt l n cols ws (r + 1) k=([],(rdU l k 18446744073709551615).2.1,2):=by
 have e:zaA l (r + 1) k=([],(rdU l k 18446744073709551615).2.1,2):=by rw [zaA,if_neg (fun hh=>hh h),if_pos hz]
 unfold zc7;rw [e,if_pos (by simp)]
theorem zqE {lt:List Ce->List Ce->Bool} {l:Bs} {n:Nat} {cols:List (List Ce)} {ws:List Int} {r k:Nat} (h:(rdU l k 18446744073709551615).2.2=0) (hz:zag (rdU l k 18446744073709551615).1≠0) :
  zc7 lt l n cols ws (r + 1) k=zc7 lt l n cols (ws ++ [zag (rdU l k 18446744073709551615).1]) r (rdU l k 18446744073709551615).2.1:=by
 have e:zaA l (r + 1) k=if (zaA l r (rdU l k 18446744073709551615).2.1).2.2≠0 then ([],(zaA l r (rdU l k 18446744073709551615).2.1).2.1,(zaA l r (rdU l k 18446744073709551615).2.1).2.2) else (zag (rdU l k 18446744073709551615).1 :: (zaA l r (rdU l k 18446744073709551615).2.1).1,(zaA l r (rdU l k 18446744073709551615).2.1).2.1,0):=by
  rw [zaA,if_neg (fun hh=>hh h),if_neg hz]
 unfold zc7;rw [e];by_cases h2:(zaA l r (rdU l k 18446744073709551615).2.1).2.2≠0
 ·simp only [if_pos h2]
 simp only [if_neg h2];rw [if_neg (by simp),List.append_assoc];rfl
theorem zmB (lt:List Ce->List Ce->Bool) (l:Bs) (n:Nat) (cols:List (List Ce)) (ws:List Int) (k:Nat) :
  zc7 lt l n cols ws 0 k=if btAsc lt (btRows n cols)=false then ([],k,9) else ((btRows n cols).zip ws,k,0):=by
 unfold zc7;rw [zaA,if_neg (by simp)];dsimp only;rw [List.append_nil]
theorem zeG (lt:List Ce->List Ce->Bool):∀ L:List (List Ce),btAsc lt L=true ↔ ∀ j,j + 1 < L.length->lt (L.getD j []) (L.getD (j + 1) [])=true
 | []=>by simp [btAsc]
 | [_]=>by simp [btAsc]
 | a :: b :: r=>by
  rw [btAsc,Bool.and_eq_true,zeG lt (b :: r)]
  constructor
  ·rintro ⟨h1,h2⟩ j hj
   cases j with
   | zero=>exact h1
   | succ j=>exact h2 j (by simpa using hj)
  ·intro h
   exact ⟨h 0 (by simp),fun j hj=>h (j + 1) (by simpa using hj)⟩
def zcC (lt:List Ce->List Ce->Bool) (l:Bs) (n:Nat) (done:List (List Ce)) (kinds:List Int) (k:Nat):List Bp × Nat × Nat :=
 if (za3 l n kinds k).2.2≠0 then ([],(za3 l n kinds k).2.1,(za3 l n kinds k).2.2)
 else zEL lt l n (done ++ (za3 l n kinds k).1) (za3 l n kinds k).2.1
theorem zmD (lt:List Ce->List Ce->Bool) (l:Bs) (n:Nat) (done:List (List Ce)) (k:Nat):zcC lt l n done [] k=zEL lt l n done k:=by
 unfold zcC;rw [za3,if_neg (by simp),List.append_nil]
theorem zkQ {lt:List Ce->List Ce->Bool} {l:Bs} {n:Nat} {done:List (List Ce)} {kd:Int} {r:List Int} {k:Nat} (h:(rdK l kd n k).2.2=0) :
  zcC lt l n done (kd :: r) k=zcC lt l n (done ++ [(rdK l kd n k).1]) r (rdK l kd n k).2.1:=by
 unfold zcC;have e:za3 l n (kd :: r) k=if (za3 l n r (rdK l kd n k).2.1).2.2≠0 then ([],(za3 l n r (rdK l kd n k).2.1).2.1,(za3 l n r (rdK l kd n k).2.1).2.2) else ((rdK l kd n k).1 :: (za3 l n r (rdK l kd n k).2.1).1,(za3 l n r (rdK l kd n k).2.1).2.1,0):=by
  rw [za3,if_neg (fun hh=>hh h)]
 rw [e];by_cases h2:(za3 l n r (rdK l kd n k).2.1).2.2≠0
 ·simp only [if_pos h2]
 simp only [if_neg h2];rw [if_neg (by simp),List.append_assoc];rfl
theorem zmE {lt:List Ce->List Ce->Bool} {l:Bs} {n:Nat} {done:List (List Ce)} {kd:Int} {r:List Int} {k:Nat} (h:(rdK l kd n k).2.2≠0) :
  zcC lt l n done (kd :: r) k=([],(rdK l kd n k).2.1,(rdK l kd n k).2.2):=by
 unfold zcC;have e:za3 l n (kd :: r) k=([],(rdK l kd n k).2.1,(rdK l kd n k).2.2):=by rw [za3,if_pos h]
 rw [e,if_pos h]
theorem zqD {lt:List Ce->List Ce->Bool} {l:Bs} {kinds:List Int} {k:Nat} (h:(rdU l k 1024).2.2=0):btRd lt l kinds k=zcC lt l (rdU l k 1024).1 [] kinds (rdU l k 1024).2.1:=by
 unfold btRd zcC zEL;rw [if_neg (fun hh=>hh h),List.nil_append]
theorem CES.nil9:CES []:=fun c hc=>absurd hc (by simp)
theorem CES.snoc9 {cs:List CellB} (h:CES cs) {c:CellB} (hc:ceS c):CES (cs ++ [c]):=by
 intro x hx;rcases List.mem_append.1 hx with hx | hx
 ·exact h x hx
 rw [List.mem_singleton.1 hx];exact hc
theorem zm6 {cs:List CellB} {k:Nat} (hk:k < cs.length):(cesL cs).getD k (0,[])=ceL (cs.getD k default):=by
 unfold cesL;simp [List.getD,hk]
def zh7 (ts:List TriB) (done:List (List Ce)):Prop:=∀ (i:Nat) (t:TriB),ts[i]?=some t->cesL t.2.1=(done.map fun c=>c.getD i (0,[]))/\t.2.2=0/\CES t.2.1
/- -/
open Go.Shelf
abbrev batS (cs:List ColB) (l:Bs) (k:Nat):List Bp × Nat × Nat:=bat (ltE cs) (errS (colsL cs)) l (kindsL cs) k
theorem zvM {cs:List ColB} {ps:List PairB} (hP:PSO ps) (h:chkZ cs ps=0):errS (colsL cs)=0:=((zb2 hP).1 h).1
theorem zh6 {cs:List ColB} (h:errS (colsL cs)=0) (l:Bs) (k:Nat):batS cs l k=btRd (ltE cs) l (kindsL cs) k:=by
 unfold batS bat;rw [if_neg (by simpa using h)]
theorem zEN {cs:List ColB} {ps:List PairB} (hP:PSO ps) (h:chkZ cs ps=0) {l m:Bs} {k:Nat} (hd:l.drop k=btWr (kindsL cs) (psL ps) ++ m):batS cs l k=(psL ps,k + (btWr (kindsL cs) (psL ps)).length,0):=by
 rw [zh6 (zvM hP h)];exact zC4 (zx1 hP h).2 hd
theorem zlE {cs:List ColB}:∀ {ps:List PairB},(∀ p ∈ ps,errRow cs p.1=0/\CES p.1)->zkN (zbC ps)<=2048 * ps.length
 | [],_=>by simp [zbC,zkN]
 | p :: t,h=>by
  have ih:=zlE (ps:=t) (fun q hq=>h q (by simp [hq]))
  obtain ⟨h1,h2⟩:=h p (by simp)
  have hl:=(zaO h1).2.1
  have hc:cs.length<=8:=by have:=(zaM (zaO h1).1).2.1;rw [za4] at this;exact this
  rw [zd5,zkN,List.length_cons]
  have hs:sumT (cesL p.1)<=256 * (cesL p.1).length:=by
   have key:∀ r:List Ce,(∀ c ∈ r,c.2.length<=256)->sumT r<=256 * r.length:=fun r=>by
    induction r with
    | nil=>intro _;simp [sumT]
    | cons c r ih2=>intro hr;have:=ih2 (fun x hx=>hr x (by simp [hx]));have:=hr c (by simp);rw [sumT,List.length_cons];omega
   refine key _ (fun c hc9=>?_)
   obtain ⟨i,hi⟩:=List.getElem?_of_mem hc9
   obtain ⟨hi1,hi2⟩:=List.getElem?_eq_some_iff.1 hi
   rw [za8] at hi1
   have hf:=zx8 h1 h2 (i:=i) (kd:=(cs[i]'(by omega)).2) (by unfold kindsL;simp [show i < cs.length by omega])
   have e:(cesL p.1).getD i (0,[])=c:=by simp [List.getD,hi]
   rw [e] at hf
   by_cases ht:(cs[i]'(by omega)).2=3∨(cs[i]'(by omega)).2=4
   ·exact (hf.text ht).2.1
   ·rw [(hf.num ht).1];simp
  rw [za8] at hs
  omega
theorem zFS {cs:List ColB} {ps:List PairB} (hP:PSO ps) (h:chkZ cs ps=0):(btWr (kindsL cs) (psL ps)).length<=12 + 10 * ps.length * (cs.length + 1) + zkN (zbC ps):=by
 have:=zEK (zx1 hP h).2;rw [zeK,zeJ,show (kindsL cs).length=cs.length from by unfold kindsL;rw [List.length_map]] at this;exact this
theorem zA3 {cs:List ColB} {ps:List PairB} (hP:PSO ps) (h:chkZ cs ps=0):(btWr (kindsL cs) (psL ps)).length<=2500000:=by
 have h1:=zFS hP h;obtain ⟨hS,hn,hs⟩:=(zb2 hP).1 h;have h2:=zlE (cs:=cs) (ps:=ps) (fun p hp=>hs.all p hp);have hc:cs.length<=8:=by have:=(zaM hS).2.1;rw [za4] at this;exact this
 have h3:10 * ps.length * (cs.length + 1)<=10 * ps.length * 9:=Nat.mul_le_mul_left _ (by omega);omega
theorem zET (cs:List ColB) (ps:List PairB):0 < (btWr (kindsL cs) (psL ps)).length:=by
 unfold btWr;rw [List.length_append];have:=znO (psL ps).length;omega
/- -/
/-- What is asked of two pairs. -/
theorem zx3 (r1 r2:Value) (a b:List CellB) (x y:Int) (W:World) (h2:RdE W r1 a) (h3:RdE W r2 b) :
  Calls prog 73 #[.agg #[r1,.int .i64 x],.agg #[r2,.int .i64 y]] W fun e w'=>e=.returned (.bool (decide ((a,x)=(b,y))))/\Below W.heap.size W w':=by
 obtain ⟨ao,n,cap,rfl⟩:=h2.lit;obtain ⟨ao',n',cap',rfl⟩:=h3.lit;obtain ⟨N0,N1,N2,N3⟩:=new2 W (.cells #[.slice ao n cap,.int .i64 x] 86) (.cells #[.slice ao' n' cap',.int .i64 y] 86);have CK:=h_ (zt2 _ _ a b _ (h2.later N3 l_) (h3.later N3 l_));have NB:=h_ N3;clear N0 N1 N2 N3 h2 h3;by_cases hxy:x=y
 ·subst hxy;have hd:decide ((a,x)=(b,x))=decide (a=b):=by
   by_cases e:a=b
   ·subst e;simp
   rw [decide_eq_false e,decide_eq_false (fun h=>e (Prod.mk.inj h).1)]
  rw [hd];obtain ⟨c,hcc⟩:=nm_ (decide (a=b));rw [<- hcc] at CK ⊢;have hq:(x == x)=true:=by simp
  clear hcc hd;go_enter func73,ntmps73;go_wp2_with fail;refine CK.mono ?_;rintro e w1 ⟨rfl,hb⟩;have HB:=bT NB hb;clear hb CK;go_wp2;go_ret;exact ⟨rfl,HB.o⟩
 have hq:(x == y)=false:=by rw [beq_eq_false_iff_ne];exact hxy
 rw [decide_eq_false (fun h:(a,x)=(b,y)=>hxy (Prod.mk.inj h).2)];clear CK hxy;go_enter func73,ntmps73;go_wp2;go_ret;exact ⟨rfl,NB.o⟩
theorem zjH (v1 v2:Value) (ps qs:List PairB) (w:World) (h1:RdP w v1 ps) (h2:RdP w v2 qs) :
  Calls prog 72 #[v1,v2,.func (.func 73) #[] #[]] w fun e w'=>e=.returned (.bool (decide (ps=qs)))/\Below w.heap.size w w':=by
 have hl1:=h1.len;have hl2:=h2.len;have hs1:=h1.small;have hs2:=h2.small;have H1:=h_ h1;have H2:=h_ h2;clear h1 h2;by_cases hln:ps.length=qs.length
 ·obtain ⟨n,hn⟩:=nm_ ps.length;rw [<- hln] at hl2 hs2;rw [<- hn] at hl1 hl2 hs1 hs2;have HN:=h_ hn;have HL:=h_ hln;clear hln hn;go_enter func72,ntmps72;go_wp2;go_loopw [17] (fun i wr=>∃ k:Nat,k<=n/\i=.int .i64 k/\Hid (ps.take k=qs.take k)/\Hid (Below w.heap.size w wr)) (fun i _=>n - (intOf i).toNat)
  case atStart=>exact ⟨0,by omega,rfl,h_ (by simp),h_ (Below.refl _ _)⟩
  obtain ⟨k,hk,rfl,HE,HB⟩:=hrel;by_cases hlt:k < n
  ·have k1:k < ps.length:=(by rw [<- HN.o];exact hlt);have k2:k < qs.length:=(by rw [<- HL.o];exact k1);obtain ⟨b,o,rv,hi,c0,c1,re,hbl⟩:=H1.get k1;obtain ⟨b',o',rv',hi',c0',c1',re',hbl'⟩:=H2.get k2;obtain ⟨ao,nn,cap,rfl⟩:=re.lit;obtain ⟨ao',nn',cap',rfl⟩:=re'.lit;have HT:=h_ (show ps.take (k + 1)=ps.take k ++ [ps.getD k default] from by rw [List.take_add_one];simp [List.getD,k1]);have HT':=h_ (show qs.take (k + 1)=qs.take k ++ [qs.getD k default] from by rw [List.take_add_one];simp [List.getD,k2]);have HNE:=h_ (fun e:ps=qs=>show ps.getD k default=qs.getD k default by rw [e]);obtain ⟨p,hp⟩:=nm_ (ps.getD k default);obtain ⟨p',hp'⟩:=nm_ (qs.getD k default);rw [<- hp] at c1 re HT HNE;rw [<- hp'] at c1' re' HT' HNE;rcases p with ⟨r1,x⟩
   rcases p' with ⟨r2,y⟩
   dsimp only at c1 re c1' re';have hc0:=(HB.cell (p:=⟨b,o,none⟩) hbl).trans c0;have hc1:=(HB.cell (p:=⟨b,o + 1,none⟩) hbl).trans c1;have hc0':=(HB.cell (p:=⟨b',o',none⟩) hbl').trans c0';have hc1':=(HB.cell (p:=⟨b',o' + 1,none⟩) hbl').trans c1';have hbw:b' < wr.heap.size:=Nat.lt_of_lt_of_le hbl' HB.size;have NN:=h_ (new2 wr (.cells #[.slice ao nn cap,.int .i64 x] 86) (.cells #[.slice ao' nn' cap',.int .i64 y] 86));have HBN:=bT HB NN.2.2.2;have SS:=h_ (zx3 _ _ r1 r2 x y _ (re.later HBN.o l_) (re'.later HBN.o l_));clear hp hp' k1 k2 re re' c0 c1 c0' c1';by_cases hpq:(r1,x)=(r2,y)
   ·have hdd:decide ((r1,x)=(r2,y))=true:=decide_eq_true hpq;rw [hdd] at SS;have HE2:=h_ (show ps.take (k + 1)=qs.take (k + 1) from by rw [HT.o,HT'.o,HE.o,hpq]);clear hdd hpq HNE;go_wp2_with fail;refine SS.mono ?_;rintro e w3 ⟨rfl,hb⟩;have HB4:=bT HBN hb;clear hb SS hc0 hc1 hc0' hc1' NN HBN;go_wp2;go_roundw
    case rel=>exact ⟨k + 1,by omega,by go_num,HE2,HB4⟩
    simp [intOf];omega
   have hdd:decide ((r1,x)=(r2,y))=false:=decide_eq_false hpq;rw [hdd] at SS;have HF:=h_ (show decide (ps=qs)=false from decide_eq_false (fun e=>hpq (HNE.o e)));clear hdd hpq HNE;go_wp2_with fail;refine SS.mono ?_;rintro e w3 ⟨rfl,hb⟩;have HB4:=bT HBN hb;clear hb SS hc0 hc1 hc0' hc1' NN HBN;go_wp2;go_ret;exact ⟨by rw [HF.o];rfl,HB4.o⟩
  obtain rfl:k=n:=by omega
  have HF:=h_ (show decide (ps=qs)=true from decide_eq_true (by
   have h:=HE.o
   rwa [List.take_of_length_le (by rw [<- HN.o];exact l_),List.take_of_length_le (by rw [<- HL.o,<- HN.o];exact l_)] at h))
  go_wp2;go_ret;exact ⟨by rw [HF.o];rfl,HB.o⟩
 have HF:=h_ (show decide (ps=qs)=false from decide_eq_false (fun e=>hln (by rw [e])));obtain ⟨n,hn⟩:=nm_ ps.length;obtain ⟨m,hm⟩:=nm_ qs.length;rw [<- hn] at hl1 hs1 hln;rw [<- hm] at hl2 hs2 hln;have hne:((n:Int) != (m:Int))=true:=by rw [bne_iff_ne];omega
 clear hn hm H1 H2;go_enter func72,ntmps72;go_wp2;go_ret;exact ⟨by rw [HF.o];rfl,Below.refl _ _⟩
theorem zvR (v1 v2:Value) (ps qs:List PairB) (w:World) (h1:RdP w v1 ps) (h2:RdP w v2 qs) :
  Calls prog 40 #[v1,v2] w fun e w'=>e=.returned (.bool (decide (ps=qs)))/\Below w.heap.size w w':=by
 have CK:=h_ (zjH v1 v2 ps qs w h1 h2);obtain ⟨c,hc⟩:=nm_ (decide (ps=qs));rw [<- hc] at CK ⊢;clear hc h1 h2;go_enter func40,ntmps40;go_wp2_with fail;refine CK.mono ?_;rintro e w1 ⟨rfl,hb⟩;have HB:=h_ hb;clear hb CK;go_wp2;go_ret;exact ⟨rfl,HB.o⟩
