/- -/
import Derived.Test.YtlapgdocpndfiaaGreatDoorUCrcW
set_option maxHeartbeats 4000000
set_option linter.unusedVariables false
set_option linter.unusedSimpArgs false
set_option maxRecDepth 1000000
namespace Go.Proofs.YtlapgdocpndfiaaGreatDoor
open _root_.Go.Proofs.Tryz
open Go.RowKit
theorem zjF (m k:Nat) (h:∀ j,j < k->127 < m / 128 ^ j):encU m=preU m k ++ encU (m / 128 ^ k):=by
 induction k with
 | zero=>simp [preU]
 | succ k ih =>
  rw [ih (fun j hj=>h j (by omega)),zdS (x:=m / 128 ^ k) (by have:=h k (by omega);omega),preU,Nat.pow_succ,Nat.div_div_eq_div_mul];simp
theorem zt3 (x:Int) (h0:0<=x) (h1:x<=18446744073709551615) (w:World) :
  Calls prog 154 #[.int .u64 x] w (RetB w (encU x.toNat)):=by
 obtain ⟨m,rfl⟩:=Int.eq_ofNat_of_zero_le h0;rw [Int.toNat_natCast];go_enter func154,ntmps154;go_wp2;go_loopw [0,3] (fun y v wr=>∃ (k q:Nat),k<=64/\q<=m/\y=.int .u64 (q:Int)/\Hid (q=m / 128 ^ k/\2 ^ k * q<=m/\∀ j,j < k->127 < m / 128 ^ j)/\Own wr w.heap.size v (preU m k)/\Below w.heap.size w wr) (fun y _ _=>(intOf y).toNat)
 case atStart=>exact ⟨0,m,by omega,l_,rfl,⟨by simp,by simp,fun j hj=>absurd hj (by omega)⟩,zaT _ _,Below.refl _ _⟩
 obtain ⟨k,q,hk,hqm,rfl,HK,hown,hbel⟩:=hrel;have hlen:=zaJ m k;have Hlen:=h_ hlen;clear hlen;have hbelA:Below w.heap.size w (wr.alloc (.cells #[.int .u8 (128 + (q:Int) % 128)] 5)):=hbel.alloc hbel.size _;have hbelB:Below w.heap.size w (wr.alloc (.cells #[.int .u8 (q:Int)] 5)):=hbel.alloc hbel.size _;by_cases hlt:127 < q
 ·have hk64:k < 64:=by
   have h2:=HK.2.1;apply Nat.lt_of_not_le;intro hge;have:2 ^ 64<=2 ^ k:=Nat.pow_le_pow_right (by decide) hge;have:2 ^ 64 * 1<=2 ^ k * q:=Nat.mul_le_mul this (by omega);omega
  go_wp2_with (with_reducible refine wpl_append w.heap.size _ (preU m k) ?hs (hown.alloc _) _ [UInt8.ofNat (128 + (q:Int) % 128).toNat] ?hx (zt6 wr (128 + (q:Int) % 128) (by omega) (by omega)) ?hn ?hbase w.heap.size w hbelA l_ ?_)
  case hs=>rfl
  case hx=>rfl
  case hn=>have:=Hlen.o;simp;omega
  case hbase=>have:=hbel.size;simp;omega
  intro v' w' hown' hbel' _;go_wp2;go_roundw
  case rel =>
   obtain ⟨a1,a2,a3⟩:=HK.o;refine ⟨k + 1,q / 128,by omega,by omega,by push_cast;rfl,⟨?_,?_,?_⟩,?_,hbel'⟩
   ·rw [a1,Nat.pow_succ,Nat.div_div_eq_div_mul]
   ·rw [Nat.pow_succ,Nat.mul_assoc];exact Nat.le_trans (Nat.mul_le_mul_left _ (by omega)) a2
   ·intro j hj;by_cases e:j=k
    ·subst e;omega
    exact a3 j (by omega)
   rw [preU,<- a1];rw [show (128 + (q:Int) % 128).toNat=128 + q % 128 by omega] at hown';exact hown'
  simp [intOf];omega
 go_wp2_with (with_reducible refine wpl_append w.heap.size _ (preU m k) ?hs (hown.alloc _) _ [UInt8.ofNat (q:Int).toNat] ?hx (zt6 wr (q:Int) (by omega) (by omega)) ?hn ?hbase w.heap.size w hbelB l_ ?_)
 case hs=>rfl
 case hx=>rfl
 case hn=>have:=Hlen.o;simp;omega
 case hbase=>have:=hbel.size;simp;omega
 intro v' w' hown' hbel' _;go_wp2;go_ret;obtain ⟨a1,a2,a3⟩:=HK.o;refine ⟨_,rfl,?_,hbel'⟩;rw [zjF m k a3,<- a1,zdQ (by omega)];rw [Int.toNat_natCast] at hown';exact hown'
theorem zxF (v:Value) (l:Bs) (w:World) (h:Rd w v l) :
  Calls prog 199 #[v] w (RetB w (encB l)):=by
 have hsm:=h.small;have hlen:=h.len;have hle:=zaC l.length (by omega);go_enter func199,ntmps199;go_wp2_with fail;refine (zt3 _ (by omega) (by omega) w).mono ?_;rintro e w1 ⟨v1,rfl,ho,hb⟩;have h1:=h.later hb l_;rw [Int.toNat_natCast] at ho;go_wp2_with (with_reducible refine wpl_append w.heap.size _ _ ?hs ho _ l ?hx h1 ?hn ?hbase w.heap.size w hb l_ ?_)
 case hs=>rfl
 case hx=>rfl
 case hn=>omega
 case hbase=>exact hb.size
 intro v' w' hown' hbel' _;go_wp2;go_ret;exact ⟨_,rfl,hown',hbel'⟩
/- -/
open Go.Shelf
theorem zh9:∀ (cs:List Col),(∀ c ∈ cs,c.1.length<=32)->(zaH cs).length<=60 * cs.length
 | [],_=>by simp [zaH]
 | c :: r,h=>by
  have ih:=zh9 r (fun x hx=>h x (by simp [hx]))
  have hc:=h c (by simp)
  have:=zaC c.1.length (by omega)
  have e:(zfP c).length=(encU c.1.length).length + c.1.length + 1:=by unfold zfP encB;simp;omega
  unfold zaH at ih ⊢
  rw [List.flatMap_cons,List.length_append,List.length_cons,e]
  omega
theorem zvX {cs:List Col} (h:errS cs=0):(wrS cs).length<=1000:=by
 obtain ⟨h1,h2,_,h4⟩:=zaM h;have:=zh9 cs (fun c hc=>(h4 c hc).1);have:=zaC cs.length (by omega);unfold wrS;rw [List.length_append];omega
def WrO (w:World) (cs:List Col) (e:Ending) (w':World):Prop :=
 ∃ v,e=.returned (.tuple #[v,.int .i64 (errS cs:Nat)])/\Below w.heap.size w w'/\((errS cs≠0/\v=.slice none 0 0)∨(errS cs=0/\Own w' w.heap.size v (wrS cs)))
theorem zoO (v:Value) (cs:List ColB) (w:World) (h:RdC w v cs) (hC:CS cs) (hT:Tabs w) :
  Calls prog 107 #[v] w (WrO w (colsL cs)):=by
 have hlen:=h.len;have hsm:=h.small;have hcd:=zm1 (colsL cs);by_cases h0:errS (colsL cs)=0
 ·have HZ:=h_ h0;obtain ⟨z1,z2,z3,z4⟩:=zaM h0;rw [za4] at z1 z2;have HH:=h_ h;clear h h0;go_enter func107,ntmps107;go_wp2_with fail;refine (zaW v cs w HH.o hC hT).mono ?_;rintro e w1 ⟨rfl,hb⟩;rw [HZ.o];have HB1:=h_ hb;clear hb;go_wp2_with fail;refine (zcL (cs.length:Int) (by omega) (by omega) w1).mono ?_;rintro e w2 ⟨u,rfl,hO,hb⟩;rw [Int.toNat_natCast] at hO;have HO:=h_ (hO.base HB1.size);have HB2:=bT HB1 hb;clear hb hO;go_wp2;go_loopw [5,19] (fun a i wr=>∃ k:Nat,k<=cs.length/\i=.int .i64 k/\Hid (Below w.heap.size w wr)/\Hid (Own wr w.heap.size a (encU cs.length ++ zaH ((colsL cs).take k)))/\Hid ((encU cs.length ++ zaH ((colsL cs).take k)).length<=10 + 60 * k)) (fun _ i _=>cs.length - (intOf i).toNat)
  case atStart =>
   refine ⟨0,by omega,rfl,HB2,?_,h_ ?_⟩
   ·simpa [zaH] using HO
   have:=zaC cs.length (by omega);simpa [zaH] using this
  clear HO HB2;obtain ⟨k,hk,rfl,HB,HO,HLen⟩:=hrel;by_cases hlt:k < cs.length
  ·have hr:=HH.later HB.o l_;obtain ⟨b,o,hidx,hcell,hblk⟩:=hr.get hlt;obtain ⟨hc0,hc1⟩:=hcell _ hr;obtain ⟨hs1,hk1,hk2⟩:=hC.get hlt
   have hz:=z4 ((colsL cs).getD k default) (by
    rw [show (colsL cs).getD k default=(colsL cs)[k]'(by rw [za4];exact hlt) from by simp [List.getD,za4,hlt]]
    exact List.getElem_mem _)
   rw [zbJ hlt] at hz;have hws:=ziS (cs:=colsL cs) (k:=k) (by rw [za4];exact hlt);rw [zbJ hlt] at hws;rcases hcg:cs.getD k default with ⟨s,kd⟩
   rw [hcg] at hc0 hc1 hs1 hk1 hk2 hz hws;dsimp only at hc0 hc1 hs1 hk1 hk2;have hS:=zeZ hs1;obtain ⟨l,hl⟩:=nm_ s.data.toList;rw [<- hl] at hS;have hz:l.length<=32/\0<=kd/\kd<=5:=(by rw [hl];exact hz);have hws:zaH ((colsL cs).take (k + 1))=(zaH ((colsL cs).take k) ++ encB l) ++ [UInt8.ofNat kd.toNat]:=(by rw [hl];exact hws);have HWS:=h_ hws;have HS:=h_ hS;clear hr hcell hcg hl hS hws hs1 z4;have HB1:=h_ (HB.alloc HB.size (.cells #[.string s,.int .i64 kd] 79));have HO1:=h_ (HO.alloc (.cells #[.string s,.int .i64 kd] 79));obtain ⟨N0,N1,N2⟩:=new1 wr (.cells #[.string s,.int .i64 kd] 79);obtain ⟨w3,hw3⟩:=nm_ (wr.alloc (.cells #[.string s,.int .i64 kd] 79));obtain ⟨bv,w4,hrun,hRd,hb⟩:=zeF HS.o w3;rw [hw3] at hrun;rw [<- hw3] at HB1 HO1 N1;have HB4:=bT HB1 hb;have HO4:=h_ (HO1.later hb l_);have Q4:=h_ (zFJ N1 hb);have HRd:=h_ hRd;clear N0 N1 N2 hb hRd hw3;go_wp2_with fail;refine (zgK bv l w4 HRd.o).mono ?_;rintro e w5 ⟨y,rfl,hO5,hb⟩;have HB5:=bT HB4 hb;have HO5:=h_ (HO4.later hb l_);have Q5:=h_ (zFJ Q4.o hb);have hY:=hO5.rd (by have:=zaC l.length (by omega);unfold encB;simp;omega);have HY:=h_ hY;clear hb hO5 hY hrun hc0 hc1;go_wp2_with (with_reducible refine wpl_append w.heap.size _ _ ?hs HO5.o _ (encB l) ?hx HY.o ?hn ?hbase w.heap.size w HB5.o l_ ?_)
   case hs=>rfl
   case hx=>rfl
   case hn=>have:=zaC l.length (by omega);have:=HLen.o;unfold encB;simp at this ⊢;omega
   case hbase=>exact HB5.size
   intro v6 w6 hO6 hB6 hg6;have HO6:=h_ hO6;have HB6:=h_ hB6;have hlb:=fun j hj=>World.ownsRow.lt HO.o j hj;have q6:=(hg6.block wr.heap.size (Nat.lt_of_lt_of_le (Array.getElem?_eq_some_iff.1 Q5.o).1 l_) (fun hh=>by have:=(hlb _ hh.symm).2;omega)).trans Q5.o;have c1:=za1 (i:=1) q6 rfl;have hkn:kd.toNat < 256:=(by omega);clear hO6 hB6 hg6 hlb q6;have hbelA:Below w.heap.size w (w6.alloc (.cells #[.int .u8 kd] 5)):=HB6.alloc HB6.size _;have HbA:=h_ hbelA;clear hbelA;go_wp2_with (with_reducible refine wpl_append w.heap.size _ _ ?hs (HO6.o.alloc _) _ [UInt8.ofNat kd.toNat] ?hx (zt6 w6 kd (by omega) (by omega)) ?hn ?hbase w.heap.size w HbA.o l_ ?_)
   case hs=>rfl
   case hx=>rfl
   case hn=>have:=zaC l.length (by omega);have:=HLen.o;unfold encB;simp at this ⊢;omega
   case hbase=>exact HbA.size
   intro v8 w8 hO8 hB8 hg8;have HO8:=h_ (show Own w8 w.heap.size v8 (encU cs.length ++ zaH ((colsL cs).take (k + 1))) by rw [HWS.o,<- List.append_assoc,<- List.append_assoc];exact hO8);have HB8:=h_ hB8
   have HL8:=h_ (show (encU cs.length ++ zaH ((colsL cs).take (k + 1))).length<=10 + 60 * (k + 1) by
    have h1:=zaC l.length (by omega);have h2:=HLen.o
    rw [HWS.o];unfold encB;simp at h2 ⊢;omega)
   clear hO8 hB8 hg8 c1;go_wp2;go_roundw
   case rel=>exact ⟨k + 1,by omega,by go_num,HB8,HO8,HL8⟩
   simp [intOf];omega
  obtain rfl:k=cs.length:=by omega
  have ht:(colsL cs).take cs.length=colsL cs:=List.take_of_length_le (by rw [za4];omega)
  have HO2:=h_ (show Own wr w.heap.size u5 (wrS (colsL cs)) by
   have:=HO.o
   rw [ht] at this
   unfold wrS;rw [za4];exact this)
  clear hlt ht;go_wp2;go_ret2;exact ⟨_,by rw [HZ.o];rfl,HB.o,.inr ⟨HZ.o,HO2.o⟩⟩
 have hne:(((errS (colsL cs):Nat):Int) != 0)=true:=by simp;omega
 obtain ⟨x,hx⟩:=nm_ (errS (colsL cs));rw [<- hx] at hne;have hck:=zaW v cs w h hC hT;rw [<- hx] at hck;have HX:=h_ hx;clear hx h;go_enter func107,ntmps107;go_wp2_with fail;refine hck.mono ?_;rintro e w1 ⟨rfl,hb⟩;have HB1:=h_ hb;clear hb hck;go_wp2;go_ret2;exact ⟨_,by rw [<- HX.o];rfl,HB1.o,.inl ⟨h0,rfl⟩⟩
/- -/
theorem zwA (l:Bs) (n j:Nat) (hn:n < l.length) (hj:j<=n):(valU ((l.take (n + 1)).drop j):Int)=at8 l j % 128 + 128 * valU ((l.take (n + 1)).drop (j + 1)):=by
 have hlen:j < (l.take (n + 1)).length:=by simp;omega
 rw [List.drop_eq_getElem_cons hlen,zbO,zhZ (by omega)];simp
theorem zAA (l:Bs) (j:Nat) (hj:j<=l.length):128 ^ j * valU (l.drop j)<=valU l:=by
 have h:=ziX (l.take j) (l.drop j);rw [List.take_append_drop,List.length_take,Nat.min_eq_left hj] at h;omega
theorem zw9 (l:Bs) (n j:Nat) (hn:n < l.length) (hj:j<=n) (h:144115188075855871 < valU ((l.take (n + 1)).drop (j + 1))):2 ^ 64<=valU (l.take (n + 1)):=by
 have h1:=zAA (l.take (n + 1)) (j + 1) (by simp;omega);have h2:128 ^ 1<=128 ^ (j + 1):=Nat.pow_le_pow_right (by decide) (by omega);have h3:128 ^ 1 * 144115188075855872<=128 ^ (j + 1) * valU ((l.take (n + 1)).drop (j + 1)):=Nat.mul_le_mul h2 (by omega);omega
theorem zyT {l:Bs} {k:Nat} (h1:∀ j,j < k->128<=at8 l j) (hk:k < 10) (hl:k < l.length) (h2:at8 l k < 128) (hb:2 ^ 64<=valU (l.take (k + 1))):getU l=(0,0,7):=by
 have:=zcV (k:=10) (n:=k) (l:=l) (by omega) (by omega) h1 (fun _ _=>h2);simp only [getU,this];rw [if_neg (by omega),if_neg (by omega),if_pos hb]
theorem zyS {l:Bs} {k:Nat} (h1:∀ j,j < k->128<=at8 l j) (hk:k < 10) (hl:k < l.length) (h2:at8 l k=0) (h0:0 < k) (hb:valU (l.take (k + 1)) < 2 ^ 64):getU l=(0,0,6):=by
 have:=zcV (k:=10) (n:=k) (l:=l) (by omega) (by omega) h1 (fun _ _=>by omega);simp only [getU,this];rw [if_neg (by omega),if_neg (by omega),if_neg (by omega),if_pos ⟨h0,h2⟩]
theorem zpG {l:Bs} {k:Nat} (h1:∀ j,j < k->128<=at8 l j) (hk:k < 10) (hl:k < l.length) (h2:at8 l k < 128) (h0:¬ (0 < k/\at8 l k=0)) (hb:valU (l.take (k + 1)) < 2 ^ 64):getU l=(valU (l.take (k + 1)),k + 1,0):=by
 have:=zcV (k:=10) (n:=k) (l:=l) (by omega) (by omega) h1 (fun _ _=>h2);simp only [getU,this];rw [if_neg (by omega),if_neg (by omega),if_neg (by omega),if_neg h0]
theorem zb6 (v:Value) (l:Bs) (w:World) (h:Rd w v l) :
  Calls prog 194 #[v] w fun e w'=>e=.returned (.tuple #[.int .u64 (getU l).1,.int .i64 (getU l).2.1,.int .i64 (getU l).2.2])/\w=w':=by
 have hlen:=h.len;have hidx:=h.idx;have hcel:=h.cells;have hsm:=h.small;go_enter func194,ntmps194;go_wp2;go_loop [5] (fun i=>∃ (k:Nat),k<=l.length/\k<=10/\i=.int .i64 k/\Hid (∀ j,j < k->128<=at8 l j)) (fun i=>10 - (intOf i).toNat)
 case atStart=>exact ⟨0,by omega,by omega,rfl,fun j hj=>absurd hj (by omega)⟩
 obtain ⟨k,hkl,hk10,rfl,HI⟩:=hrel;have hc0:=zeH l k;have hc1:=zcZ l k;by_cases h10:k < 10
 ·by_cases hl:k < l.length
  ·by_cases hb:127 < at8 l k
   ·go_wp2;go_round
    case rel=>exact ⟨k + 1,by omega,by omega,by go_num,fun j hj=>(by
      by_cases e:j=k
      ·subst e;omega
      ·exact HI j (by omega))⟩
    simp [intOf];omega
   have hz:((k:Int) == 10)=false:=(by simp;omega);have hz2:((k:Int) == (l.length:Int))=false:=(by simp;omega);go_wp2;go_loop [6,7] (fun x i=>(∃ (j:Nat) (X:Int),j<=k/\0<=X/\i=.int .i64 j/\x=.int .u64 X/\Hid (X=valU ((l.take (k + 1)).drop (j + 1))))∨(∃ X:Int,i=.int .i64 (-1)/\x=.int .u64 X/\Hid (X=valU (l.take (k + 1))/\X < 2 ^ 64))) (fun _ i=>(intOf i + 1).toNat)
   case atStart=>exact .inl ⟨k,0,l_,Int.le_refl _,rfl,rfl,by rw [List.drop_of_length_le (by simp;omega)];rfl⟩
   rcases hrel with ⟨j,X,hj,hX0,rfl,rfl,HX⟩ | ⟨X,rfl,rfl,HX⟩
   ·have hjl:j < l.length:=(by omega);have hd0:=zeH l j;have hd1:=zcZ l j;by_cases hbig:144115188075855871 < X
    ·go_wp2;go_ret3;refine ⟨?_,rfl⟩;have hX:=HX.o;exact ret3 (zyT HI h10 hl (by omega) (zw9 l k j hl hj (by omega))) rfl rfl rfl
    go_wp2;have hv:=zwA l k j hl hj;have hX:=HX.o;rw [<- hX] at hv;go_round
    case rel =>
     by_cases hj0:j=0
     ·subst hj0;exact .inr ⟨_,rfl,rfl,by rw [List.drop_zero] at hv;omega,by omega⟩
     exact .inl ⟨j - 1,_,by omega,by omega,by go_num,rfl,by rw [show j - 1 + 1=j by omega];show _=_;omega⟩
    simp [intOf]
   go_wp2
   all_goals go_ret3
   all_goals refine ⟨?_,rfl⟩
   all_goals obtain ⟨rfl,hX2⟩:=HX
   ·exact ret3 (zyS HI h10 hl (eq_of_beq (by assumption)) (by omega) (by omega)) rfl rfl rfl
   ·have hz3:(at8 l k == 0)=false:=(by assumption);exact ret3 (zpG HI h10 hl (by omega) (fun hh=>by simp [hh.2] at hz3) (by omega)) rfl (by omega) rfl
   exact ret3 (zpG HI h10 hl (by omega) (fun hh=>by omega) (by omega)) rfl (by omega) rfl
  obtain rfl:k=l.length:=by omega
  have hz:((l.length:Int) == 10)=false:=by simp;omega
  go_wp2;go_ret3;exact ⟨ret3 (zgZ HI h10 rfl) rfl rfl rfl,rfl⟩
 obtain rfl:k=10:=by omega
 go_wp2;go_ret3;exact ⟨ret3 (zpF HI rfl hkl) rfl rfl rfl,rfl⟩
theorem zbG (v:Value) (l:Bs) (most:Int) (hm0:-9223372036854775808<=most) (hm1:most<=9223372036854775807) (w:World) (h:Rd w v l) :
  Calls prog 136 #[v,.int .i64 most] w (zeV w (getB l most)):=by
 have hz:=ztI l;have hg:=zaU l;have hc:=zdA l;have hlen:=h.len;have hsm:=h.small;have hb:getB l most=getB l most:=rfl
 conv at hb=>rhs;unfold getB
 rcases hr:getU l with ⟨x,n,er⟩
 rw [hr] at hz hg hc hb;dsimp only at hz hg hc hb;have HR:=h_ hr;clear hr;by_cases he:er=0
 ·subst he;obtain ⟨hx,hn1,hn2,hn3⟩:=hg rfl;clear hz hg hc;rw [if_neg (by simp)] at hb;by_cases hlim:most < 0∨most < x
  ·rw [if_pos hlim] at hb;have HB:=h_ hb;clear hb;by_cases hneg:most < 0
   ·clear hlim;go_enter func136,ntmps136;go_wp2_with (go_at_call 194;refine (zb6 v l _ h).mono ?_;rintro e w' ⟨rfl,rfl⟩;rw [HR.o];dsimp only);go_ret3;exact zeV.none HB.o rfl
   have hlt:most < x:=(by omega);have hge:0<=most:=(by omega);clear hlim hneg;go_enter func136,ntmps136;go_wp2_with (go_at_call 194;refine (zb6 v l _ h).mono ?_;rintro e w' ⟨rfl,rfl⟩;rw [HR.o];dsimp only);go_ret3;exact zeV.none HB.o rfl
  rw [if_neg hlim] at hb;have hle:(x:Int)<=most:=by omega
  have hge:0<=most:=by omega
  clear hlim;by_cases hsh:l.length - n < x
  ·rw [if_pos hsh] at hb;have HB:=h_ hb;clear hb;have hsh':(l.length:Int) - n < x:=(by omega);have hnl:(n:Int)<=l.length:=(by omega);go_enter func136,ntmps136;go_wp2_with (go_at_call 194;refine (zb6 v l _ h).mono ?_;rintro e w' ⟨rfl,rfl⟩;rw [HR.o];dsimp only);go_ret3;exact zeV.none HB.o rfl
  rw [if_neg hsh] at hb;have HB:=h_ hb;clear hb;have hsh':(x:Int)<=(l.length:Int) - n:=by omega
  have hnl:(n:Int)<=l.length:=by omega
  obtain ⟨v',hfr,hrd⟩:=h.cut n (n + x) (by omega) (by omega);have HRD:=h_ hrd;clear hrd;rw [show (((n + x:Nat)):Int)=(n:Int) + (x:Int) by omega] at hfr;go_enter func136,ntmps136;have hbel:Below w.heap.size w (w.alloc (.cells #[] 5)):=(Below.refl _ _).alloc l_ _;go_wp2_with (first | (go_at_call 194;refine (zb6 v l _ h).mono ?_;rintro e w' ⟨rfl,rfl⟩;rw [HR.o];dsimp only) | (with_reducible refine wpl_append w.heap.size _ [] ?hs (own_empty w w.heap.size l_) v' _ ?hx (HRD.o _ (h.alloc _)) ?hn ?hbase w.heap.size w hbel l_ ?_))
  case hs=>rfl
  case hx=>rfl
  case hn=>simp;omega
  case hbase=>simp
  intro v2 w2 hown2 hb2 _;go_wp2;go_ret3;rw [List.nil_append,List.drop_take,Nat.add_sub_cancel_left] at hown2;exact zeV.own HB.o hown2 hb2 (by omega) rfl
 obtain ⟨hx,hn⟩:=hz he;subst hx hn;rw [if_pos he] at hb;have HB:=h_ hb;clear hb hg;have hne:((er:Int) != 0)=true:=by simp;omega
 go_enter func136,ntmps136;go_wp2_with (go_at_call 194;refine (zb6 v l _ h).mono ?_;rintro e w' ⟨rfl,rfl⟩;rw [HR.o];dsimp only);go_ret3;exact zeV.none HB.o rfl
/- -/
theorem zr8 (v:Value) (cs:List ColB) (w:World) (h:RdC w v cs) (hC:CS cs) (h0:errS (colsL cs)=0) :
  Calls prog 141 #[v] w (RetB w (wrS (colsL cs))):=by
 have hlen:=h.len;have hsm:=h.small;have HZ:=h_ h0;obtain ⟨z1,z2,z3,z4⟩:=zaM h0;rw [za4] at z1 z2;have HH:=h_ h;clear h h0;go_enter func141,ntmps141;go_wp2_with fail;refine (zt3 (cs.length:Int) (by omega) (by omega) w).mono ?_;rintro e w2 ⟨u,rfl,hO,hb⟩;rw [Int.toNat_natCast] at hO;have HO:=h_ hO;have HB2:=h_ hb;clear hb hO;go_wp2;go_loopw [3,4] (fun a i wr=>∃ k:Nat,k<=cs.length/\i=.int .i64 k/\Hid (Below w.heap.size w wr)/\Hid (Own wr w.heap.size a (encU cs.length ++ zaH ((colsL cs).take k)))/\Hid ((encU cs.length ++ zaH ((colsL cs).take k)).length<=10 + 60 * k)) (fun _ i _=>cs.length - (intOf i).toNat)
 case atStart =>
  refine ⟨0,by omega,rfl,HB2,?_,h_ ?_⟩
  ·simpa [zaH] using HO
  have:=zaC cs.length (by omega);simpa [zaH] using this
 clear HO HB2;obtain ⟨k,hk,rfl,HB,HO,HLen⟩:=hrel;by_cases hlt:k < cs.length
 ·have hr:=HH.later HB.o l_;obtain ⟨b,o,hidx,hcell,hblk⟩:=hr.get hlt;obtain ⟨hc0,hc1⟩:=hcell _ hr;obtain ⟨hs1,hk1,hk2⟩:=hC.get hlt
  have hz:=z4 ((colsL cs).getD k default) (by
   rw [show (colsL cs).getD k default=(colsL cs)[k]'(by rw [za4];exact hlt) from by simp [List.getD,za4,hlt]]
   exact List.getElem_mem _)
  rw [zbJ hlt] at hz;have hws:=ziS (cs:=colsL cs) (k:=k) (by rw [za4];exact hlt);rw [zbJ hlt] at hws;have HR:=h_ hr;rcases hcg:cs.getD k default with ⟨s,kd⟩
  rw [hcg] at hc0 hc1 hs1 hk1 hk2 hz hws;have HCell:=h_ hcell;rw [hcg] at HCell;dsimp only at hc0 hc1 hs1 hk1 hk2;have hS:=zeZ hs1;obtain ⟨l,hl⟩:=nm_ s.data.toList;rw [<- hl] at hS;have hz:l.length<=32/\0<=kd/\kd<=5:=by rw [hl];exact hz
  have hws:zaH ((colsL cs).take (k + 1))=(zaH ((colsL cs).take k) ++ encB l) ++ [UInt8.ofNat kd.toNat]:=by rw [hl];exact hws
  have HWS:=h_ hws;have HS:=h_ hS;obtain ⟨bv,w4,hrun,hRd,hb⟩:=zeF HS.o wr;have HB4:=bT HB hb;have HO4:=h_ (HO.later hb l_);have HRd:=h_ hRd;clear hr hcell hcg hl hS hws hs1 z4 hb hRd;go_wp2_with fail;refine (zxF bv l w4 HRd.o).mono ?_;rintro e w5 ⟨y,rfl,hO5,hb⟩;have HB5:=bT HB4 hb;have HO5:=h_ (HO4.later hb l_);have hY:=hO5.rd (by have:=zaC l.length (by omega);unfold encB;simp;omega);have HY:=h_ hY;clear hb hO5 hY hrun hc0 hc1;go_wp2_with (with_reducible refine wpl_append w.heap.size _ _ ?hs HO5.o _ (encB l) ?hx HY.o ?hn ?hbase w.heap.size w HB5.o l_ ?_)
  case hs=>rfl
  case hx=>rfl
  case hn=>have:=zaC l.length (by omega);have:=HLen.o;unfold encB;simp at this ⊢;omega
  case hbase=>exact HB5.size
  intro v6 w6 hO6 hB6 hg6;have HO6:=h_ hO6;have HB6:=h_ hB6;have c1:=(HCell.o w6 (HH.later HB6.o l_)).2;have hkn:kd.toNat < 256:=by omega
  clear hO6 hB6 hg6;have hbelA:Below w.heap.size w (w6.alloc (.cells #[.int .u8 kd] 5)):=HB6.alloc HB6.size _;have HbA:=h_ hbelA;clear hbelA;go_wp2_with (with_reducible refine wpl_append w.heap.size _ _ ?hs (HO6.o.alloc _) _ [UInt8.ofNat kd.toNat] ?hx (zt6 w6 kd (by omega) (by omega)) ?hn ?hbase w.heap.size w HbA.o l_ ?_)
  case hs=>rfl
  case hx=>rfl
  case hn=>have:=zaC l.length (by omega);have:=HLen.o;unfold encB;simp at this ⊢;omega
  case hbase=>exact HbA.size
  intro v8 w8 hO8 hB8 hg8;have HO8:=h_ (show Own w8 w.heap.size v8 (encU cs.length ++ zaH ((colsL cs).take (k + 1))) by rw [HWS.o,<- List.append_assoc,<- List.append_assoc];exact hO8);have HB8:=h_ hB8
  have HL8:=h_ (show (encU cs.length ++ zaH ((colsL cs).take (k + 1))).length<=10 + 60 * (k + 1) by
   have h1:=zaC l.length (by omega);have h2:=HLen.o
   rw [HWS.o];unfold encB;simp at h2 ⊢;omega)
  clear hO8 hB8 hg8 c1;go_wp2;go_roundw
  case rel=>exact ⟨k + 1,by omega,by go_num,HB8,HO8,HL8⟩
  simp [intOf];omega
 obtain rfl:k=cs.length:=by omega
 have ht:(colsL cs).take cs.length=colsL cs:=List.take_of_length_le (by rw [za4];omega)
 have HO2:=h_ (show Own wr w.heap.size u3 (wrS (colsL cs)) by
  have:=HO.o
  rw [ht] at this
  unfold wrS;rw [za4];exact this)
 clear hlt ht;go_wp2;go_ret;exact ⟨_,rfl,HO2.o,HB.o⟩
theorem zrA (v:Value) (cs:List ColB) (w:World) (h:RdC w v cs) (hC:CS cs) (h0:errS (colsL cs)=0) :
  Calls prog 104 #[v] w fun e w'=>e=.returned (.int .u32 (Crc.sum (wrS (colsL cs)):Nat))/\Below w.heap.size w w':=by
 have hwl:=zvX h0;go_enter func104,ntmps104;go_wp2_with fail;refine (zr8 v cs w h hC h0).mono ?_;rintro e w1 ⟨u,rfl,hO,hb⟩;have HB1:=h_ hb;have HR:=h_ (hO.rd (by omega));clear hb hO h0;go_wp2_with fail;refine (zmW u _ _ HR.o).mono ?_;rintro e w2 ⟨rfl,rfl⟩;go_wp2;go_ret;exact ⟨rfl,HB1.o⟩
