/- -/
import Derived.Test.YtlapgdocpndfiaaGreatDoorUZDefs
set_option maxHeartbeats 4000000
set_option linter.unusedVariables false
set_option linter.unusedSimpArgs false
set_option maxRecDepth 1000000
namespace Go.Proofs.YtlapgdocpndfiaaGreatDoor
open _root_.Go.Proofs.Tryz
open Go.RowKit Go.Shelf
def prevR (ps:List PairB):Nat->Option (List CellB)
 | 0=>none
 | k + 1=>some (ps.getD k default).1
theorem ziM {α:Type} [Inhabited α] {l:List α} {k:Nat} (h:k < l.length):l.drop k=l.getD k default :: l.drop (k + 1):=by
 rw [List.drop_eq_getElem_cons h];simp [List.getD,h]
theorem zq6 {cs:List ColB} {ps:List PairB} {k:Nat} (h:k < ps.length) (h1:errRow cs (ps.getD k default).1=0) (h2:(ps.getD k default).2≠0) (h3:∀ r,prevR ps k=some r->cmpR cs r (ps.getD k default).1 < 0) :
  chkF cs (prevR ps k) (ps.drop k)=chkF cs (prevR ps (k + 1)) (ps.drop (k + 1)):=by
 rw [ziM h]
 conv=>lhs;unfold chkF
 rw [if_neg (fun h9=>h9 h1),if_neg h2];cases hq:prevR ps k with
 | none=>rfl
 | some r =>
  have:=h3 r hq;show (if _ then _ else _)=_;rw [if_neg (by omega)];rfl
theorem zdK (v1 v2:Value) (cs:List ColB) (ps:List PairB) (w:World) (h1:RdC w v1 cs) (h2:RdP w v2 ps) (hC:CS cs) (hP:PSO ps) :
  Calls prog 144 #[v1,v2] w fun e w'=>e=.returned (.int .i64 (chkZ cs ps:Nat))/\Below w.heap.size w w':=by
 have SC:=h_ (zbV v1 cs w h1 hC);have hl2:=h2.len;have hsm:=h2.small;have R1:=h_ (fun wz (hz:Below w.heap.size w wz)=>h1.later hz l_);have R2:=h_ (fun wz (hz:Below w.heap.size w wz)=>h2.later hz l_);clear h1 h2;obtain ⟨x,hx⟩:=nm_ (errS (colsL cs));rw [<- hx] at SC;by_cases h0:x=0
 ·subst h0;obtain ⟨n,hn⟩:=nm_ ps.length;rw [<- hn] at hl2 hsm;by_cases hbig:1024 < n
  ·have HE:=h_ (show chkZ cs ps=13 from by unfold chkZ;rw [if_neg (by omega),if_pos (by omega)]);clear hx hn;go_enter func144,ntmps144;go_wp2_with fail;refine SC.mono ?_;rintro e w1 ⟨rfl,hb⟩;go_wp2;go_ret;exact ⟨by rw [HE.o];rfl,hb⟩
  have HE:=h_ (show chkZ cs ps=chkF cs none ps from by unfold chkZ;rw [if_neg (by omega),if_neg (by omega)]);have HN:=h_ hn;clear hx hn;go_enter func144,ntmps144;go_wp2_with fail;refine SC.mono ?_;rintro e w1 ⟨rfl,hb⟩;have HB1:=h_ hb;clear hb SC;go_wp2;go_loopw [6] (fun i wr=>∃ k:Nat,k<=n/\i=.int .i64 k/\Hid (chkF cs none ps=chkF cs (prevR ps k) (ps.drop k))/\Hid (Below w.heap.size w wr)) (fun i _=>n - (intOf i).toNat)
  case atStart=>exact ⟨0,by omega,rfl,h_ rfl,HB1⟩
  clear HB1;obtain ⟨k,hk,rfl,HF,HB⟩:=hrel;by_cases hlt:k < n
  ·have k2:k < ps.length:=(by rw [<- HN.o];exact hlt);obtain ⟨b,o,rv,hi,hc0,hc1,hre,hbl⟩:=(R2.o wr HB.o).get k2;obtain ⟨hce,hww⟩:=hP.get k2;have HK:=h_ k2;have CK:=h_ (zdL v1 rv cs (ps.getD k default).1 wr (R1.o wr HB.o) hre hC hce);have HST:=h_ (fun a b c=>zq6 (cs:=cs) k2 a b c);have HD:=h_ (ziM k2);obtain ⟨p,hp⟩:=nm_ (ps.getD k default);rw [<- hp] at hc1 hre hce hww CK HST HD;have HPK:=h_ hp;have HRE:=h_ hre;have HCE:=h_ hce;clear hp k2 hre hce;obtain ⟨c,hc⟩:=nm_ (errRow cs p.1);rw [<- hc] at CK HST;have HCC:=h_ hc;clear hc;by_cases hcz:c=0
   ·subst hcz;go_wp2_with fail;refine CK.mono ?_;rintro e w2 ⟨rfl,hb⟩;have HB2:=bT HB hb;have d0:=za5 hb hc0;have d1:=za5 hb hc1;have HRE2:=h_ (HRE.later hb l_);clear hc0 hc1 hb HB HRE CK;by_cases hwz:p.2=0
    ·have HF2:=h_ (show chkF cs none ps=2 from by
      rw [HF.o,HD.o];unfold chkF
      rw [if_neg (fun h9=>h9 HCC.symm),if_pos hwz])
     rw [hwz] at d1;clear HF;go_wp2;go_ret;exact ⟨by rw [HE.o,HF2.o];rfl,HB2.o⟩
    obtain ⟨y,hy⟩:∃ y,p.2=y:=⟨_,rfl⟩;rw [hy] at d1 hwz hww;have hyz:(y == 0)=false:=(by rw [Bool.eq_false_iff];intro hh;exact hwz (beq_iff_eq.1 hh));have HY:=h_ (show p.2≠0 from by rw [hy];exact hwz);clear hy hwz;by_cases hk0:k=0
    ·subst hk0;have HF2:=h_ (HF.trans (HST.o (by simp) HY.o (fun r hr=>by cases hr)));clear HF HST;rw [show ((0:Nat):Int)=0 from rfl] at hi;go_wp2;go_quiet (fail);go_wp2;go_roundw
     case rel=>exact ⟨1,by omega,rfl,HF2,h_ (_root_.Go.below_drewN HB2.o _)⟩
     simp [intOf];omega
    obtain ⟨j,hj⟩:∃ j,k=j + 1:=⟨k - 1,by omega⟩;have j2:j < ps.length:=(by have:=HK.o;omega);obtain ⟨b',o',rv',hi',hc0',hc1',hre',hbl'⟩:=(R2.o w2 HB2.o).get j2;obtain ⟨hce',_⟩:=hP.get j2;have CC:=h_ (fun wz (hz:Below w2.heap.size w2 wz)=>zdJ v1 rv' rv cs (ps.getD j default).1 p.1 wz (R1.o wz (HB2.trans (hz.mono HB2.size))) (hre'.later hz l_) (HRE2.later hz l_) hC hce' HCE.o);have hsub:(k:Int) - 1=(j:Int):=(by omega);have hwj:IntKind.i64.wrap (j:Int)=(j:Int):=IntWalk.i64_in _ (by omega);have hpos:decide (0 < k)=true:=decide_eq_true (by omega);have HPR:=h_ (show prevR ps k=some (ps.getD j default).1 from by rw [hj];rfl);obtain ⟨m,hm⟩:=nm_ (cmpR cs (ps.getD j default).1 p.1);rw [<- hm] at CC;have HM:=h_ hm;clear hm j2 hre' hce' hk0;have HJ:=h_ hj;clear hj;go_wp2;go_still_tail 15,(by kernel_rfl);change wpList _ _ _ _ _ w2.drew;have HB3:=h_ HB2.drew;have HD3:=h_ ((Below.refl w2.heap.size w2).drew);clear d0 d1 hc0' hc1';go_wp2_with fail;refine (CC.o _ HD3.o).mono ?_;rintro e w3 ⟨rfl,hb⟩;have HB4:=bT HB3 hb;clear hb HB3 HD3 CC;by_cases hm0:0<=m
    ·have HF2:=h_ (show chkF cs none ps=9 from by
      rw [HF.o,HD.o,HPR.o];unfold chkF
      rw [if_neg (fun h9=>h9 HCC.symm),if_neg HY.o]
      show (if _ then _ else _)=_
      rw [if_pos (by rw [<- HM.o];exact hm0)])
     have hmd:decide (0<=m)=true:=decide_eq_true hm0;clear HF HST;go_wp2;go_ret;exact ⟨by rw [HE.o,HF2.o];rfl,HB4.o⟩
    have HF2:=h_ (HF.trans (HST.o (by simp) HY.o (fun r hr=>by rw [HPR.o] at hr;injection hr with hr;rw [<- hr,<- HM.o];omega)));have hmd:decide (0<=m)=false:=decide_eq_false hm0;clear HF HST;go_wp2;go_roundw
    case rel=>exact ⟨k + 1,by omega,by go_num,HF2,HB4⟩
    simp [intOf];omega
   have HF2:=h_ (show chkF cs none ps=c from by
    rw [HF.o,HD.o];unfold chkF
    rw [if_pos (by rw [<- HCC.o];exact hcz),HCC.o])
   have hcq:((c:Int) != 0)=true:=(by rw [bne_iff_ne];omega);clear HF HST;go_wp2_with fail;refine CK.mono ?_;rintro e w2 ⟨rfl,hb⟩;have HB2:=bT HB hb;clear hb;go_wp2;go_ret;exact ⟨by rw [HE.o,HF2.o];rfl,HB2.o⟩
  obtain rfl:k=n:=by omega
  have HF2:=h_ (show chkF cs none ps=0 from by rw [HF.o,HN.o,List.drop_length];simp [chkF]);clear HF;go_wp2;go_ret;exact ⟨by rw [HE.o,HF2.o];rfl,HB.o⟩
 have HE:=h_ (show chkZ cs ps=x from by unfold chkZ;rw [if_pos (by omega),hx]);have q:((x:Int) != 0)=true:=by rw [bne_iff_ne];omega
 clear hx;go_enter func144,ntmps144;go_wp2_with fail;refine SC.mono ?_;rintro e w1 ⟨rfl,hb⟩;go_wp2;go_ret;exact ⟨by rw [HE.o];rfl,hb⟩
/- -/
namespace Crc
open _root_.Go.Proofs.Tryz
def P:Nat:=2197175160
def F:Nat:=4294967295
def step (s:Nat):Nat:=if s % 2=1 then s / 2 ^^^ P else s / 2
def pow:Nat->Nat->Nat
 | 0,s=>s
 | n + 1,s=>pow n (step s)
def reg (s:Nat):Bs->Nat
 | []=>s
 | b :: l=>reg (pow 8 (s ^^^ b.toNat)) l
def sum (l:Bs):Nat:=F ^^^ reg F l
def more (s:Nat) (l:Bs):Nat:=F ^^^ reg (F ^^^ s) l
def put (s:Nat):Bs:=[UInt8.ofNat (s % 256),UInt8.ofNat (s / 256 % 256),UInt8.ofNat (s / 65536 % 256),UInt8.ofNat (s / 16777216 % 256)]
def good (l:Bs):Prop:=4<=l.length/\put (sum (l.take (l.length - 4)))=l.drop (l.length - 4)
instance (l:Bs):Decidable (good l):=inferInstanceAs (Decidable (_/\_))
theorem pow_add (m n:Nat):∀ s,pow (m + n) s=pow n (pow m s):=by
 induction m with
 | zero=>intro s;simp [pow]
 | succ m ih=>intro s;rw [show m + 1 + n=(m + n) + 1 from by omega];show pow (m + n) (step s)=_;rw [ih];rfl
theorem step_lt {s:Nat} (h:s < 4294967296):step s < 4294967296:=by
 unfold step;split
 ·exact Nat.xor_lt_two_pow (n:=32) (by omega) (by decide)
 omega
theorem pow_lt {n:Nat}:∀ {s:Nat},s < 4294967296->pow n s < 4294967296:=by
 induction n with
 | zero=>intro s h;exact h
 | succ n ih=>intro s h;exact ih (step_lt h)
theorem byte_lt {s:Nat} (h:s < 4294967296) (b:UInt8):s ^^^ b.toNat < 4294967296:=by
 have:=b.toNat_lt;exact Nat.xor_lt_two_pow (n:=32) (by omega) (by omega)
theorem zF5 {l:Bs}:∀ {s:Nat},s < 4294967296->reg s l < 4294967296:=by
 induction l with
 | nil=>intro s h;exact h
 | cons b l ih=>intro s h;exact ih (pow_lt (byte_lt h b))
theorem F_lt:F < 4294967296:=by decide
theorem sum_lt (l:Bs):sum l < 4294967296:=Nat.xor_lt_two_pow (n:=32) F_lt (zF5 F_lt)
theorem reg_append (a b:Bs):∀ s,reg s (a ++ b)=reg (reg s a) b:=by
 induction a with
 | nil=>intro s;rfl
 | cons x a ih=>intro s;exact ih _
theorem put_length (s:Nat):(put s).length=4:=rfl
theorem good_seal (b:Bs):good (b ++ put (sum b)):=by
 have hl:(b ++ put (sum b)).length - 4=b.length:=by simp [put_length]
 refine ⟨by simp [put_length],?_⟩;rw [hl];simp
end Crc
/- -/
namespace Crc
open _root_.Go.Proofs.Tryz
end Crc
/- -/
open Go.RowKit Go.Shelf
theorem zu7 {α:Type} [Inhabited α] {a b:List α} {k:Nat} (h1:k < a.length) (h2:k < b.length) (h:a.take k=b.take k) (he:a.getD k default=b.getD k default):a.take (k + 1)=b.take (k + 1):=by
 rw [List.take_add_one,List.take_add_one,h];simp [List.getD,h1,h2] at he;simp [h1,h2,he]
theorem zlI (v1 v2:Value) (ps qs:List PairB) (w:World) (h1:RdP w v1 ps) (h2:RdP w v2 qs) :
  Calls prog 30 #[v1,v2] w fun e w'=>e=.returned (.bool (decide (ps=qs)))/\Below w.heap.size w w':=by
 have hl1:=h1.len;have hl2:=h2.len;have hs1:=h1.small;have hs2:=h2.small;by_cases hn:ps.length=qs.length
 ·obtain ⟨n,hn1⟩:=nm_ ps.length;have hn2:n=qs.length:=by omega
  rw [<- hn1] at hl1 hs1;rw [<- hn2] at hl2;have HN1:=h_ hn1;have HN2:=h_ hn2;have H1:=h_ h1;have H2:=h_ h2;have hb0:=h_ (Below.refl w.heap.size w);clear hn hn1 hn2 h1 h2 hs2;go_enter func30,ntmps30;go_wp2;go_loopw [5] (fun i wr=>∃ k:Nat,k<=n/\i=.int .i64 k/\Hid (ps.take k=qs.take k)/\Hid (Below w.heap.size w wr)) (fun i _=>n - (intOf i).toNat)
  case atStart=>exact ⟨0,by omega,rfl,h_ rfl,hb0⟩
  obtain ⟨k,hk,rfl,HT,HB⟩:=hrel;clear hb0;by_cases hlt:k < n
  ·have k1:k < ps.length:=(by rw [<- HN1.o];exact hlt);have k2:k < qs.length:=(by rw [<- HN2.o];exact hlt);obtain ⟨b1,o1,rv1,hi1,c10,c11,re1,_⟩:=(H1.later HB.o l_).get k1;obtain ⟨b2,o2,rv2,hi2,c20,c21,re2,_⟩:=(H2.later HB.o l_).get k2;have hes:=h_ (fun he=>zu7 k1 k2 HT.o he);have hne:=h_ (show ps.getD k default≠qs.getD k default->ps≠qs from fun h hh=>h (by rw [hh]));clear k1 k2;rcases hpg:ps.getD k default with ⟨r,x⟩
   rcases hqg:qs.getD k default with ⟨s,y⟩
   rw [hpg] at c11 re1;rw [hqg] at c21 re2;rw [hpg,hqg] at hes hne;dsimp only at c11 c21 re1 re2;clear hpg hqg;have SS:=h_ (fun wz (hz:Below wr.heap.size wr wz)=>zlJ rv1 rv2 r s wz (re1.later hz l_) (re2.later hz l_));clear re1 re2;by_cases hxy:x=y
   ·subst hxy;by_cases hrs:r=s
    ·subst hrs;have HES:=h_ (hes.o rfl);clear hes hne;go_wp2;go_still_tail 22,(by kernel_rfl);change wpList _ _ _ _ _ wr.drew;have HB3:=h_ HB.drew;have HD3:=h_ ((Below.refl wr.heap.size wr).drew);clear c10 c11 c20 c21;go_wp2_with fail;refine (SS.o _ HD3.o).mono ?_;rintro e w3 ⟨rfl,hb⟩;have HB4:=bT HB3 hb;clear hb HB3 HD3 SS;go_wp2;go_roundw
     case rel=>exact ⟨k + 1,by omega,by go_num,HES,HB4⟩
     simp [intOf];omega
    have HF:=h_ (show decide (ps=qs)=false from decide_eq_false (hne.o (fun h=>hrs (by injection h))));have hd:decide (r=s)=false:=decide_eq_false hrs;rw [hd] at SS;clear hrs hes hne hd;go_wp2;go_still_tail 22,(by kernel_rfl);change wpList _ _ _ _ _ wr.drew;have HB3:=h_ HB.drew;have HD3:=h_ ((Below.refl wr.heap.size wr).drew);clear c10 c11 c20 c21;go_wp2_with fail;refine (SS.o _ HD3.o).mono ?_;rintro e w3 ⟨rfl,hb⟩;have HB4:=bT HB3 hb;clear hb HB3 HD3 SS;go_wp2;go_ret;exact ⟨by rw [HF.o];rfl,HB4.o⟩
   have HF:=h_ (show decide (ps=qs)=false from decide_eq_false (hne.o (fun h=>hxy (by injection h))));have hq:(x != y)=true:=(by rw [bne_iff_ne];exact hxy);clear hxy hes hne SS;go_wp2;go_quiet (fail);go_wp2;go_ret;exact ⟨by rw [HF.o];rfl,_root_.Go.below_drewN HB.o _⟩
  obtain rfl:k=n:=by omega
  have HF:=h_ (show decide (ps=qs)=true from decide_eq_true (by
   have:=HT.o
   rwa [List.take_of_length_le (by rw [<- HN1.o];exact l_),List.take_of_length_le (by rw [<- HN2.o];exact l_)] at this))
  go_wp2;go_ret;exact ⟨by rw [HF.o];rfl,HB.o⟩
 have HF:=h_ (show decide (ps=qs)=false from decide_eq_false (fun h=>hn (by rw [h])));have hq:((ps.length:Int) != (qs.length:Int))=true:=by rw [bne_iff_ne];omega
 obtain ⟨n,hn1⟩:=nm_ ps.length;obtain ⟨m,hm1⟩:=nm_ qs.length;rw [<- hn1] at hl1 hq;rw [<- hm1] at hl2 hq;clear h1 h2 hn hn1 hm1 hs1 hs2;go_enter func30,ntmps30;go_wp2;go_ret;exact ⟨by rw [HF.o];rfl,Below.refl _ _⟩
