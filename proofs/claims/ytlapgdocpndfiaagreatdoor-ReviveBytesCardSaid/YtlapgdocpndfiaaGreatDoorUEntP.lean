/- -/
import Derived.Test.YtlapgdocpndfiaaGreatDoorUZSameW
set_option linter.unusedVariables false
set_option linter.unusedSimpArgs false
set_option maxRecDepth 1000000
namespace Go.Proofs.YtlapgdocpndfiaaGreatDoor
open Go.RowKit
def zbS (l:Bs) (ah:List Bs) (k:Nat):Col × Nat × Nat :=
 if (rdB l k 32).2.2≠0 then (([],0),(rdB l k 32).2.1,(rdB l k 32).2.2)
 else if fine (rdB l k 32).1 ah=false then (([],0),(rdB l k 32).2.1,2)
 else if ¬ (rdB l k 32).2.1 < l.length then (([],0),(rdB l k 32).2.1,5)
 else if 5 < at8 l (rdB l k 32).2.1 then (([],0),(rdB l k 32).2.1 + 1,10)
 else (((rdB l k 32).1,at8 l (rdB l k 32).2.1),(rdB l k 32).2.1 + 1,0)
def zaP (l:Bs):Nat->List Col->Nat->List Col × Nat × Nat
 | 0,acc,k=>(acc,k,0)
 | m + 1,acc,k=>if (zbS l (names acc) k).2.2≠0 then ([],(zbS l (names acc) k).2.1,(zbS l (names acc) k).2.2) else zaP l m (acc ++ [(zbS l (names acc) k).1]) (zbS l (names acc) k).2.1
def rdTake (l:Bs):List Col × Nat × Nat :=
 if (rdU l 0 8).2.2≠0 then ([],(rdU l 0 8).2.1,(rdU l 0 8).2.2)
 else if (rdU l 0 8).1=0 then ([],(rdU l 0 8).2.1,4)
 else zaP l (rdU l 0 8).1 [] (rdU l 0 8).2.1
theorem zfB {l:Bs} {ah:List Bs} {k:Nat} (h:(rdB l k 32).2.2≠0):zbS l ah k=(([],0),(rdB l k 32).2.1,(rdB l k 32).2.2):=by unfold zbS;rw [if_pos h]
theorem zgT {l:Bs} {ah:List Bs} {k:Nat} (h:(rdB l k 32).2.2=0) (hf:fine (rdB l k 32).1 ah=false):zbS l ah k=(([],0),(rdB l k 32).2.1,2):=by unfold zbS;rw [if_neg (fun hh=>hh h),if_pos hf]
theorem zfA {l:Bs} {ah:List Bs} {k:Nat} (h:(rdB l k 32).2.2=0) (hf:fine (rdB l k 32).1 ah=true) (hs:¬ (rdB l k 32).2.1 < l.length):zbS l ah k=(([],0),(rdB l k 32).2.1,5):=by
 unfold zbS;rw [if_neg (fun hh=>hh h),if_neg (by rw [hf];decide),if_pos hs]
theorem zgU {l:Bs} {ah:List Bs} {k:Nat} (h:(rdB l k 32).2.2=0) (hf:fine (rdB l k 32).1 ah=true) (hs:(rdB l k 32).2.1 < l.length) (hk:5 < at8 l (rdB l k 32).2.1):zbS l ah k=(([],0),(rdB l k 32).2.1 + 1,10):=by
 unfold zbS;rw [if_neg (fun hh=>hh h),if_neg (by rw [hf];decide),if_neg (fun hh=>hh hs),if_pos hk]
theorem ziH {l:Bs} {ah:List Bs} {k:Nat} (h:(rdB l k 32).2.2=0) (hf:fine (rdB l k 32).1 ah=true) (hs:(rdB l k 32).2.1 < l.length) (hk:¬ 5 < at8 l (rdB l k 32).2.1):zbS l ah k=(((rdB l k 32).1,at8 l (rdB l k 32).2.1),(rdB l k 32).2.1 + 1,0):=by
 unfold zbS;rw [if_neg (fun hh=>hh h),if_neg (by rw [hf];decide),if_neg (fun hh=>hh hs),if_neg hk]
theorem zbH {l:Bs} {m:Nat} {acc:List Col} {k k' x:Nat} (h:zbS l (names acc) k=(([],0),k',x)) (hx:x≠0):zaP l (m + 1) acc k=([],k',x):=by
 rw [zaP,h,if_pos hx]
theorem zjE {l:Bs} {m:Nat} {acc:List Col} {k k':Nat} {c:Col} (h:zbS l (names acc) k=(c,k',0)):zaP l (m + 1) acc k=zaP l m (acc ++ [c]) k':=by
 rw [zaP,h,if_neg (by simp)]
def readE (l:Bs):Nat:=told l (rdTake l).2.1 (rdTake l).2.2
def readC (l:Bs):List Col:=if readE l=0 then (rdTake l).1 else []
/- -/
theorem zoL {l:Bs} {k n:Nat} {x:Bs} (h:x=(l.drop k).take n):l.take (k + n)=l.take k ++ x:=by
 rw [h,List.take_add]
theorem zDH {l:Bs} {k most:Nat} (hk:k<=l.length) (h:(rdU l k most).2.2=0) :
  l.take (rdU l k most).2.1=l.take k ++ encU (rdU l k most).1/\(rdU l k most).2.1<=l.length/\(rdU l k most).1<=most:=by
 unfold rdU at h ⊢;by_cases h1:(getU (l.drop k)).2.2≠0
 ·rw [if_pos h1] at h;exact absurd h h1
 rw [if_neg h1] at h ⊢;by_cases h2:most < (getU (l.drop k)).1
 ·rw [if_pos h2] at h;cases h
 rw [if_neg h2];have h0:(getU (l.drop k)).2.2=0:=Decidable.of_not_not h1;have hg:=zaU (l.drop k) h0;have he:encU (getU (l.drop k)).1=(l.drop k).take (getU (l.drop k)).2.1:=znC (l:=l.drop k) (by rw [<- h0]);rw [List.length_drop] at hg;exact ⟨zoL he,by dsimp only;omega,by dsimp only;omega⟩
theorem zyW {l:Bs} {most:Nat} (h:(getB l (most:Int)).2.2=0):(getB l (most:Int)).1.length<=most:=by
 unfold getB at h ⊢;split at h
 ·rename_i h1;exact absurd h h1
 rename_i h1;split at h
 ·cases h
 rename_i h2;split at h
 ·cases h
 rename_i h3;rw [if_neg h1,if_neg h2,if_neg h3];dsimp only;rw [List.length_take];omega
theorem zDK {l:Bs} {k:Nat} (hk:k<=l.length) (h:(rdB l k 32).2.2=0) :
  l.take (rdB l k 32).2.1=l.take k ++ encB (rdB l k 32).1/\(rdB l k 32).2.1<=l.length/\(rdB l k 32).1.length<=32:=by
 unfold rdB at h ⊢;by_cases h1:(getB (l.drop k) 32).2.2≠0
 ·rw [if_pos h1] at h;exact absurd h h1
 rw [if_neg h1];have h0:(getB (l.drop k) 32).2.2=0:=Decidable.of_not_not h1;obtain ⟨he,h2,h3,_⟩:=znE (l:=l.drop k) (most:=32) (c:=(getB (l.drop k) 32).1) (n:=(getB (l.drop k) 32).2.1) (by rw [<- h0]);rw [List.length_drop] at h3;exact ⟨zoL he,by dsimp only;omega,zyW (most:=32) h0⟩
theorem zxQ {l:Bs} {ah:List Bs} {k:Nat} (hk:k<=l.length) (h:(zbS l ah k).2.2=0) :
  l.take (zbS l ah k).2.1=l.take k ++ zfP (zbS l ah k).1/\(zbS l ah k).2.1<=l.length/\zaF ah (zbS l ah k).1=0:=by
 by_cases h1:(rdB l k 32).2.2=0
 ·obtain ⟨he,hle,h32⟩:=zDK hk h1;by_cases hf:fine (rdB l k 32).1 ah=true
  ·by_cases hs:(rdB l k 32).2.1 < l.length
   ·by_cases h5:5 < at8 l (rdB l k 32).2.1
    ·rw [zgU h1 hf hs h5] at h;cases h
    rw [ziH h1 hf hs h5];dsimp only;have h8:0<=at8 l (rdB l k 32).2.1:=(by unfold at8;omega);refine ⟨?_,by omega,?_⟩
    ·rw [zaE hs 0,he];unfold zfP;dsimp only;rw [show UInt8.ofNat (at8 l (rdB l k 32).2.1).toNat=l.getD (rdB l k 32).2.1 0 from by unfold at8;rw [Int.toNat_natCast];simp,List.append_assoc]
    unfold zaF;dsimp only;rw [if_neg (by omega),if_neg (by rw [hf];simp),if_neg (by omega)]
   rw [zfA h1 hf hs] at h;cases h
  have hf2:fine (rdB l k 32).1 ah=false:=by simpa using hf
  rw [zgT h1 hf2] at h;cases h
 rw [zfB h1] at h;exact absurd h h1
theorem zhN:∀ (acc:List Col) (ah:List Bs) (c:Col),errFrom ah acc=0->zaF (ah ++ names acc) c=0->errFrom ah (acc ++ [c])=0
 | [],ah,c,_,hc=>by
  rw [List.nil_append,errFrom,if_neg (by simpa [names] using hc),errFrom]
 | x :: r,ah,c,h,hc=>by
  rw [errFrom] at h
  by_cases hx:zaF ah x≠0
  ·rw [if_pos hx] at h;exact absurd h hx
  ·rw [if_neg hx] at h
   rw [List.cons_append,errFrom,if_neg hx]
   refine zhN r _ c h ?_
   rw [List.append_assoc]
   exact hc
theorem zlO (l P:Bs):∀ (m:Nat) (acc:List Col) (k:Nat),k<=l.length->l.take k=P ++ zaH acc->errFrom [] acc=0->(zaP l m acc k).2.2=0 ->
  l.take (zaP l m acc k).2.1=P ++ zaH (zaP l m acc k).1/\(zaP l m acc k).2.1<=l.length/\errFrom [] (zaP l m acc k).1=0/\(zaP l m acc k).1.length=acc.length + m
 | 0,acc,k,hk,ht,he,h=>by rw [zaP];exact ⟨ht,hk,he,rfl⟩
 | m + 1,acc,k,hk,ht,he,h=>by
  rw [zaP] at h ⊢
  by_cases h1:(zbS l (names acc) k).2.2≠0
  ·rw [if_pos h1] at h;exact absurd h h1
  ·rw [if_neg h1] at h ⊢
   obtain ⟨c1,c2,c3⟩:=zxQ hk (Decidable.of_not_not h1)
   have ih:=zlO l P m (acc ++ [(zbS l (names acc) k).1]) (zbS l (names acc) k).2.1 c2 (by
    rw [c1,ht];unfold zaH;rw [List.flatMap_append,List.append_assoc];simp) (zhN acc [] _ he (by simpa using c3)) h
   refine ⟨ih.1,ih.2.1,ih.2.2.1,?_⟩
   rw [ih.2.2.2,List.length_append,List.length_singleton];omega
theorem zuV {l:Bs} (h:(rdTake l).2.2=0):l.take (rdTake l).2.1=wrS (rdTake l).1/\(rdTake l).2.1<=l.length/\errS (rdTake l).1=0:=by
 unfold rdTake at h ⊢;by_cases h1:(rdU l 0 8).2.2≠0
 ·rw [if_pos h1] at h;exact absurd h h1
 rw [if_neg h1] at h ⊢;by_cases h2:(rdU l 0 8).1=0
 ·rw [if_pos h2] at h;cases h
 rw [if_neg h2] at h ⊢;obtain ⟨u1,u2,u3⟩:=zDH (Nat.zero_le _) (Decidable.of_not_not h1);rw [List.take_zero,List.nil_append] at u1;obtain ⟨r1,r2,r3,r4⟩:=zlO l (encU (rdU l 0 8).1) (rdU l 0 8).1 [] (rdU l 0 8).2.1 u2 (by rw [u1];simp [zaH]) rfl h;rw [List.length_nil,Nat.zero_add] at r4;refine ⟨?_,r2,?_⟩
 ·rw [r1];unfold wrS;rw [r4]
 unfold errS;rw [if_neg (by omega),if_neg (by omega)];exact r3
theorem zwR {l:Bs} {k x:Nat} (h:told l k x=0):x=0/\l.length<=k:=by
 unfold told at h;split at h
 ·rename_i hx;split at h
  ·cases h
  exact ⟨hx,by omega⟩
 rename_i hx;exact absurd h hx
theorem ziG {l:Bs} (h:readE l=0):errS (readC l)=0/\wrS (readC l)=l/\(rdTake l).2.1=l.length:=by
 obtain ⟨h1,h2⟩:=zwR h;obtain ⟨a,b,c⟩:=zuV h1;have hk:(rdTake l).2.1=l.length:=by omega
 rw [hk,List.take_of_length_le l_] at a;unfold readC;rw [if_pos h];exact ⟨c,a.symm,hk⟩
/- -/
theorem zF7 {l n rest:Bs} {k:Nat} (hd:l.drop k=encB n ++ rest) (hn:n.length<=32):rdB l k 32=(n,k + (encB n).length,0):=by
 unfold rdB;rw [hd,getB_put' n rest 32 (by omega) (by omega)];rfl
theorem zpX {l a b:Bs} {k:Nat} (hd:l.drop k=a ++ b):l.drop (k + a.length)=b:=by
 rw [<- List.drop_drop,hd,List.drop_left' rfl]
theorem zEC {l a:Bs} {k:Nat} {x:UInt8} {b:Bs} (hd:l.drop k=a ++ x :: b):k + a.length < l.length:=by
 have:=congrArg List.length hd;rw [List.length_drop,List.length_append,List.length_cons] at this;omega
theorem zo2 (c:Col):(zfP c).length=(encB c.1).length + 1:=by unfold zfP;simp
theorem zxP {l rest:Bs} {ah:List Bs} {k:Nat} {c:Col} (hd:l.drop k=zfP c ++ rest) (hc:zaF ah c=0):zbS l ah k=(c,k + (zfP c).length,0):=by
 obtain ⟨h1,h2,h3,h4⟩:=zfI hc;have hd2:l.drop k=encB c.1 ++ (UInt8.ofNat c.2.toNat :: rest):=by rw [hd];unfold zfP;simp
 have hB:=zF7 hd2 h1;have hlt:=zEC hd2;have hat:at8 l (k + (encB c.1).length)=c.2:=by
  have e:=zpX hd2;rw [List.drop_eq_getElem_cons hlt] at e;injection e with e1 e2
  unfold at8;rw [show l.getD (k + (encB c.1).length) 0=l[k + (encB c.1).length] from by simp [List.getD,hlt],e1,UInt8.toNat_ofNat'];omega
 rw [ziH (by rw [hB]) (by rw [hB];exact h2) (by rw [hB];exact hlt) (by rw [hB];dsimp only;rw [hat];omega),hB];dsimp only;rw [hat,zo2,Nat.add_assoc]
theorem zpS {ah:List Bs} {c:Col} {r:List Col} (h:errFrom ah (c :: r)=0):zaF ah c=0/\errFrom (ah ++ [c.1]) r=0:=by
 rw [errFrom] at h;by_cases hx:zaF ah c≠0
 ·rw [if_pos hx] at h;exact absurd h hx
 rw [if_neg hx] at h;exact ⟨Decidable.of_not_not hx,h⟩
theorem zv5 (acc:List Col) (c:Col):names (acc ++ [c])=names acc ++ [c.1]:=by simp [names]
theorem zlN (l m:Bs):∀ (r acc:List Col) (k:Nat),l.drop k=zaH r ++ m->errFrom (names acc) r=0->zaP l r.length acc k=(acc ++ r,k + (zaH r).length,0)
 | [],acc,k,hd,he=>by rw [List.length_nil,zaP];simp [zaH]
 | c :: r,acc,k,hd,he=>by
  obtain ⟨e1,e2⟩:=zpS he
  have hw:zaH (c :: r)=zfP c ++ zaH r:=by unfold zaH;rw [List.flatMap_cons]
  rw [hw,List.append_assoc] at hd
  have hp:=zxP hd e1
  rw [List.length_cons,zjE hp,zlN l m r (acc ++ [c]) _ (zpX hd) (by rw [zv5];exact e2),hw,List.length_append]
  simp [Nat.add_assoc]
theorem zuU {cs:List Col} (h:errS cs=0) (m:Bs):rdTake (wrS cs ++ m)=(cs,(wrS cs).length,0):=by
 obtain ⟨z1,z2,z3,_⟩:=zaM h;have hU:rdU (wrS cs ++ m) 0 8=(cs.length,(encU cs.length).length,0):=by
  unfold rdU wrS;rw [List.drop_zero,List.append_assoc,zeM cs.length (by omega)];dsimp only;rw [if_neg (by omega),if_neg (by omega)];simp
 unfold rdTake;rw [hU];dsimp only;rw [if_neg (by omega),if_neg (by omega)];rw [zlN _ m cs [] _ (by unfold wrS;rw [List.append_assoc,List.drop_left' rfl]) z3];unfold wrS;rw [List.length_append,List.nil_append]
theorem zmY {cs:List Col} (h:errS cs=0):readE (wrS cs)=0/\readC (wrS cs)=cs/\(rdTake (wrS cs)).2.1=(wrS cs).length:=by
 have e:=zuU h [];rw [List.append_nil] at e;have h0:readE (wrS cs)=0:=by unfold readE;rw [e];unfold told;simp
 refine ⟨h0,?_,by rw [e]⟩;unfold readC;rw [if_pos h0,e]
/- -/
def frX (k:Nat) (l:Bs):Bs:=UInt8.ofNat k :: encB l
def frB (k:Nat) (l:Bs):Bs:=frX k l ++ Crc.put (Crc.sum (frX k l))
def wrF (k:Int) (l:Bs):Bs × Nat :=
 if k < 0∨2 < k then ([],10) else if 1048576 < l.length then ([],13) else (frB k.toNat l,0)
def nxF (b:Bs):Nat × Bs × Nat × Nat :=
 if b.length=0 then (0,[],0,5)
 else if 2 < at8 b 0 then (0,[],0,10)
 else if (getB (b.drop 1) 1048576).2.2≠0 then (0,[],0,(getB (b.drop 1) 1048576).2.2)
 else if b.length < (getB (b.drop 1) 1048576).2.1 + 5 then (0,[],0,5)
 else if Crc.good (b.take ((getB (b.drop 1) 1048576).2.1 + 5)) then ((at8 b 0).toNat,(getB (b.drop 1) 1048576).1,(getB (b.drop 1) 1048576).2.1 + 5,0)
 else (0,[],0,8)
theorem zlZ (k:Nat) (l:Bs):(frX k l).length=1 + (encU l.length).length + l.length:=by
 simp [frX,encB];omega
theorem zeN (k:Nat) (l:Bs):(frB k l).length=5 + (encU l.length).length + l.length:=by
 rw [frB,List.length_append,zlZ,Crc.put_length];omega
theorem zjT (k:Nat) {l:Bs} (h:l.length<=1048576):(frB k l).length<=1048576 + 15:=by
 have:=zaC l.length (by omega);rw [zeN];omega
theorem zb8 (k:Nat) (l:Bs):6<=(frB k l).length:=by
 have:=znO l.length;rw [zeN];omega
theorem zvE {b l:Bs} {n:Nat} (h:getB b l.length=(l,n,0)) (hl:l.length<=1048576):getB b 1048576=(l,n,0):=by
 unfold getB at h ⊢;by_cases h1:(getU b).2.2≠0
 ·rw [if_pos h1] at h;exact absurd (congrArg (fun x=>x.2.2) h) h1
 rw [if_neg h1] at h ⊢;by_cases h2:(l.length:Int) < 0∨(l.length:Int) < (getU b).1
 ·rw [if_pos h2] at h;simp at h
 rw [if_neg h2] at h;rw [if_neg (by omega)];exact h
theorem zlX (l m:Bs) (hl:l.length<=1048576):getB (encB l ++ m) 1048576=(l,(encB l).length,0) :=
 zvE (zBG l m (by omega)) hl
theorem znU (c:UInt8) (l:Bs):at8 (c :: l) 0=(c.toNat:Int):=by simp [at8]
theorem ziK (k:Nat) (l:Bs):frB k l=UInt8.ofNat k :: (encB l ++ Crc.put (Crc.sum (frX k l))):=by
 rw [frB];rfl
theorem zgV (k:Nat) (hk:k<=2) (l m:Bs) (hl:l.length<=1048576):nxF (frB k l ++ m)=(k,l,(frB k l).length,0):=by
 have hb:=zlX l (Crc.put (Crc.sum (frX k l)) ++ m) hl;have hd:(frB k l ++ m).drop 1=encB l ++ (Crc.put (Crc.sum (frX k l)) ++ m):=by
  rw [ziK];simp
 have ha:at8 (frB k l ++ m) 0=(k:Int):=by
  rw [ziK,List.cons_append,znU,UInt8.toNat_ofNat'];omega
 have hlen:(encB l).length + 5=(frB k l).length:=by rw [zeN,zc0];omega
 have hp:=zb8 k l;have hg:Crc.good ((frB k l ++ m).take (frB k l).length):=by
  rw [List.take_left];exact Crc.good_seal _
 unfold nxF;rw [hd,hb,ha];dsimp only;have h1:¬ (frB k l ++ m).length=0:=by rw [List.length_append];omega
 have h2:¬ (2:Int) < (k:Int):=by omega
 have h3:¬ (frB k l ++ m).length < (frB k l).length:=by simp
 rw [hlen,if_neg h1,if_neg h2,if_neg (by simp),if_neg h3,if_pos hg];simp
theorem zfX (c:UInt8) (l:Bs) {i:Nat} (h:0 < i):(c :: l).take i=c :: l.take (i - 1):=by
 obtain ⟨j,rfl⟩:∃ j,i=j + 1:=⟨i - 1,by omega⟩;rfl
theorem zvD {b l:Bs} (h:getB b l.length=([],0,5)) (hl:l.length<=1048576) (hu:(getU b).2.2=0->(getU b).1<=1048576):getB b 1048576=([],0,5):=by
 unfold getB at h ⊢;by_cases h1:(getU b).2.2≠0
 ·rw [if_pos h1] at h ⊢;exact h
 rw [if_neg h1] at h ⊢;have hu:=hu (by omega);by_cases h2:(l.length:Int) < 0∨(l.length:Int) < (getU b).1
 ·rw [if_pos h2] at h;exact absurd (congrArg (fun x=>x.2.2) h) (by decide)
 rw [if_neg h2] at h;rw [if_neg (by omega)];exact h
theorem zyV (l:Bs) (i:Nat) (hl:l.length<=1048576):(getU ((encB l).take i)).2.2=0->(getU ((encB l).take i)).1<=1048576:=by
 intro h0;by_cases hi:i < (encU l.length).length
 ·have e:(encB l).take i=(encU l.length).take i:=by unfold encB;rw [List.take_append_of_le_length (by omega)]
  rw [e,ztJ l.length i (by omega) hi];simp
 have e:(encB l).take i=encU l.length ++ l.take (i - (encU l.length).length):=by
  unfold encB;rw [List.take_append,List.take_of_length_le (by omega)]
 rw [e,zeM l.length (by omega)];exact hl
theorem zyA (k:Nat) (hk:k<=2) (l:Bs) (hl:l.length<=1048576) (i:Nat) (hi:i < (frB k l).length):nxF ((frB k l).take i)=(0,[],0,5):=by
 have hlen:((frB k l).take i).length=i:=by rw [List.length_take];omega
 by_cases h0:i=0
 ·subst h0;unfold nxF;rw [hlen,if_pos rfl]
 have hfl:=zeN k l;have hel:=zc0 l;have hd:((frB k l).take i).drop 1=(encB l ++ Crc.put (Crc.sum (frX k l))).take (i - 1):=by
  rw [ziK,zfX _ _ (by omega)];rfl
 have ha:at8 ((frB k l).take i) 0=(k:Int):=by
  rw [ziK,zfX _ _ (by omega),znU,UInt8.toNat_ofNat'];omega
 unfold nxF;rw [hd,ha,hlen];by_cases hc:i - 1 < (encB l).length
 ·have e:(encB l ++ Crc.put (Crc.sum (frX k l))).take (i - 1)=(encB l).take (i - 1):=List.take_append_of_le_length (by omega);have hs:=zvD (zBH l (i - 1) (by omega) hc) hl (zyV l _ hl);rw [e,hs,if_neg h0,if_neg (by omega),if_pos (by simp)]
 have e:(encB l ++ Crc.put (Crc.sum (frX k l))).take (i - 1)=encB l ++ (Crc.put (Crc.sum (frX k l))).take (i - 1 - (encB l).length):=by
  rw [List.take_append,List.take_of_length_le (by omega)]
 rw [e,zlX l _ hl];dsimp only;rw [if_neg h0,if_neg (by omega),if_neg (by simp),if_pos (by omega)]
theorem znD {b:Bs} {p:Bs} {n e:Nat} (h:getB b 1048576=(p,n,e)):p.length<=1048576/\n<=b.length/\n<=1048586/\e<=13:=by
 have hg:=zaU b;have hc:=zdA b;unfold getB at h;by_cases h1:(getU b).2.2≠0
 ·rw [if_pos h1] at h;simp only [Prod.mk.injEq] at h;obtain ⟨rfl,rfl,rfl⟩:=h;refine ⟨by simp,by omega,by omega,by omega⟩
 rw [if_neg h1] at h;obtain ⟨g1,g2,g3,g4⟩:=hg (by omega);by_cases h2:(1048576:Int) < 0∨(1048576:Int) < (getU b).1
 ·rw [if_pos h2] at h;simp only [Prod.mk.injEq] at h;obtain ⟨rfl,rfl,rfl⟩:=h;refine ⟨by simp,by omega,by omega,by omega⟩
 rw [if_neg h2] at h;by_cases h3:b.length - (getU b).2.1 < (getU b).1
 ·rw [if_pos h3] at h;simp only [Prod.mk.injEq] at h;obtain ⟨rfl,rfl,rfl⟩:=h;refine ⟨by simp,by omega,by omega,by omega⟩
 rw [if_neg h3] at h;simp only [Prod.mk.injEq] at h;obtain ⟨rfl,rfl,rfl⟩:=h;refine ⟨by simp;omega,by omega,by omega,by omega⟩
theorem zn6 {b:Bs} (h:(nxF b).2.2.2=0):5<=(nxF b).2.2.1/\(nxF b).2.2.1<=b.length/\(nxF b).2.1.length<=1048576/\(nxF b).1<=2:=by
 have hl:=znD (b:=b.drop 1) (p:=(getB (b.drop 1) 1048576).1) (n:=(getB (b.drop 1) 1048576).2.1) (e:=(getB (b.drop 1) 1048576).2.2) rfl;unfold nxF at h ⊢;by_cases h1:b.length=0
 ·rw [if_pos h1] at h;simp at h
 rw [if_neg h1] at h ⊢;by_cases h2:2 < at8 b 0
 ·rw [if_pos h2] at h;simp at h
 rw [if_neg h2] at h ⊢;by_cases h3:(getB (b.drop 1) 1048576).2.2≠0
 ·rw [if_pos h3] at h;exact absurd h h3
 rw [if_neg h3] at h ⊢;by_cases h4:b.length < (getB (b.drop 1) 1048576).2.1 + 5
 ·rw [if_pos h4] at h;simp at h
 rw [if_neg h4] at h ⊢;by_cases h5:Crc.good (b.take ((getB (b.drop 1) 1048576).2.1 + 5))
 ·rw [if_pos h5];refine ⟨by simp,Nat.not_lt.1 h4,hl.1,?_⟩;have:=zeH b 0;show (at8 b 0).toNat<=2;omega
 rw [if_neg h5] at h;simp at h
/- -/
open Go.Shelf
def entP (cs:List ColB) (x:EntB):Bs:=encU x.2.1.toNat ++ btWr (kindsL cs) (psL x.2.2)
def entW (cs:List ColB) (x:EntB):Bs × Nat:=if entE cs x≠0 then ([],entE cs x) else wrF (2 - x.1) (entP cs x)
def entT (cs:List ColB) (l:Bs):(Nat × List Bp) × Nat × Nat :=
 if (rdU l 0 281474976710656).2.2≠0 then ((0,[]),(rdU l 0 281474976710656).2.1,(rdU l 0 281474976710656).2.2)
 else (((rdU l 0 281474976710656).1,(batS cs l (rdU l 0 281474976710656).2.1).1),(batS cs l (rdU l 0 281474976710656).2.1).2.1,(batS cs l (rdU l 0 281474976710656).2.1).2.2)
def entRE (cs:List ColB) (kind:Int) (l:Bs):Nat :=
 if errS (colsL cs)≠0 then errS (colsL cs) else if kind≠1/\kind≠2 then 10 else told l (entT cs l).2.1 (entT cs l).2.2
def entRV (cs:List ColB) (kind:Int) (l:Bs):Int × Int × List Bp :=
 if entRE cs kind l=0 then (2 - kind,((entT cs l).1.1:Int),(entT cs l).1.2) else (0,0,[])
theorem zvY (k:Int) (l:Bs):(wrF k l).1.length<=1048591:=by
 unfold wrF;split
 ·simp
 split
 ·simp
 exact zjT _ (by omega)
theorem entW_small (cs:List ColB) (x:EntB):(entW cs x).1.length<=1048591:=by
 unfold entW;split
 ·simp
 exact zvY _ _
theorem znL {cs:List ColB} {l:Bs} (h:(rdU l 0 281474976710656).2.2≠0):(entT cs l).2.1=(rdU l 0 281474976710656).2.1/\(entT cs l).2.2=(rdU l 0 281474976710656).2.2:=by
 unfold entT;rw [if_pos h];exact ⟨rfl,rfl⟩
theorem znK {cs:List ColB} {l:Bs} (h:(rdU l 0 281474976710656).2.2=0) :
  (entT cs l).1.1=(rdU l 0 281474976710656).1/\(entT cs l).1.2=(batS cs l (rdU l 0 281474976710656).2.1).1/\(entT cs l).2=(batS cs l (rdU l 0 281474976710656).2.1).2:=by
 unfold entT;rw [if_neg (fun hh=>hh h)];exact ⟨rfl,rfl,rfl⟩
/- -/
theorem zBQ {cs:List ColB} {x:EntB} (hP:PSO x.2.2) (h:entE cs x=0) :
  entRE cs (2 - x.1) (entP cs x)=0/\entRV cs (2 - x.1) (entP cs x)=(x.1,x.2.1,psL x.2.2):=by
 obtain ⟨hS,hk,hs,hck⟩:=zb9.1 h;obtain ⟨kind,seq,ps⟩:=x;dsimp only at hP hk hs hck ⊢;obtain ⟨n,rfl⟩:=Int.eq_ofNat_of_zero_le hs.1;have hp:entP cs (kind,(n:Int),ps)=encU n ++ btWr (kindsL cs) (psL ps):=by unfold entP;dsimp only;rw [Int.toNat_natCast]
 have h1:rdU (entP cs (kind,(n:Int),ps)) 0 281474976710656=(n,0 + (encU n).length,0):=zh3 (rest:=btWr (kindsL cs) (psL ps)) (by rw [List.drop_zero];exact hp) (by omega) (by omega);have h2:batS cs (entP cs (kind,(n:Int),ps)) (0 + (encU n).length)=(psL ps,0 + (encU n).length + (btWr (kindsL cs) (psL ps)).length,0):=zEN hP hck (m:=[]) (by rw [hp,Nat.zero_add,List.drop_left,List.append_nil]);have hT:entT cs (entP cs (kind,(n:Int),ps))=((n,psL ps),0 + (encU n).length + (btWr (kindsL cs) (psL ps)).length,0):=by
  unfold entT;rw [h1,if_neg (by simp)];dsimp only;rw [h2]
 have hl:(entP cs (kind,(n:Int),ps)).length=(encU n).length + (btWr (kindsL cs) (psL ps)).length:=by rw [hp,List.length_append]
 have hE:entRE cs (2 - kind) (entP cs (kind,(n:Int),ps))=0:=by
  unfold entRE;rw [if_neg (fun h=>h hS),if_neg (by omega),hT];unfold told;rw [if_pos rfl,if_neg (by dsimp only;omega)]
 refine ⟨hE,?_⟩;unfold entRV;rw [if_pos hE,hT];dsimp only;rw [show 2 - (2 - kind)=kind by omega]
theorem zEA {cs:List ColB} {kind:Int} {l:Bs} {ps:List PairB} (hP:PSO ps) (h:entRE cs kind l=0) (hps:psL ps=(entRV cs kind l).2.2) :
  (kind=1∨kind=2)/\(entRV cs kind l).1=2 - kind/\entE cs ((entRV cs kind l).1,(entRV cs kind l).2.1,ps)=0/\entP cs ((entRV cs kind l).1,(entRV cs kind l).2.1,ps)=l:=by
 have hV:entRV cs kind l=(2 - kind,((entT cs l).1.1:Int),(entT cs l).1.2):=by unfold entRV;rw [if_pos h]
 rw [hV] at hps ⊢;dsimp only at hps ⊢;unfold entRE at h;have hS:errS (colsL cs)=0:=by
  apply Decidable.of_not_not;intro h9;rw [if_pos h9] at h;exact h9 h
 rw [if_neg (fun h=>h hS)] at h;have hk:kind=1∨kind=2:=by
  apply Decidable.of_not_not;intro h9;rw [if_pos (by omega)] at h;cases h
 rw [if_neg (by omega)] at h;have ht:(entT cs l).2.2=0/\l.length<=(entT cs l).2.1:=by
  unfold told at h;by_cases hx:(entT cs l).2.2=0
  ·rw [if_pos hx] at h;by_cases hl:(entT cs l).2.1 < l.length
   ·rw [if_pos hl] at h;cases h
   exact ⟨hx,by omega⟩
  rw [if_neg hx] at h;exact absurd h hx
 have hr:(rdU l 0 281474976710656).2.2=0:=by
  apply Decidable.of_not_not;intro h9;have:=(znL (cs:=cs) h9).2;rw [ht.1] at this;exact h9 this.symm
 obtain ⟨q1,q2,q3⟩:=znK (cs:=cs) hr;rw [q3,zh6 hS] at ht;rw [q2,zh6 hS] at hps;obtain ⟨u1,u2,u3⟩:=zc3 (l:=l) (k:=0) (Nat.zero_le _) hr;obtain ⟨e1,e2,e3⟩:=ztR u2 ht.1;have hK:(btRd (ltE cs) l (kindsL cs) (rdU l 0 281474976710656).2.1).2.1=l.length:=by omega
 rw [hK,List.take_length,u1,List.take_zero,List.nil_append] at e1;rw [<- hps] at e1 e3;refine ⟨hk,rfl,zb9.2 ⟨hS,by dsimp only;omega,by dsimp only;omega,zFB hP hS e3⟩,?_⟩;unfold entP;dsimp only;rw [q1,Int.toNat_natCast];exact e1.symm
theorem zz5 {cs:List ColB} {x:EntB} (h:(entW cs x).2=0):entE cs x=0/\(entP cs x).length<=1048576/\entW cs x=(frB (2 - x.1).toNat (entP cs x),0):=by
 unfold entW at h ⊢;by_cases h0:entE cs x=0
 ·rw [if_neg (fun h=>h h0)] at h ⊢;have hk:=(zb9.1 h0).2.1;unfold wrF at h ⊢;rw [if_neg (by omega)] at h ⊢;by_cases hl:1048576 < (entP cs x).length
  ·rw [if_pos hl] at h;cases h
  rw [if_neg hl];exact ⟨h0,by omega,rfl⟩
 rw [if_pos h0] at h;exact absurd h h0
