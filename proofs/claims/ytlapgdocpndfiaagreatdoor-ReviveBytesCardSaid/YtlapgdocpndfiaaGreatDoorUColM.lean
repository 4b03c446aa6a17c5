/- -/
import Derived.Test.YtlapgdocpndfiaaGreatDoorURdr
set_option linter.unusedVariables false
set_option linter.unusedSimpArgs false
set_option maxRecDepth 1000000
namespace Go.Proofs.YtlapgdocpndfiaaGreatDoor
theorem getB_put' (l m:Bs) (most:Int) (hl:l.length < 2 ^ 63) (h0:(l.length:Int)<=most):getB (encB l ++ m) most=(l,(encB l).length,0):=by
 have h:=zeM l.length (by omega) (l ++ m);unfold getB encB;rw [List.append_assoc,h];dsimp only;rw [if_neg (by simp),if_neg (by omega),if_neg (by simp)];rw [List.drop_left,List.take_left];simp
section
variable {cs:List Bs} {j n:Nat}
end
/- -/
open Go.RowKit
abbrev Ce:=Nat × Bs
def shr:Bs->Bs->Nat
 | a :: r,b :: s=>if a=b then shr r s + 1 else 0
 | [],_=>0
 | _ :: _,[]=>0
theorem zj6 (b:Bs):shr [] b=0:=by cases b <;> rfl
theorem shr_nil' (a:Bs):shr a []=0:=by cases a <;> rfl
theorem zAO:∀ a b:Bs,shr a b=shr b a
 | [],b=>by rw [zj6,shr_nil']
 | a :: r,[]=>by rw [zj6,shr_nil']
 | a :: r,b :: s=>by
  rw [shr,shr,zAO r s]
  by_cases h:a=b
  ·rw [if_pos h,if_pos h.symm]
  ·rw [if_neg h,if_neg (fun e=>h e.symm)]
theorem zsZ:∀ a b:Bs,shr a b<=a.length/\shr a b<=b.length
 | [],b=>by rw [zj6];simp
 | a :: r,[]=>by rw [shr_nil'];simp
 | a :: r,b :: s=>by
  have:=zsZ r s
  rw [shr,List.length_cons,List.length_cons]
  split <;> omega
theorem zsX:∀ a b:Bs,a.take (shr a b)=b.take (shr a b)
 | [],b=>by rw [zj6];simp
 | a :: r,[]=>by rw [shr_nil'];simp
 | a :: r,b :: s=>by
  have:=zsX r s
  rw [shr]
  split
  ·rename_i h;rw [List.take_succ_cons,List.take_succ_cons,this,h]
  ·simp
theorem zCI:∀ {n:Nat} {a b:Bs},n<=a.length->n<=b.length->a.take n=b.take n->(n < a.length->n < b.length->a.getD n 0≠b.getD n 0)->shr a b=n
 | 0,[],b,_,_,_,_=>zj6 b
 | 0,a :: r,[],_,_,_,_=>shr_nil' _
 | 0,a :: r,b :: s,_,_,_,h=>by
  rw [shr,if_neg]
  have:=h (by simp) (by simp)
  simpa using this
 | n + 1,[],b,h,_,_,_=>by simp at h
 | n + 1,a :: r,[],_,h,_,_=>by simp at h
 | n + 1,a :: r,b :: s,h1,h2,h3,h4=>by
  rw [List.take_succ_cons,List.take_succ_cons] at h3
  injection h3 with e1 e2
  rw [shr,if_pos e1,zCI (by simpa using h1) (by simpa using h2) e2 (fun a1 a2=>by simpa using h4 (by simpa using a1) (by simpa using a2))]
def stepZ (p x:Nat):Nat:=zig (wrap64 ((x:Int) - p))
def addZ (p y:Nat):Nat:=(((p:Int) + zag y) % 18446744073709551616).toNat
theorem zmU (p x:Nat):stepZ p x < 2 ^ 64:=by
 unfold stepZ;exact ziQ _ (by unfold wrap64;omega) (by unfold wrap64;omega)
theorem zsD (p y:Nat):addZ p y < 18446744073709551616:=by unfold addZ;omega
theorem zvQ {p x:Nat} (hx:x < 18446744073709551616):addZ p (stepZ p x)=x:=by
 unfold addZ stepZ;rw [zvV];unfold wrap64;omega
theorem zu9 {p y:Nat} (hy:y < 18446744073709551616):stepZ p (addZ p y)=y:=by
 have h:wrap64 ((addZ p y:Int) - p)=zag y:=by
  unfold addZ zag wrap64;split <;> omega
 unfold stepZ;rw [h,zvU]
def pc (kind:Int) (i:Nat) (p c:Ce):Bs :=
 if kind=3∨kind=4 then encU (shr p.2 c.2) ++ encB (c.2.drop (shr p.2 c.2))
 else if i=0/\kind≠0 then encU c.1 else encU (stepZ p.1 c.1)
theorem zn2 {kind:Int} (h:kind=3∨kind=4) (i:Nat) (p c:Ce):pc kind i p c=encU (shr p.2 c.2) ++ encB (c.2.drop (shr p.2 c.2)):=by unfold pc;rw [if_pos h]
theorem ziJ {kind:Int} (h:¬ (kind=3∨kind=4)) (h0:kind≠0) (p c:Ce):pc kind 0 p c=encU c.1:=by unfold pc;rw [if_neg h,if_pos ⟨rfl,h0⟩]
theorem zn3 {kind:Int} (h:¬ (kind=3∨kind=4)) {i:Nat} (h0:¬ (i=0/\kind≠0)) (p c:Ce):pc kind i p c=encU (stepZ p.1 c.1):=by unfold pc;rw [if_neg h,if_neg h0]
def lst (p:Ce):List Ce->Ce
 | []=>p
 | c :: r=>lst c r
theorem zn7:∀ (p:Ce) (l:List Ce) (c:Ce),lst p (l ++ [c])=c
 | p,[],c=>rfl
 | p,a :: r,c=>by rw [List.cons_append,lst,zn7 a r c]
def wrN (kind:Int):Nat->Ce->List Ce->Bs
 | _,_,[]=>[]
 | i,p,c :: r=>pc kind i p c ++ wrN kind (i + 1) c r
theorem zmK (kind:Int):∀ (i:Nat) (p:Ce) (l:List Ce) (c:Ce),wrN kind i p (l ++ [c])=wrN kind i p l ++ pc kind (i + l.length) (lst p l) c
 | i,p,[],c=>by rw [List.nil_append,wrN,wrN,wrN,lst];simp
 | i,p,a :: r,c=>by
  rw [List.cons_append,wrN,zmK kind (i + 1) a r c,wrN,lst,List.append_assoc,List.length_cons]
  rw [show i + 1 + r.length=i + (r.length + 1) from by omega]
def valB:List Nat->Nat
 | []=>0
 | b :: r=>b + 2 * valB r
def zbM:Nat->Nat->List Nat
 | 0,_=>[]
 | m + 1,c=>c % 2 :: zbM m (c / 2)
theorem zc8:∀ m c,(zbM m c).length=m
 | 0,c=>rfl
 | m + 1,c=>by rw [zbM,List.length_cons,zc8]
theorem ztS:∀ m c,∀ x ∈ zbM m c,x<=1
 | 0,c,x,h=>by rw [zbM] at h;simp at h
 | m + 1,c,x,h=>by
  rw [zbM] at h
  rcases List.mem_cons.1 h with rfl | h
  ·omega
  ·exact ztS m _ x h
theorem zqY:∀ {l:List Nat},(∀ x ∈ l,x<=1)->valB l < 2 ^ l.length
 | [],_=>by simp [valB]
 | b :: r,h=>by
  have:=zqY (l:=r) fun x hx=>h x (by simp [hx])
  have hb:=h b (by simp)
  rw [valB,List.length_cons,Nat.pow_succ];omega
theorem zo9:∀ m c,valB (zbM m c)=c % 2 ^ m
 | 0,c=>by simp [zbM,valB];omega
 | m + 1,c=>by
  rw [zbM,valB,zo9 m (c / 2),Nat.pow_succ,Nat.mul_comm (2 ^ m) 2,Nat.mod_mul]
theorem zqG:∀ {l:List Nat},(∀ x ∈ l,x<=1)->zbM l.length (valB l)=l
 | [],_=>rfl
 | b :: r,h=>by
  have hb:=h b (by simp)
  rw [List.length_cons,zbM,valB,show (b + 2 * valB r) % 2=b by omega,show (b + 2 * valB r) / 2=valB r by omega,zqG fun x hx=>h x (by simp [hx])]
theorem zo8:∀ (l:List Nat) (c:Nat),valB (l ++ [c])=valB l + 2 ^ l.length * c
 | [],c=>by simp [valB]
 | b :: r,c=>by
  rw [List.cons_append,valB,zo8 r c,valB,List.length_cons,Nat.pow_succ,Nat.mul_add,Nat.mul_comm (2 ^ r.length) 2,Nat.mul_assoc];omega
def ze0 (l:List Nat):Bs:=if h:l=[] then [] else UInt8.ofNat (valB (l.take 8)) :: ze0 (l.drop 8)
termination_by l.length
decreasing_by
 cases l with
 | nil=>exact absurd rfl h
 | cons a r=>rw [List.length_drop,List.length_cons];omega
theorem zb7:ze0 []=[]:=by rw [ze0];simp
theorem zb3 {l:List Nat} (h:l≠[]):ze0 l=UInt8.ofNat (valB (l.take 8)) :: ze0 (l.drop 8):=by rw [ze0];simp [h]
theorem zhK:∀ (q:Nat) (l:List Nat),l.length<=8 * q->(ze0 l).length=(l.length + 7) / 8
 | 0,l,h=>by
  have:l=[]:=List.length_eq_zero_iff.1 (by omega)
  subst this;rw [zb7];rfl
 | q + 1,l,h=>by
  by_cases h0:l=[]
  ·subst h0;rw [zb7];rfl
  ·have hp:0 < l.length:=List.length_pos_iff.2 h0
   rw [zb3 h0,List.length_cons,zhK q _ (by rw [List.length_drop];omega),List.length_drop]
   omega
theorem zp6 (l:List Nat):(ze0 l).length=(l.length + 7) / 8:=zhK l.length l (by omega)
theorem zlP:∀ (q:Nat) (l:List Nat) (c:Nat),l.length<=8 * q->(∀ x ∈ l,x<=1)->c<=1 ->
  (l.length % 8=0->ze0 (l ++ [c])=ze0 l ++ [UInt8.ofNat c]) /\
  (l.length % 8≠0->∃ ini x,ze0 l=ini ++ [x]/\x.toNat < 2 ^ (l.length % 8)/\ze0 (l ++ [c])=ini ++ [UInt8.ofNat (x.toNat + 2 ^ (l.length % 8) * c)])
 | 0,l,c,h,_,_=>by
  have:l=[]:=List.length_eq_zero_iff.1 (by omega)
  subst this
  refine ⟨fun _=>?_,fun h=>absurd rfl h⟩
  rw [zb7,List.nil_append,zb3 (by simp),List.nil_append]
  simp [valB,zb7]
 | q + 1,l,c,h,hl,hc=>by
  by_cases h8:l.length < 8
  ·by_cases h0:l=[]
   ·subst h0
    refine ⟨fun _=>?_,fun h=>absurd rfl h⟩
    rw [zb7,List.nil_append,zb3 (by simp),List.nil_append]
    simp [valB,zb7]
   ·have hp:0 < l.length:=List.length_pos_iff.2 h0
    have hv:=zqY hl
    have e:l.length % 8=l.length:=Nat.mod_eq_of_lt h8
    rw [e]
    have hpow:2 ^ l.length<=2 ^ 7:=Nat.pow_le_pow_right (by decide) (by omega)
    refine ⟨fun h=>by omega,fun _=>⟨[],UInt8.ofNat (valB l),?_,?_,?_⟩⟩
    ·rw [zb3 h0,List.take_of_length_le (by omega),List.drop_of_length_le (by omega),zb7];rfl
    ·rw [UInt8.toNat_ofNat',Nat.mod_eq_of_lt (by omega)];exact hv
    ·rw [zb3 (by simp),List.take_of_length_le (by simp;omega),List.drop_of_length_le (by simp;omega),zb7,zo8,UInt8.toNat_ofNat',Nat.mod_eq_of_lt (a:=valB l) (by omega)]
     rfl
  ·have h0:l≠[]:=by intro e;rw [e] at h8;simp at h8
   have e1:(l ++ [c]).take 8=l.take 8:=by rw [List.take_append,Nat.sub_eq_zero_of_le (by omega)];simp
   have e2:(l ++ [c]).drop 8=l.drop 8 ++ [c]:=by rw [List.drop_append,Nat.sub_eq_zero_of_le (by omega)];simp
   have hm:(l.drop 8).length % 8=l.length % 8:=by rw [List.length_drop];omega
   obtain ⟨i1,i2⟩:=zlP q (l.drop 8) c (by rw [List.length_drop];omega) (fun x hx=>hl x (List.mem_of_mem_drop hx)) hc
   rw [hm] at i1 i2
   rw [zb3 (l:=l ++ [c]) (by simp),e1,e2,zb3 h0]
   refine ⟨fun h=>by rw [i1 h];rfl,fun h=>?_⟩
   obtain ⟨ini,x,j1,j2,j3⟩:=i2 h
   exact ⟨UInt8.ofNat (valB (l.take 8)) :: ini,x,by rw [j1];rfl,j2,by rw [j3];rfl⟩
def wrC (kind:Int) (cs:List Ce):Bs:=if kind=2 then ze0 (cs.map fun c=>c.1) else wrN kind 0 (0,[]) cs
def errK (kind:Int):List Ce->Nat
 | []=>0
 | c :: r=>if checkC kind c.1 c.2≠0 then checkC kind c.1 c.2 else errK kind r
def wrE (kind:Int) (cs:List Ce):Nat:=if kind < 0∨5 < kind then 10 else errK kind cs
theorem zfH (kind:Int):∀ l m,errK kind (l ++ m)=if errK kind l≠0 then errK kind l else errK kind m
 | [],m=>by simp [errK]
 | x :: r,m=>by
  rw [List.cons_append,errK,zfH kind r m,errK]
  by_cases h:checkC kind x.1 x.2=0
  ·have h':¬ checkC kind x.1 x.2≠0:=fun h9=>h9 h
   rw [if_neg h',if_neg h']
  ·rw [if_pos h,if_pos h,if_pos h]
theorem zz2 {kind:Int} {c:Ce} {r:List Ce} (h:errK kind (c :: r)=0):checkC kind c.1 c.2=0/\errK kind r=0:=by
 rw [errK] at h;by_cases hx:checkC kind c.1 c.2≠0
 ·rw [if_pos hx] at h;exact absurd h hx
 rw [if_neg hx] at h;exact ⟨Decidable.of_not_not hx,h⟩
def rd1 (l:Bs) (kind:Int) (i:Nat) (p:Ce) (k:Nat):Ce × Nat × Nat :=
 if kind=3∨kind=4 then
  if (rdU l k p.2.length).2.2≠0 then ((0,[]),(rdU l k p.2.length).2.1,(rdU l k p.2.length).2.2)
  else if (rdB l (rdU l k p.2.length).2.1 (256 - (rdU l k p.2.length).1)).2.2≠0 then ((0,[]),(rdB l (rdU l k p.2.length).2.1 (256 - (rdU l k p.2.length).1)).2.1,(rdB l (rdU l k p.2.length).2.1 (256 - (rdU l k p.2.length).1)).2.2)
  else if shr p.2 (p.2.take (rdU l k p.2.length).1 ++ (rdB l (rdU l k p.2.length).2.1 (256 - (rdU l k p.2.length).1)).1)≠(rdU l k p.2.length).1 then ((0,[]),(rdB l (rdU l k p.2.length).2.1 (256 - (rdU l k p.2.length).1)).2.1,6)
  else if kind=4/\utf8 (p.2.take (rdU l k p.2.length).1 ++ (rdB l (rdU l k p.2.length).2.1 (256 - (rdU l k p.2.length).1)).1)=false then ((0,[]),(rdB l (rdU l k p.2.length).2.1 (256 - (rdU l k p.2.length).1)).2.1,11)
  else ((0,p.2.take (rdU l k p.2.length).1 ++ (rdB l (rdU l k p.2.length).2.1 (256 - (rdU l k p.2.length).1)).1),(rdB l (rdU l k p.2.length).2.1 (256 - (rdU l k p.2.length).1)).2.1,0)
 else if (rdU l k 18446744073709551615).2.2≠0 then ((0,[]),(rdU l k 18446744073709551615).2.1,(rdU l k 18446744073709551615).2.2)
 else if i=0/\kind≠0 then (((rdU l k 18446744073709551615).1,[]),(rdU l k 18446744073709551615).2.1,0)
 else ((addZ p.1 (rdU l k 18446744073709551615).1,[]),(rdU l k 18446744073709551615).2.1,0)
def rdN (l:Bs) (kind:Int):Nat->Ce->List Ce->Nat->List Ce × Nat × Nat
 | 0,_,acc,k=>(acc,k,0)
 | m + 1,p,acc,k=>if (rd1 l kind acc.length p k).2.2≠0 then ([],(rd1 l kind acc.length p k).2.1,(rd1 l kind acc.length p k).2.2) else rdN l kind m (rd1 l kind acc.length p k).1 (acc ++ [(rd1 l kind acc.length p k).1]) (rd1 l kind acc.length p k).2.1
def zbT (l:List Nat):List Ce:=l.map fun x=>(x,[])
def rdQ (l:Bs):Nat->Nat->List Ce->Nat->List Ce × Nat × Nat
 | 0,_,acc,k=>(acc,k,0)
 | q + 1,n,acc,k =>
  if l.length<=k then ([],k,5)
  else if (l.getD k 0).toNat / 2 ^ min 8 n≠0 then ([],k + 1,6)
  else rdQ l q (n - min 8 n) (acc ++ zbT (zbM (min 8 n) (l.getD k 0).toNat)) (k + 1)
def rdK (l:Bs) (kind n:Int) (k:Nat):List Ce × Nat × Nat :=
 if kind < 0∨5 < kind then ([],k,10)
 else if n < 0∨1024 < n then ([],k,3)
 else if kind=2 then rdQ l ((n.toNat + 7) / 8) n.toNat [] k
 else rdN l kind n.toNat (0,[]) [] k
/- -/
theorem zq0 {l:Bs} {k n:Nat} {x:Bs} (h:x=(l.drop k).take n):l.take (k + n)=l.take k ++ x:=by
 rw [h,List.take_add]
theorem zc3 {l:Bs} {k most:Nat} (hk:k<=l.length) (h:(rdU l k most).2.2=0) :
  l.take (rdU l k most).2.1=l.take k ++ encU (rdU l k most).1/\(rdU l k most).2.1<=l.length/\(rdU l k most).1<=most:=by
 unfold rdU at h ⊢;by_cases h1:(getU (l.drop k)).2.2≠0
 ·rw [if_pos h1] at h;exact absurd h h1
 rw [if_neg h1] at h ⊢;by_cases h2:most < (getU (l.drop k)).1
 ·rw [if_pos h2] at h;cases h
 rw [if_neg h2];have h0:(getU (l.drop k)).2.2=0:=Decidable.of_not_not h1;have hg:=zaU (l.drop k) h0;have he:encU (getU (l.drop k)).1=(l.drop k).take (getU (l.drop k)).2.1:=znC (l:=l.drop k) (by rw [<- h0]);rw [List.length_drop] at hg;exact ⟨zq0 he,by dsimp only;omega,by dsimp only;omega⟩
theorem zh2 {l:Bs} {k most:Nat} (hk:k<=l.length):(rdU l k most).2.1<=l.length:=by
 by_cases h:(rdU l k most).2.2=0
 ·exact (zc3 hk h).2.1
 unfold rdU at h ⊢;split
 ·exact hk
 rename_i h1;rw [if_neg h1] at h;split
 ·exact hk
 rename_i h2;rw [if_neg h2] at h;exact absurd rfl h
theorem zgE {l:Bs} {k:Nat} {most:Int} (hk:k<=l.length) (h:(rdB l k most).2.2=0) :
  l.take (rdB l k most).2.1=l.take k ++ encB (rdB l k most).1/\(rdB l k most).2.1<=l.length/\((rdB l k most).1.length:Int)<=most:=by
 unfold rdB at h ⊢;by_cases h1:(getB (l.drop k) most).2.2≠0
 ·rw [if_pos h1] at h;exact absurd h h1
 rw [if_neg h1];have h0:(getB (l.drop k) most).2.2=0:=Decidable.of_not_not h1;obtain ⟨he,h2,h3,_⟩:=znE (l:=l.drop k) (most:=most) (c:=(getB (l.drop k) most).1) (n:=(getB (l.drop k) most).2.1) (by rw [<- h0]);rw [List.length_drop] at h3;refine ⟨zq0 he,by dsimp only;omega,?_⟩;dsimp only;clear he h2 h3 h1 h;unfold getB at h0 ⊢;split at h0
 ·rename_i h1;exact absurd h0 h1
 rename_i h1;split at h0
 ·cases h0
 rename_i h2;split at h0
 ·cases h0
 rename_i h3;rw [if_neg h1,if_neg h2,if_neg h3];dsimp only;rw [List.length_take];omega
theorem zh4 {l:Bs} {k:Nat} {most:Int} (hk:k<=l.length):(rdB l k most).2.1<=l.length:=by
 by_cases h:(rdB l k most).2.2=0
 ·exact (zgE hk h).2.1
 unfold rdB at h ⊢;split
 ·exact hk
 rename_i h1;rw [if_neg h1] at h;exact absurd rfl h
theorem zh3 {l rest:Bs} {k x most:Nat} (hd:l.drop k=encU x ++ rest) (hx:x < 2 ^ 64) (hm:x<=most):rdU l k most=(x,k + (encU x).length,0):=by
 unfold rdU;rw [hd,zeM x hx rest];dsimp only;rw [if_neg (by omega),if_neg (by omega)]
theorem zEH {l n rest:Bs} {k:Nat} {most:Int} (hd:l.drop k=encB n ++ rest) (hn:n.length < 2 ^ 63) (hm:(n.length:Int)<=most):rdB l k most=(n,k + (encB n).length,0):=by
 unfold rdB;rw [hd,getB_put' n rest most hn hm];rfl
theorem zeP {l a b:Bs} {k:Nat} (hd:l.drop k=a ++ b):l.drop (k + a.length)=b:=by
 rw [<- List.drop_drop,hd,List.drop_left' rfl]
structure Fit (kind:Int) (c:Ce):Prop where
 ok:checkC kind c.1 c.2=0
 lt:c.1 < 18446744073709551616
theorem Fit.text {kind:Int} {c:Ce} (h:Fit kind c) (ht:kind=3∨kind=4):c.1=0/\c.2.length<=256/\(kind=4->utf8 c.2=true):=by
 have h0:=h.ok;unfold checkC at h0;rw [if_neg (by omega)] at h0;split at h0
 ·cases h0
 rename_i h1;split at h0
 ·cases h0
 rename_i h2;refine ⟨?_,by omega,fun h4=>?_⟩
 ·apply Decidable.of_not_not;intro h3;exact h1 (.inl ⟨ht,h3⟩)
 cases hu:utf8 c.2 with
 | true=>rfl
 | false=>exact absurd (.inr (.inr (.inr ⟨h4,hu⟩))) h1
theorem Fit.num {kind:Int} {c:Ce} (h:Fit kind c) (ht:¬ (kind=3∨kind=4)):c.2=[]/\(kind=2->c.1<=1):=by
 have h0:=h.ok;unfold checkC at h0;split at h0
 ·cases h0
 split at h0
 ·cases h0
 rename_i h1;refine ⟨?_,fun h2=>?_⟩
 ·apply Decidable.of_not_not;intro h3;exact h1 (.inr (.inl ⟨ht,h3⟩))
 apply Nat.le_of_not_lt;intro h3;exact h1 (.inr (.inr (.inl ⟨h2,h3⟩)))
theorem zdE {kind:Int} {n:Nat} (h:0<=kind/\kind<=5) (ht:¬ (kind=3∨kind=4)) (h2:kind=2->n<=1):checkC kind n []=0:=by
 unfold checkC;rw [if_neg (by omega),if_neg,if_neg (by simp)];rintro (⟨h3,_⟩ | ⟨_,h3⟩ | ⟨h3,h4⟩ | ⟨h3,_⟩)
 ·exact ht h3
 ·exact h3 rfl
 ·have:=h2 h3;omega
 exact ht (.inr h3)
theorem zfK {kind:Int} {t:Bs} (ht:kind=3∨kind=4) (hl:t.length<=256) (hu:kind=4->utf8 t=true):checkC kind 0 t=0:=by
 unfold checkC;rw [if_neg (by omega),if_neg,if_neg (by omega)];rintro (⟨_,h3⟩ | ⟨h3,_⟩ | ⟨h3,h4⟩ | ⟨h3,h4⟩)
 ·exact h3 rfl
 ·exact h3 ht
 ·omega
 rw [hu h3] at h4;cases h4
theorem zxT {l:Bs} {kind:Int} {i k:Nat} {p:Ce} (hk:k<=l.length) (hK:0<=kind/\kind<=5) (h2:kind≠2) (h:(rd1 l kind i p k).2.2=0) :
  l.take (rd1 l kind i p k).2.1=l.take k ++ pc kind i p (rd1 l kind i p k).1/\(rd1 l kind i p k).2.1<=l.length/\Fit kind (rd1 l kind i p k).1:=by
 by_cases ht:kind=3∨kind=4
 ·unfold rd1 at h ⊢;rw [if_pos ht] at h ⊢;by_cases ha:(rdU l k p.2.length).2.2=0
  ·obtain ⟨a1,a2,a3⟩:=zc3 hk ha;rw [if_neg (fun hh=>hh ha)] at h ⊢;rcases hr:rdU l k p.2.length with ⟨x,k1,ea⟩
   rw [hr] at h a1 a2 a3;dsimp only at h a1 a2 a3 ⊢;by_cases hb:(rdB l k1 (256 - (x:Int))).2.2=0
   ·obtain ⟨b1,b2,b3⟩:=zgE a2 hb;rw [if_neg (fun hh=>hh hb)] at h ⊢;rcases hs:rdB l k1 (256 - (x:Int)) with ⟨t,k2,eb⟩
    rw [hs] at h b1 b2 b3;dsimp only at h b1 b2 b3 ⊢;by_cases hc:shr p.2 (p.2.take x ++ t)=x
    ·rw [if_neg (fun hh=>hh hc)] at h ⊢;by_cases hu:kind=4/\utf8 (p.2.take x ++ t)=false
     ·rw [if_pos hu] at h;cases h
     rw [if_neg hu];have hxl:(p.2.take x).length=x:=(by rw [List.length_take];omega);dsimp only;refine ⟨?_,b2,?_,by dsimp only;omega⟩
     ·rw [zn2 ht];dsimp only;rw [hc,b1,a1,List.append_assoc,List.drop_left' hxl]
     dsimp only;refine zfK ht (by rw [List.length_append,hxl];omega) (fun h4=>?_);cases hv:utf8 (p.2.take x ++ t) with
     | true=>rfl
     | false=>exact absurd ⟨h4,hv⟩ hu
    rw [if_pos hc] at h;cases h
   rw [if_pos hb] at h;exact absurd h hb
  rw [if_pos ha] at h;exact absurd h ha
 unfold rd1 at h ⊢;rw [if_neg ht] at h ⊢;by_cases ha:(rdU l k 18446744073709551615).2.2=0
 ·obtain ⟨a1,a2,a3⟩:=zc3 hk ha;rw [if_neg (fun hh=>hh ha)];rcases hr:rdU l k 18446744073709551615 with ⟨x,k1,ea⟩
  rw [hr] at a1 a2 a3;dsimp only at a1 a2 a3 ⊢;by_cases hi:i=0/\kind≠0
  ·rw [if_pos hi];dsimp only;refine ⟨?_,a2,zdE hK ht (fun e=>absurd e h2),by dsimp only;omega⟩;rw [a1,hi.1,ziJ ht hi.2]
  rw [if_neg hi];dsimp only;refine ⟨?_,a2,zdE hK ht (fun e=>absurd e h2),zsD _ _⟩;rw [a1,zn3 ht hi];dsimp only;rw [zu9 (by omega)]
 rw [if_pos ha] at h;exact absurd h ha
theorem zp2 {l:Bs} {kind:Int} {i k:Nat} {p:Ce} (hk:k<=l.length):(rd1 l kind i p k).2.1<=l.length:=by
 have hU:=fun most=>zh2 (most:=most) hk;unfold rd1;split
 ·split
  ·exact hU _
  split
  ·exact zh4 (hU _)
  split
  ·exact zh4 (hU _)
  split <;> exact zh4 (hU _)
 split
 ·exact hU _
 split <;> exact hU _
theorem zAN {p c:Bs}:p.take (shr p c) ++ c.drop (shr p c)=c:=by
 rw [zsX,List.take_append_drop]
theorem zDM {l rest:Bs} {kind:Int} {i k:Nat} {p c:Ce} (h2:kind≠2) (hd:l.drop k=pc kind i p c ++ rest) (hc:Fit kind c):rd1 l kind i p k=(c,k + (pc kind i p c).length,0):=by
 by_cases ht:kind=3∨kind=4
 ·obtain ⟨c1,c2,c3⟩:=hc.text ht;obtain ⟨s1,s2⟩:=zsZ p.2 c.2;rw [zn2 ht] at hd ⊢;rw [List.append_assoc] at hd;have hU:=zh3 (most:=p.2.length) hd (by omega) s1;have hd2:=zeP hd;have hB:=zEH (most:=256 - (shr p.2 c.2:Int)) hd2 (by rw [List.length_drop];omega) (by rw [List.length_drop];omega);unfold rd1;rw [if_pos ht,hU];dsimp only;rw [hB];dsimp only;rw [if_neg (by omega),if_neg (by omega),zAN,if_neg (by omega),if_neg (fun h=>by rw [c3 h.1] at h;exact absurd h.2 (by decide))];rw [List.length_append];refine Prod.ext (Prod.ext c1.symm rfl) (Prod.ext (by dsimp only;omega) rfl)
 obtain ⟨c1,c2⟩:=hc.num ht;have hlt:=hc.lt;unfold rd1;rw [if_neg ht];by_cases hi:i=0/\kind≠0
 ·obtain ⟨rfl,hk0⟩:=hi;rw [ziJ ht hk0] at hd ⊢;rw [zh3 (most:=18446744073709551615) hd (by omega) (by omega)];dsimp only;rw [if_neg (by omega),if_pos ⟨rfl,hk0⟩];exact Prod.ext (Prod.ext rfl c1.symm) rfl
 rw [zn3 ht hi] at hd ⊢;have hs:=zmU p.1 c.1;rw [zh3 (most:=18446744073709551615) hd hs (by omega)];dsimp only;rw [if_neg (by omega),if_neg hi,zvQ hlt];exact Prod.ext (Prod.ext rfl c1.symm) rfl
theorem ziL {kind:Int} {r:List Ce} (h:errK kind r=0) (hl:∀ c ∈ r,c.1 < 18446744073709551616):∀ c ∈ r,Fit kind c:=by
 induction r with
 | nil=>intro c hc;simp at hc
 | cons a r ih =>
  obtain ⟨h1,h2⟩:=zz2 h;intro c hc;rcases List.mem_cons.1 hc with rfl | hc
  ·exact ⟨h1,hl _ (by simp)⟩
  exact ih h2 (fun x hx=>hl x (by simp [hx])) c hc
theorem zBM {kind:Int} {r:List Ce} (h:∀ c ∈ r,Fit kind c):errK kind r=0:=by
 induction r with
 | nil=>rfl
 | cons a r ih =>
  rw [errK,if_neg (fun hh=>hh (h a (by simp)).ok)];exact ih fun c hc=>h c (by simp [hc])
theorem zxM (l:Bs) {kind:Int} (hK:0<=kind/\kind<=5) (h2:kind≠2) (P:Bs) (p0:Ce):∀ (m:Nat) (acc:List Ce) (k:Nat),k<=l.length->l.take k=P ++ wrN kind 0 p0 acc->(∀ c ∈ acc,Fit kind c)->(rdN l kind m (lst p0 acc) acc k).2.2=0 ->
  l.take (rdN l kind m (lst p0 acc) acc k).2.1=P ++ wrN kind 0 p0 (rdN l kind m (lst p0 acc) acc k).1/\(rdN l kind m (lst p0 acc) acc k).2.1<=l.length/\(∀ c ∈ (rdN l kind m (lst p0 acc) acc k).1,Fit kind c)/\(rdN l kind m (lst p0 acc) acc k).1.length=acc.length + m
 | 0,acc,k,hk,ht,he,h=>by rw [rdN];exact ⟨ht,hk,he,rfl⟩
 | m + 1,acc,k,hk,ht,he,h=>by
  rw [rdN] at h ⊢
  by_cases h1:(rd1 l kind acc.length (lst p0 acc) k).2.2≠0
  ·rw [if_pos h1] at h;exact absurd h h1
  ·rw [if_neg h1] at h ⊢
   obtain ⟨c1,c2,c3⟩:=zxT hk hK h2 (Decidable.of_not_not h1)
   have ih:=zxM l hK h2 P p0 m (acc ++ [(rd1 l kind acc.length (lst p0 acc) k).1]) (rd1 l kind acc.length (lst p0 acc) k).2.1 c2 (by
    rw [c1,ht,zmK,List.append_assoc,Nat.zero_add]) (fun c hc=>by
    rcases List.mem_append.1 hc with hc | hc
    ·exact he c hc
    ·rw [List.mem_singleton] at hc;rw [hc];exact c3)
   rw [zn7] at ih
   have ih:=ih h
   refine ⟨ih.1,ih.2.1,ih.2.2.1,?_⟩
   rw [ih.2.2.2,List.length_append,List.length_singleton];omega
theorem zp0 (l:Bs) (kind:Int):∀ (m:Nat) (p:Ce) (acc:List Ce) (k:Nat),k<=l.length->(rdN l kind m p acc k).2.1<=l.length
 | 0,p,acc,k,hk=>by rw [rdN];exact hk
 | m + 1,p,acc,k,hk=>by
  rw [rdN]
  split
  ·exact zp2 hk
  ·exact zp0 l kind m _ _ _ (zp2 hk)
theorem zt7 {l:Bs} {kind:Int} {m k k':Nat} {p c:Ce} {acc:List Ce} (h:rd1 l kind acc.length p k=(c,k',0)):rdN l kind (m + 1) p acc k=rdN l kind m c (acc ++ [c]) k':=by
 rw [rdN,h,if_neg (by simp)]
theorem zxL (l m:Bs) {kind:Int} (h2:kind≠2):∀ (r:List Ce) (p:Ce) (acc:List Ce) (k:Nat),l.drop k=wrN kind acc.length p r ++ m->(∀ c ∈ r,Fit kind c)->rdN l kind r.length p acc k=(acc ++ r,k + (wrN kind acc.length p r).length,0)
 | [],p,acc,k,hd,he=>by rw [List.length_nil,rdN];simp [wrN]
 | c :: r,p,acc,k,hd,he=>by
  rw [wrN,List.append_assoc] at hd
  have hp:=zDM h2 hd (he c (by simp))
  have hd3:=zeP hd
  rw [show acc.length + 1=(acc ++ [c]).length from by simp] at hd3
  rw [List.length_cons,zt7 hp,zxL l m h2 r c (acc ++ [c]) _ hd3 (fun x hx=>he x (by simp [hx])),wrN,List.length_append]
  simp [Nat.add_assoc]
/- -/
theorem zEM {m c:Nat} (h:c / 2 ^ m=0):c < 2 ^ m:=by
 rcases Nat.div_eq_zero_iff.1 h with h | h
 ·have:=Nat.two_pow_pos m;omega
 exact h
theorem zkT (a b:List Nat):zbT (a ++ b)=zbT a ++ zbT b:=by unfold zbT;rw [List.map_append]
theorem zBW {l:Bs} {k:Nat} (h:k < l.length):l.take (k + 1)=l.take k ++ [l.getD k 0]:=by
 rw [List.take_succ_eq_append_getElem h];simp [List.getD,h]
theorem zrG {a r:List Nat} (h0:a≠[]) (h8:a.length<=8) (hr:a.length < 8->r=[]):ze0 (a ++ r)=UInt8.ofNat (valB a) :: ze0 r:=by
 rw [zb3 (by simp [h0])];by_cases h:a.length < 8
 ·have:=hr h;subst this;rw [List.append_nil,List.take_of_length_le h8,List.drop_of_length_le h8]
 have e:a.length=8:=by omega
 rw [List.take_left' e,List.drop_left' e]
theorem zxK (l:Bs):∀ (q n:Nat) (acc:List Ce) (k:Nat),q=(n + 7) / 8->k<=l.length->(rdQ l q n acc k).2.2=0 ->
  ∃ r,(rdQ l q n acc k).1=acc ++ zbT r/\r.length=n/\(∀ x ∈ r,x<=1)/\l.take (rdQ l q n acc k).2.1=l.take k ++ ze0 r/\(rdQ l q n acc k).2.1<=l.length
 | 0,n,acc,k,hq,hk,h=>by
  rw [rdQ]
  exact ⟨[],by simp [zbT],by simp;omega,by simp,by rw [zb7];simp,hk⟩
 | q + 1,n,acc,k,hq,hk,h=>by
  rw [rdQ] at h ⊢
  by_cases h1:l.length<=k
  ·rw [if_pos h1] at h;cases h
  ·rw [if_neg h1] at h ⊢
   by_cases h2:(l.getD k 0).toNat / 2 ^ min 8 n≠0
   ·rw [if_pos h2] at h;cases h
   ·rw [if_neg h2] at h ⊢
    have hb:=zEM (Decidable.of_not_not h2)
    obtain ⟨m,hm⟩:=nm_ (min 8 n)
    rw [<- hm] at h hb ⊢
    obtain ⟨r,r1,r2,r3,r4,r5⟩:=zxK l q (n - m) (acc ++ zbT (zbM m (l.getD k 0).toNat)) (k + 1) (by omega) (by omega) h
    refine ⟨zbM m (l.getD k 0).toNat ++ r,?_,?_,?_,?_,r5⟩
    ·rw [r1,zkT,List.append_assoc]
    ·rw [List.length_append,zc8,r2];omega
    ·intro x hx
     rcases List.mem_append.1 hx with hx | hx
     ·exact ztS _ _ x hx
     ·exact r3 x hx
    ·rw [r4,zBW (by omega),zrG (by intro e;have:=congrArg List.length e;rw [zc8] at this;simp at this;omega) (by rw [zc8];omega) (fun h=>by rw [zc8] at h;exact List.length_eq_zero_iff.1 (by omega))]
     rw [zo9,Nat.mod_eq_of_lt hb,List.append_assoc]
     simp
theorem zoX (l:Bs):∀ (q n:Nat) (acc:List Ce) (k:Nat),k<=l.length->(rdQ l q n acc k).2.1<=l.length
 | 0,n,acc,k,hk=>by rw [rdQ];exact hk
 | q + 1,n,acc,k,hk=>by
  rw [rdQ]
  split
  ·exact hk
  ·split
   ·dsimp only;omega
   ·exact zoX l q _ _ _ (by omega)
theorem zwT {r:List Nat} (h:∀ x ∈ r,x<=1):valB (r.take 8) < 2 ^ min 8 r.length/\valB (r.take 8) < 256/\zbM (min 8 r.length) (valB (r.take 8))=r.take 8:=by
 have h9:∀ x ∈ r.take 8,x<=1:=fun x hx=>h x (List.mem_of_mem_take hx);have hl:(r.take 8).length=min 8 r.length:=List.length_take;have hv:=zqY h9;have hp:2 ^ (r.take 8).length<=2 ^ 8:=Nat.pow_le_pow_right (by decide) (by omega);have hb:=zqG h9;rw [hl] at hv hb hp;exact ⟨hv,by omega,hb⟩
theorem zBV {l b:Bs} {k:Nat} {x:UInt8} (hd:l.drop k=x :: b):k < l.length/\l.getD k 0=x/\l.drop (k + 1)=b:=by
 have hlt:k < l.length:=by
  have:=congrArg List.length hd;rw [List.length_drop,List.length_cons] at this;omega
 rw [List.drop_eq_getElem_cons hlt] at hd;injection hd with e1 e2
 exact ⟨hlt,by rw [<- e1];simp [List.getD,hlt],e2⟩
theorem zxJ (l m:Bs):∀ (q:Nat) (r:List Nat) (acc:List Ce) (k:Nat),q=(r.length + 7) / 8->(∀ x ∈ r,x<=1)->l.drop k=ze0 r ++ m->rdQ l q r.length acc k=(acc ++ zbT r,k + (ze0 r).length,0)
 | 0,r,acc,k,hq,h1,hd=>by
  have:r=[]:=List.length_eq_zero_iff.1 (by omega)
  subst this
  rw [rdQ,zb7];simp [zbT]
 | q + 1,r,acc,k,hq,h1,hd=>by
  have h0:r≠[]:=by intro e;rw [e] at hq;simp at hq
  rw [zb3 h0,List.cons_append] at hd
  obtain ⟨d1,d2,d3⟩:=zBV hd
  obtain ⟨t1,t2,t3⟩:=zwT h1
  have hx:(l.getD k 0).toNat=valB (r.take 8):=by rw [d2,UInt8.toNat_ofNat'];omega
  rw [rdQ,if_neg (by omega),hx,if_neg (by rw [Nat.div_eq_of_lt t1];simp),t3,show r.length - min 8 r.length=(r.drop 8).length from by rw [List.length_drop];omega]
  rw [zxJ l m q (r.drop 8) _ _ (by rw [List.length_drop];omega) (fun x hx=>h1 x (List.mem_of_mem_drop hx)) d3]
  rw [List.append_assoc,<- zkT,List.take_append_drop,zb3 (l:=r) h0,List.length_cons]
  rw [Nat.add_assoc,Nat.add_comm 1]
theorem ztL {cs:List Ce} (h:∀ c ∈ cs,Fit 2 c):cs=zbT (cs.map fun c=>c.1)/\∀ x ∈ cs.map (fun c=>c.1),x<=1:=by
 refine ⟨?_,?_⟩
 ·unfold zbT;rw [List.map_map];refine (List.map_id cs).symm.trans (List.map_congr_left fun c hc=>?_);obtain ⟨h1,_⟩:=(h c hc).num (by decide);exact Prod.ext rfl h1
 intro x hx;obtain ⟨c,hc,rfl⟩:=List.mem_map.1 hx;exact ((h c hc).num (by decide)).2 rfl
theorem zC5 {r:List Nat} (h:∀ x ∈ r,x<=1):(zbT r).map (fun c:Ce=>c.1)=r/\∀ c ∈ zbT r,Fit 2 c:=by
 refine ⟨by unfold zbT;rw [List.map_map];exact List.map_id r,fun c hc=>?_⟩;obtain ⟨x,hx,rfl⟩:=List.mem_map.1 hc;have:=h x hx;exact ⟨zdE (by decide) (by decide) (fun _=>this),by dsimp only;omega⟩
theorem zn1 {l:Bs} {kind n:Int} {k:Nat} (hk:k<=l.length) (h:(rdK l kind n k).2.2=0) :
  l.take (rdK l kind n k).2.1=l.take k ++ wrC kind (rdK l kind n k).1/\(rdK l kind n k).2.1<=l.length/\(0<=kind/\kind<=5)/\(∀ c ∈ (rdK l kind n k).1,Fit kind c)/\(((rdK l kind n k).1.length:Nat):Int)=n/\n<=1024:=by
 unfold rdK at h ⊢;by_cases h0:kind < 0∨5 < kind
 ·rw [if_pos h0] at h;cases h
 rw [if_neg h0] at h ⊢;by_cases h1:n < 0∨1024 < n
 ·rw [if_pos h1] at h;cases h
 rw [if_neg h1] at h ⊢;by_cases h2:kind=2
 ·subst h2;rw [if_pos rfl] at h ⊢;obtain ⟨r,r1,r2,r3,r4,r5⟩:=zxK l _ n.toNat [] k rfl hk h;rw [List.nil_append] at r1;obtain ⟨b1,b2⟩:=zC5 r3;rw [r1];refine ⟨?_,r5,by omega,b2,?_,by omega⟩
  ·rw [r4];unfold wrC;rw [if_pos rfl,b1]
  unfold zbT;rw [List.length_map,r2];omega
 rw [if_neg h2] at h ⊢;obtain ⟨a,b,c,d⟩:=zxM l (by omega) h2 (l.take k) (0,[]) n.toNat [] k hk (by simp [wrN]) (by simp) h;rw [lst] at a b c d;refine ⟨?_,b,by omega,c,?_,by omega⟩
 ·rw [a];unfold wrC;rw [if_neg h2]
 rw [d,List.length_nil];omega
theorem zxN {l:Bs} {kind n:Int} {k:Nat} (hk:k<=l.length):(rdK l kind n k).2.1<=l.length:=by
 unfold rdK;split
 ·exact hk
 split
 ·exact hk
 split
 ·exact zoX l _ _ _ k hk
 exact zp0 l kind _ _ _ k hk
theorem zDJ {l m:Bs} {kind:Int} {cs:List Ce} {k:Nat} (hK:0<=kind/\kind<=5) (hF:∀ c ∈ cs,Fit kind c) (hn:cs.length<=1024) (hd:l.drop k=wrC kind cs ++ m) :
  rdK l kind cs.length k=(cs,k + (wrC kind cs).length,0):=by
 unfold rdK;rw [if_neg (by omega),if_neg (by omega),Int.toNat_natCast];unfold wrC at hd ⊢;by_cases h2:kind=2
 ·subst h2;rw [if_pos rfl] at hd ⊢;obtain ⟨b1,b2⟩:=ztL hF;have e:=zxJ l m _ _ [] k rfl b2 hd;rw [List.length_map,<- b1,List.nil_append] at e;rw [if_pos rfl];exact e
 rw [if_neg h2] at hd ⊢;rw [if_neg h2];have e:=zxL l m h2 cs (0,[]) [] k hd hF;rw [List.nil_append] at e;exact e
def sumT:List Ce->Nat
 | []=>0
 | c :: r=>c.2.length + sumT r
theorem ztO {x:Nat} (h:x<=256):(encU x).length<=2:=by
 have:=zpW h;have e:(encU 256).length=2:=by rw [zdR];decide
 omega
theorem zFW {kind:Int} {i:Nat} {p c:Ce} (hc:Fit kind c):(pc kind i p c).length<=10 + c.2.length:=by
 by_cases ht:kind=3∨kind=4
 ·obtain ⟨c1,c2,c3⟩:=hc.text ht;obtain ⟨s1,s2⟩:=zsZ p.2 c.2;rw [zn2 ht,List.length_append,zc0,List.length_drop];have h1:=ztO (x:=shr p.2 c.2) (by omega);have h2:=ztO (x:=c.2.length - shr p.2 c.2) (by omega);omega
 have hlt:=hc.lt;by_cases hi:i=0/\kind≠0
 ·obtain ⟨rfl,hk0⟩:=hi;rw [ziJ ht hk0];have:=zaC c.1 (by omega);omega
 rw [zn3 ht hi];have:=zaC _ (zmU p.1 c.1);omega
theorem zCD (kind:Int):∀ (i:Nat) (p:Ce) (cs:List Ce),(∀ c ∈ cs,Fit kind c)->(wrN kind i p cs).length<=10 * cs.length + sumT cs
 | i,p,[],h=>by simp [wrN,sumT]
 | i,p,c :: r,h=>by
  have:=zFW (i:=i) (p:=p) (h c (by simp))
  have ih:=zCD kind (i + 1) c r fun x hx=>h x (by simp [hx])
  rw [wrN,List.length_append,List.length_cons,sumT]
  omega
theorem zw1 {kind:Int} {cs:List Ce} (h:∀ c ∈ cs,Fit kind c):(wrC kind cs).length<=10 * cs.length + sumT cs:=by
 unfold wrC;split
 ·rw [zp6,List.length_map];omega
 exact zCD kind 0 _ cs h
/- -/
def zpC (a:Nat):List Nat->Nat
 | []=>a
 | x :: r=>zpC x r
def stp:Nat->List Nat->Bs
 | _,[]=>[]
 | a,x :: r=>encU (stepZ a x) ++ stp x r
theorem zlU:∀ (a:Nat) (l:List Nat) (x:Nat),zpC a (l ++ [x])=x
 | a,[],x=>rfl
 | a,y :: r,x=>by rw [List.cons_append,zpC,zlU y r x]
theorem zsW:∀ (a:Nat) (l:List Nat) (x:Nat),stp a (l ++ [x])=stp a l ++ encU (stepZ (zpC a l) x)
 | a,[],x=>by rw [List.nil_append,stp,stp,stp,zpC];simp
 | a,y :: r,x=>by rw [List.cons_append,stp,zsW y r x,stp,zpC,List.append_assoc]
theorem zqS {kind:Int} (ht:¬ (kind=3∨kind=4)):∀ (i:Nat) (p:Ce) (cs:List Ce),(i≠0∨kind=0)->wrN kind i p cs=stp p.1 (cs.map fun c=>c.1)
 | i,p,[],_=>rfl
 | i,p,c :: r,h=>by
  rw [wrN,zn3 ht (by omega),zqS ht (i + 1) c r (by omega),List.map_cons,stp]
theorem zCH:∀ (a:Nat) (l:List Nat),(stp a l).length<=10 * l.length
 | a,[]=>by simp [stp]
 | a,x :: r=>by
  have:=zCH x r
  have h2:=zaC _ (zmU a x)
  rw [stp,List.length_append,List.length_cons];omega
theorem zA5 (cs:List Ce):wrC 0 cs=stp 0 (cs.map fun c=>c.1):=by
 unfold wrC;rw [if_neg (by decide)];exact zqS (by decide) 0 (0,[]) cs (.inr rfl)
theorem zvZ {kind:Int} (hk:kind=1∨kind=5) (c:Ce) (r:List Ce):wrC kind (c :: r)=encU c.1 ++ stp c.1 (r.map fun c=>c.1):=by
 unfold wrC;rw [if_neg (by omega),wrN,ziJ (by omega) (by omega),zqS (by omega) 1 c r (.inl (by decide))]
theorem zmL (kind:Int):wrC kind []=[]:=by
 unfold wrC;split
 ·exact zb7
 rfl
theorem zAZ {l:Bs} {kind:Int} {i k:Nat} {p:Ce} (ht:¬ (kind=3∨kind=4)) (h0:¬ (i=0/\kind≠0)) (h:(rdU l k 18446744073709551615).2.2=0) :
  rd1 l kind i p k=((addZ p.1 (rdU l k 18446744073709551615).1,[]),(rdU l k 18446744073709551615).2.1,0):=by
 unfold rd1;rw [if_neg ht,if_neg (fun hh=>hh h),if_neg h0]
theorem zB0 {l:Bs} {kind:Int} {k:Nat} {p:Ce} (ht:¬ (kind=3∨kind=4)) (h0:kind≠0) (h:(rdU l k 18446744073709551615).2.2=0) :
  rd1 l kind 0 p k=(((rdU l k 18446744073709551615).1,[]),(rdU l k 18446744073709551615).2.1,0):=by
 unfold rd1;rw [if_neg ht,if_neg (fun hh=>hh h),if_pos ⟨rfl,h0⟩]
theorem zp1 {l:Bs} {kind:Int} {i k:Nat} {p:Ce} (ht:¬ (kind=3∨kind=4)) (h:(rdU l k 18446744073709551615).2.2≠0) :
  rd1 l kind i p k=((0,[]),(rdU l k 18446744073709551615).2.1,(rdU l k 18446744073709551615).2.2):=by
 unfold rd1;rw [if_neg ht,if_pos h]
theorem zn0 {l:Bs} {kind:Int} {m k k' x:Nat} {p c:Ce} {acc:List Ce} (h:rd1 l kind acc.length p k=(c,k',x)) (hx:x≠0):rdN l kind (m + 1) p acc k=([],k',x):=by
 rw [rdN,h,if_pos hx]
def rdT (l p:Bs) (k:Nat):Bs × Nat × Nat :=
 if (rdU l k p.length).2.2≠0 then ([],(rdU l k p.length).2.1,(rdU l k p.length).2.2)
 else if (rdB l (rdU l k p.length).2.1 (256 - (rdU l k p.length).1)).2.2≠0 then ([],(rdB l (rdU l k p.length).2.1 (256 - (rdU l k p.length).1)).2.1,(rdB l (rdU l k p.length).2.1 (256 - (rdU l k p.length).1)).2.2)
 else if shr p (p.take (rdU l k p.length).1 ++ (rdB l (rdU l k p.length).2.1 (256 - (rdU l k p.length).1)).1)≠(rdU l k p.length).1 then ([],(rdB l (rdU l k p.length).2.1 (256 - (rdU l k p.length).1)).2.1,6)
 else (p.take (rdU l k p.length).1 ++ (rdB l (rdU l k p.length).2.1 (256 - (rdU l k p.length).1)).1,(rdB l (rdU l k p.length).2.1 (256 - (rdU l k p.length).1)).2.1,0)
theorem zDL {l:Bs} {kind:Int} {i k:Nat} {p:Ce} (ht:kind=3∨kind=4) :
  rd1 l kind i p k=if (rdT l p.2 k).2.2≠0 then ((0,[]),(rdT l p.2 k).2.1,(rdT l p.2 k).2.2) else if kind=4/\utf8 (rdT l p.2 k).1=false then ((0,[]),(rdT l p.2 k).2.1,11) else ((0,(rdT l p.2 k).1),(rdT l p.2 k).2.1,0):=by
 unfold rd1 rdT;rw [if_pos ht];by_cases h1:(rdU l k p.2.length).2.2≠0
 ·rw [if_pos h1,if_pos h1];dsimp only;rw [if_pos h1]
 rw [if_neg h1,if_neg h1];by_cases h2:(rdB l (rdU l k p.2.length).2.1 (256 - (rdU l k p.2.length).1)).2.2≠0
 ·rw [if_pos h2,if_pos h2];dsimp only;rw [if_pos h2]
 rw [if_neg h2,if_neg h2];by_cases h3:shr p.2 (p.2.take (rdU l k p.2.length).1 ++ (rdB l (rdU l k p.2.length).2.1 (256 - (rdU l k p.2.length).1)).1)≠(rdU l k p.2.length).1
 ·rw [if_pos h3,if_pos h3];rfl
 rw [if_neg h3,if_neg h3];rfl
theorem zAW {l p:Bs} {k:Nat} (hk:k<=l.length) (hp:p.length<=256):(rdT l p k).1.length<=256:=by
 unfold rdT;by_cases h1:(rdU l k p.length).2.2≠0
 ·rw [if_pos h1];simp
 rw [if_neg h1];have hu:=zc3 hk (Decidable.of_not_not h1);by_cases h2:(rdB l (rdU l k p.length).2.1 (256 - (rdU l k p.length).1)).2.2≠0
 ·rw [if_pos h2];simp
 rw [if_neg h2];have hb:=zgE hu.2.1 (Decidable.of_not_not h2);split
 ·simp
 dsimp only;rw [List.length_append,List.length_take];omega
