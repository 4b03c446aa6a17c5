/- -/
import Derived.Test.YtooailmghinicaaGreatDoorWZSameW
set_option linter.unusedVariables false
set_option linter.unusedSimpArgs false
set_option maxRecDepth 1000000
namespace Go.Proofs.YtooailmghinicaaGreatDoor
open Go.RowKit
def zbW (l:Bs) (ah:List Bs) (k:Nat):Col × Nat × Nat :=
 if (rdB l k 32).2.2≠0 then (([],0),(rdB l k 32).2.1,(rdB l k 32).2.2)
 else if fine (rdB l k 32).1 ah=false then (([],0),(rdB l k 32).2.1,2)
 else if ¬ (rdB l k 32).2.1 < l.length then (([],0),(rdB l k 32).2.1,5)
 else if 5 < at8 l (rdB l k 32).2.1 then (([],0),(rdB l k 32).2.1 + 1,10)
 else (((rdB l k 32).1,at8 l (rdB l k 32).2.1),(rdB l k 32).2.1 + 1,0)
def zaX (l:Bs):Nat->List Col->Nat->List Col × Nat × Nat
 | 0,acc,k=>(acc,k,0)
 | m + 1,acc,k=>if (zbW l (names acc) k).2.2≠0 then ([],(zbW l (names acc) k).2.1,(zbW l (names acc) k).2.2) else zaX l m (acc ++ [(zbW l (names acc) k).1]) (zbW l (names acc) k).2.1
def rdTake (l:Bs):List Col × Nat × Nat :=
 if (rdU l 0 8).2.2≠0 then ([],(rdU l 0 8).2.1,(rdU l 0 8).2.2)
 else if (rdU l 0 8).1=0 then ([],(rdU l 0 8).2.1,4)
 else zaX l (rdU l 0 8).1 [] (rdU l 0 8).2.1
theorem zfP {l:Bs} {ah:List Bs} {k:Nat} (h:(rdB l k 32).2.2≠0):zbW l ah k=(([],0),(rdB l k 32).2.1,(rdB l k 32).2.2):=by unfold zbW;rw [if_pos h]
theorem zgW {l:Bs} {ah:List Bs} {k:Nat} (h:(rdB l k 32).2.2=0) (hf:fine (rdB l k 32).1 ah=false):zbW l ah k=(([],0),(rdB l k 32).2.1,2):=by unfold zbW;rw [if_neg (fun hh=>hh h),if_pos hf]
theorem zfO {l:Bs} {ah:List Bs} {k:Nat} (h:(rdB l k 32).2.2=0) (hf:fine (rdB l k 32).1 ah=true) (hs:¬ (rdB l k 32).2.1 < l.length):zbW l ah k=(([],0),(rdB l k 32).2.1,5):=by
 unfold zbW;rw [if_neg (fun hh=>hh h),if_neg (by rw [hf];decide),if_pos hs]
theorem zgX {l:Bs} {ah:List Bs} {k:Nat} (h:(rdB l k 32).2.2=0) (hf:fine (rdB l k 32).1 ah=true) (hs:(rdB l k 32).2.1 < l.length) (hk:5 < at8 l (rdB l k 32).2.1):zbW l ah k=(([],0),(rdB l k 32).2.1 + 1,10):=by
 unfold zbW;rw [if_neg (fun hh=>hh h),if_neg (by rw [hf];decide),if_neg (fun hh=>hh hs),if_pos hk]
theorem rdCol_ok {l:Bs} {ah:List Bs} {k:Nat} (h:(rdB l k 32).2.2=0) (hf:fine (rdB l k 32).1 ah=true) (hs:(rdB l k 32).2.1 < l.length) (hk:¬ 5 < at8 l (rdB l k 32).2.1):zbW l ah k=(((rdB l k 32).1,at8 l (rdB l k 32).2.1),(rdB l k 32).2.1 + 1,0):=by
 unfold zbW;rw [if_neg (fun hh=>hh h),if_neg (by rw [hf];decide),if_neg (fun hh=>hh hs),if_neg hk]
theorem zbM {l:Bs} {m:Nat} {acc:List Col} {k k' x:Nat} (h:zbW l (names acc) k=(([],0),k',x)) (hx:x≠0):zaX l (m + 1) acc k=([],k',x):=by
 rw [zaX,h,if_pos hx]
theorem rdCols_go {l:Bs} {m:Nat} {acc:List Col} {k k':Nat} {c:Col} (h:zbW l (names acc) k=(c,k',0)):zaX l (m + 1) acc k=zaX l m (acc ++ [c]) k':=by
 rw [zaX,h,if_neg (by simp)]
def readE (l:Bs):Nat:=told l (rdTake l).2.1 (rdTake l).2.2
def readC (l:Bs):List Col:=if readE l=0 then (rdTake l).1 else []
/- -/
theorem take_plus {l:Bs} {k n:Nat} {x:Bs} (h:x=(l.drop k).take n):l.take (k + n)=l.take k ++ x:=by
 rw [h,List.take_add]
theorem rdU_enc {l:Bs} {k most:Nat} (hk:k<=l.length) (h:(rdU l k most).2.2=0) :
  l.take (rdU l k most).2.1=l.take k ++ encU (rdU l k most).1/\(rdU l k most).2.1<=l.length/\(rdU l k most).1<=most:=by
 unfold rdU at h ⊢;by_cases h1:(getU (l.drop k)).2.2≠0
 ·rw [if_pos h1] at h;exact absurd h h1
 rw [if_neg h1] at h ⊢;by_cases h2:most < (getU (l.drop k)).1
 ·rw [if_pos h2] at h;cases h
 rw [if_neg h2];have h0:(getU (l.drop k)).2.2=0:=Decidable.of_not_not h1;have hg:=zaY (l.drop k) h0;have he:encU (getU (l.drop k)).1=(l.drop k).take (getU (l.drop k)).2.1:=getU_enc (l:=l.drop k) (by rw [<- h0]);rw [List.length_drop] at hg;exact ⟨take_plus he,by dsimp only;omega,by dsimp only;omega⟩
theorem getB_most {l:Bs} {most:Nat} (h:(getB l (most:Int)).2.2=0):(getB l (most:Int)).1.length<=most:=by
 unfold getB at h ⊢;split at h
 ·rename_i h1;exact absurd h h1
 rename_i h1;split at h
 ·cases h
 rename_i h2;split at h
 ·cases h
 rename_i h3;rw [if_neg h1,if_neg h2,if_neg h3];dsimp only;rw [List.length_take];omega
theorem rdB_enc {l:Bs} {k:Nat} (hk:k<=l.length) (h:(rdB l k 32).2.2=0) :
  l.take (rdB l k 32).2.1=l.take k ++ encB (rdB l k 32).1/\(rdB l k 32).2.1<=l.length/\(rdB l k 32).1.length<=32:=by
 unfold rdB at h ⊢;by_cases h1:(getB (l.drop k) 32).2.2≠0
 ·rw [if_pos h1] at h;exact absurd h h1
 rw [if_neg h1];have h0:(getB (l.drop k) 32).2.2=0:=Decidable.of_not_not h1;obtain ⟨he,h2,h3,_⟩:=getB_enc (l:=l.drop k) (most:=32) (c:=(getB (l.drop k) 32).1) (n:=(getB (l.drop k) 32).2.1) (by rw [<- h0]);rw [List.length_drop] at h3;exact ⟨take_plus he,by dsimp only;omega,getB_most (most:=32) h0⟩
theorem rdCol_enc {l:Bs} {ah:List Bs} {k:Nat} (hk:k<=l.length) (h:(zbW l ah k).2.2=0) :
  l.take (zbW l ah k).2.1=l.take k ++ wrCol (zbW l ah k).1/\(zbW l ah k).2.1<=l.length/\zaK ah (zbW l ah k).1=0:=by
 by_cases h1:(rdB l k 32).2.2=0
 ·obtain ⟨he,hle,h32⟩:=rdB_enc hk h1;by_cases hf:fine (rdB l k 32).1 ah=true
  ·by_cases hs:(rdB l k 32).2.1 < l.length
   ·by_cases h5:5 < at8 l (rdB l k 32).2.1
    ·rw [zgX h1 hf hs h5] at h;cases h
    rw [rdCol_ok h1 hf hs h5];dsimp only;have h8:0<=at8 l (rdB l k 32).2.1:=(by unfold at8;omega);refine ⟨?_,by omega,?_⟩
    ·rw [zaF hs 0,he];unfold wrCol;dsimp only;rw [show UInt8.ofNat (at8 l (rdB l k 32).2.1).toNat=l.getD (rdB l k 32).2.1 0 from by unfold at8;rw [Int.toNat_natCast];simp,List.append_assoc]
    unfold zaK;dsimp only;rw [if_neg (by omega),if_neg (by rw [hf];simp),if_neg (by omega)]
   rw [zfO h1 hf hs] at h;cases h
  have hf2:fine (rdB l k 32).1 ah=false:=by simpa using hf
  rw [zgW h1 hf2] at h;cases h
 rw [zfP h1] at h;exact absurd h h1
theorem zhO:∀ (acc:List Col) (ah:List Bs) (c:Col),errFrom ah acc=0->zaK (ah ++ names acc) c=0->errFrom ah (acc ++ [c])=0
 | [],ah,c,_,hc=>by
  rw [List.nil_append,errFrom,if_neg (by simpa [names] using hc),errFrom]
 | x :: r,ah,c,h,hc=>by
  rw [errFrom] at h
  by_cases hx:zaK ah x≠0
  ·rw [if_pos hx] at h;exact absurd h hx
  ·rw [if_neg hx] at h
   rw [List.cons_append,errFrom,if_neg hx]
   refine zhO r _ c h ?_
   rw [List.append_assoc]
   exact hc
theorem rdCols_enc (l P:Bs):∀ (m:Nat) (acc:List Col) (k:Nat),k<=l.length->l.take k=P ++ zaM acc->errFrom [] acc=0->(zaX l m acc k).2.2=0 ->
  l.take (zaX l m acc k).2.1=P ++ zaM (zaX l m acc k).1/\(zaX l m acc k).2.1<=l.length/\errFrom [] (zaX l m acc k).1=0/\(zaX l m acc k).1.length=acc.length + m
 | 0,acc,k,hk,ht,he,h=>by rw [zaX];exact ⟨ht,hk,he,rfl⟩
 | m + 1,acc,k,hk,ht,he,h=>by
  rw [zaX] at h ⊢
  by_cases h1:(zbW l (names acc) k).2.2≠0
  ·rw [if_pos h1] at h;exact absurd h h1
  ·rw [if_neg h1] at h ⊢
   obtain ⟨c1,c2,c3⟩:=rdCol_enc hk (Decidable.of_not_not h1)
   have ih:=rdCols_enc l P m (acc ++ [(zbW l (names acc) k).1]) (zbW l (names acc) k).2.1 c2 (by
    rw [c1,ht];unfold zaM;rw [List.flatMap_append,List.append_assoc];simp) (zhO acc [] _ he (by simpa using c3)) h
   refine ⟨ih.1,ih.2.1,ih.2.2.1,?_⟩
   rw [ih.2.2.2,List.length_append,List.length_singleton];omega
theorem rdTake_enc {l:Bs} (h:(rdTake l).2.2=0):l.take (rdTake l).2.1=wrS (rdTake l).1/\(rdTake l).2.1<=l.length/\errS (rdTake l).1=0:=by
 unfold rdTake at h ⊢;by_cases h1:(rdU l 0 8).2.2≠0
 ·rw [if_pos h1] at h;exact absurd h h1
 rw [if_neg h1] at h ⊢;by_cases h2:(rdU l 0 8).1=0
 ·rw [if_pos h2] at h;cases h
 rw [if_neg h2] at h ⊢;obtain ⟨u1,u2,u3⟩:=rdU_enc (Nat.zero_le _) (Decidable.of_not_not h1);rw [List.take_zero,List.nil_append] at u1;obtain ⟨r1,r2,r3,r4⟩:=rdCols_enc l (encU (rdU l 0 8).1) (rdU l 0 8).1 [] (rdU l 0 8).2.1 u2 (by rw [u1];simp [zaM]) rfl h;rw [List.length_nil,Nat.zero_add] at r4;refine ⟨?_,r2,?_⟩
 ·rw [r1];unfold wrS;rw [r4]
 unfold errS;rw [if_neg (by omega),if_neg (by omega)];exact r3
theorem told_zero {l:Bs} {k x:Nat} (h:told l k x=0):x=0/\l.length<=k:=by
 unfold told at h;split at h
 ·rename_i hx;split at h
  ·cases h
  exact ⟨hx,by omega⟩
 rename_i hx;exact absurd h hx
theorem read_one {l:Bs} (h:readE l=0):errS (readC l)=0/\wrS (readC l)=l/\(rdTake l).2.1=l.length:=by
 obtain ⟨h1,h2⟩:=told_zero h;obtain ⟨a,b,c⟩:=rdTake_enc h1;have hk:(rdTake l).2.1=l.length:=by omega
 rw [hk,List.take_of_length_le l_] at a;unfold readC;rw [if_pos h];exact ⟨c,a.symm,hk⟩
/- -/
/- -/
def frX (k:Nat) (l:Bs):Bs:=UInt8.ofNat k :: encB l
def frB (k:Nat) (l:Bs):Bs:=frX k l ++ Crc.put (Crc.sum (frX k l))
def wrF (k:Int) (l:Bs):Bs × Nat :=
 if k < 0∨2 < k then ([],10) else if 1048576 < l.length then ([],13) else (frB k.toNat l,0)
def nxF (b:Bs):Nat × Bs × Nat × Nat :=
 if b.length=0 then (0,[],0,5)
 else if 2 < at8 b 0 then (0,[],0,10)
 else if (getB (b.drop 1) 1048576).2.2≠0 then (0,[],0,(getB (b.drop 1) 1048576).2.2)
 else if b.length < (getB (b.drop 1) 1048576).2.1 + 5 then (0,[],0,5)
 else if Crc.good (b.take ((getB (b.drop 1) 1048576).2.1 + 5)) then ((at8 b 0).toNat,(getB (b.drop 1) 1048576).1,(getB (b.drop 1) 1048576).2.1 + 5,0)
 else (0,[],0,8)
theorem zgZ (k:Nat) (l:Bs):(frX k l).length=1 + (encU l.length).length + l.length:=by
 simp [frX,encB];omega
theorem zh0 (k:Nat) (l:Bs):(frB k l).length=5 + (encU l.length).length + l.length:=by
 rw [frB,List.length_append,zgZ,Crc.put_length];omega
theorem zgD (k:Nat) {l:Bs} (h:l.length<=1048576):(frB k l).length<=1048576 + 15:=by
 have:=zaA l.length (by omega);rw [zh0];omega
theorem ze1 (k:Nat) (l:Bs):6<=(frB k l).length:=by
 have:=encU_pos l.length;rw [zh0];omega
theorem getB_mostF {b l:Bs} {n:Nat} (h:getB b l.length=(l,n,0)) (hl:l.length<=1048576):getB b 1048576=(l,n,0):=by
 unfold getB at h ⊢;by_cases h1:(getU b).2.2≠0
 ·rw [if_pos h1] at h;exact absurd (congrArg (fun x=>x.2.2) h) h1
 rw [if_neg h1] at h ⊢;by_cases h2:(l.length:Int) < 0∨(l.length:Int) < (getU b).1
 ·rw [if_pos h2] at h;simp at h
 rw [if_neg h2] at h;rw [if_neg (by omega)];exact h
theorem getB_frame (l m:Bs) (hl:l.length<=1048576):getB (encB l ++ m) 1048576=(l,(encB l).length,0) :=
 getB_mostF (getB_put l m (by omega)) hl
theorem at8_zero (c:UInt8) (l:Bs):at8 (c :: l) 0=(c.toNat:Int):=by simp [at8]
theorem frB_cons (k:Nat) (l:Bs):frB k l=UInt8.ofNat k :: (encB l ++ Crc.put (Crc.sum (frX k l))):=by
 rw [frB];rfl
theorem nxF_put (k:Nat) (hk:k<=2) (l m:Bs) (hl:l.length<=1048576):nxF (frB k l ++ m)=(k,l,(frB k l).length,0):=by
 have hb:=getB_frame l (Crc.put (Crc.sum (frX k l)) ++ m) hl;have hd:(frB k l ++ m).drop 1=encB l ++ (Crc.put (Crc.sum (frX k l)) ++ m):=by
  rw [frB_cons];simp
 have ha:at8 (frB k l ++ m) 0=(k:Int):=by
  rw [frB_cons,List.cons_append,at8_zero,UInt8.toNat_ofNat'];omega
 have hlen:(encB l).length + 5=(frB k l).length:=by rw [zh0,zbI];omega
 have hp:=ze1 k l;have hg:Crc.good ((frB k l ++ m).take (frB k l).length):=by
  rw [List.take_left];exact Crc.good_seal _
 unfold nxF;rw [hd,hb,ha];dsimp only;have h1:¬ (frB k l ++ m).length=0:=by rw [List.length_append];omega
 have h2:¬ (2:Int) < (k:Int):=by omega
 have h3:¬ (frB k l ++ m).length < (frB k l).length:=by simp
 rw [hlen,if_neg h1,if_neg h2,if_neg (by simp),if_neg h3,if_pos hg];simp
theorem getB_len {b:Bs} {p:Bs} {n e:Nat} (h:getB b 1048576=(p,n,e)):p.length<=1048576/\n<=b.length/\n<=1048586/\e<=13:=by
 have hg:=zaY b;have hc:=zdL b;unfold getB at h;by_cases h1:(getU b).2.2≠0
 ·rw [if_pos h1] at h;simp only [Prod.mk.injEq] at h;obtain ⟨rfl,rfl,rfl⟩:=h;refine ⟨by simp,by omega,by omega,by omega⟩
 rw [if_neg h1] at h;obtain ⟨g1,g2,g3,g4⟩:=hg (by omega);by_cases h2:(1048576:Int) < 0∨(1048576:Int) < (getU b).1
 ·rw [if_pos h2] at h;simp only [Prod.mk.injEq] at h;obtain ⟨rfl,rfl,rfl⟩:=h;refine ⟨by simp,by omega,by omega,by omega⟩
 rw [if_neg h2] at h;by_cases h3:b.length - (getU b).2.1 < (getU b).1
 ·rw [if_pos h3] at h;simp only [Prod.mk.injEq] at h;obtain ⟨rfl,rfl,rfl⟩:=h;refine ⟨by simp,by omega,by omega,by omega⟩
 rw [if_neg h3] at h;simp only [Prod.mk.injEq] at h;obtain ⟨rfl,rfl,rfl⟩:=h;refine ⟨by simp;omega,by omega,by omega,by omega⟩
theorem nxF_some {b:Bs} (h:(nxF b).2.2.2=0):5<=(nxF b).2.2.1/\(nxF b).2.2.1<=b.length/\(nxF b).2.1.length<=1048576/\(nxF b).1<=2:=by
 have hl:=getB_len (b:=b.drop 1) (p:=(getB (b.drop 1) 1048576).1) (n:=(getB (b.drop 1) 1048576).2.1) (e:=(getB (b.drop 1) 1048576).2.2) rfl;unfold nxF at h ⊢;by_cases h1:b.length=0
 ·rw [if_pos h1] at h;simp at h
 rw [if_neg h1] at h ⊢;by_cases h2:2 < at8 b 0
 ·rw [if_pos h2] at h;simp at h
 rw [if_neg h2] at h ⊢;by_cases h3:(getB (b.drop 1) 1048576).2.2≠0
 ·rw [if_pos h3] at h;exact absurd h h3
 rw [if_neg h3] at h ⊢;by_cases h4:b.length < (getB (b.drop 1) 1048576).2.1 + 5
 ·rw [if_pos h4] at h;simp at h
 rw [if_neg h4] at h ⊢;by_cases h5:Crc.good (b.take ((getB (b.drop 1) 1048576).2.1 + 5))
 ·rw [if_pos h5];refine ⟨by simp,Nat.not_lt.1 h4,hl.1,?_⟩;have:=zeX b 0;show (at8 b 0).toNat<=2;omega
 rw [if_neg h5] at h;simp at h
/- -/
open Go.Shelf
def entP (cs:List ColB) (x:EntB):Bs:=encU x.2.1.toNat ++ btWr (kindsL cs) (psL x.2.2)
def entW (cs:List ColB) (x:EntB):Bs × Nat:=if entE cs x≠0 then ([],entE cs x) else wrF (2 - x.1) (entP cs x)
def entT (cs:List ColB) (l:Bs):(Nat × List Bp) × Nat × Nat :=
 if (rdU l 0 281474976710656).2.2≠0 then ((0,[]),(rdU l 0 281474976710656).2.1,(rdU l 0 281474976710656).2.2)
 else (((rdU l 0 281474976710656).1,(batS cs l (rdU l 0 281474976710656).2.1).1),(batS cs l (rdU l 0 281474976710656).2.1).2.1,(batS cs l (rdU l 0 281474976710656).2.1).2.2)
def entRE (cs:List ColB) (kind:Int) (l:Bs):Nat :=
 if errS (colsL cs)≠0 then errS (colsL cs) else if kind≠1/\kind≠2 then 10 else told l (entT cs l).2.1 (entT cs l).2.2
def entRV (cs:List ColB) (kind:Int) (l:Bs):Int × Int × List Bp :=
 if entRE cs kind l=0 then (2 - kind,((entT cs l).1.1:Int),(entT cs l).1.2) else (0,0,[])
theorem wrF_small (k:Int) (l:Bs):(wrF k l).1.length<=1048591:=by
 unfold wrF;split
 ·simp
 split
 ·simp
 exact zgD _ (by omega)
theorem entW_small (cs:List ColB) (x:EntB):(entW cs x).1.length<=1048591:=by
 unfold entW;split
 ·simp
 exact wrF_small _ _
theorem entT_no {cs:List ColB} {l:Bs} (h:(rdU l 0 281474976710656).2.2≠0):(entT cs l).2.1=(rdU l 0 281474976710656).2.1/\(entT cs l).2.2=(rdU l 0 281474976710656).2.2:=by
 unfold entT;rw [if_pos h];exact ⟨rfl,rfl⟩
theorem entT_ok {cs:List ColB} {l:Bs} (h:(rdU l 0 281474976710656).2.2=0) :
  (entT cs l).1.1=(rdU l 0 281474976710656).1/\(entT cs l).1.2=(batS cs l (rdU l 0 281474976710656).2.1).1/\(entT cs l).2=(batS cs l (rdU l 0 281474976710656).2.1).2:=by
 unfold entT;rw [if_neg (fun hh=>hh h)];exact ⟨rfl,rfl,rfl⟩
/- -/
theorem ent_back {cs:List ColB} {x:EntB} (hP:PSO x.2.2) (h:entE cs x=0) :
  entRE cs (2 - x.1) (entP cs x)=0/\entRV cs (2 - x.1) (entP cs x)=(x.1,x.2.1,psL x.2.2):=by
 obtain ⟨hS,hk,hs,hck⟩:=zb5.1 h;obtain ⟨kind,seq,ps⟩:=x;dsimp only at hP hk hs hck ⊢;obtain ⟨n,rfl⟩:=Int.eq_ofNat_of_zero_le hs.1;have hp:entP cs (kind,(n:Int),ps)=encU n ++ btWr (kindsL cs) (psL ps):=by unfold entP;dsimp only;rw [Int.toNat_natCast]
 have h1:rdU (entP cs (kind,(n:Int),ps)) 0 281474976710656=(n,0 + (encU n).length,0):=zh5 (rest:=btWr (kindsL cs) (psL ps)) (by rw [List.drop_zero];exact hp) (by omega) (by omega);have h2:batS cs (entP cs (kind,(n:Int),ps)) (0 + (encU n).length)=(psL ps,0 + (encU n).length + (btWr (kindsL cs) (psL ps)).length,0):=bat_put hP hck (m:=[]) (by rw [hp,Nat.zero_add,List.drop_left,List.append_nil]);have hT:entT cs (entP cs (kind,(n:Int),ps))=((n,psL ps),0 + (encU n).length + (btWr (kindsL cs) (psL ps)).length,0):=by
  unfold entT;rw [h1,if_neg (by simp)];dsimp only;rw [h2]
 have hl:(entP cs (kind,(n:Int),ps)).length=(encU n).length + (btWr (kindsL cs) (psL ps)).length:=by rw [hp,List.length_append]
 have hE:entRE cs (2 - kind) (entP cs (kind,(n:Int),ps))=0:=by
  unfold entRE;rw [if_neg (fun h=>h hS),if_neg (by omega),hT];unfold told;rw [if_pos rfl,if_neg (by dsimp only;omega)]
 refine ⟨hE,?_⟩;unfold entRV;rw [if_pos hE,hT];dsimp only;rw [show 2 - (2 - kind)=kind by omega]
theorem ent_one {cs:List ColB} {kind:Int} {l:Bs} {ps:List PairB} (hP:PSO ps) (h:entRE cs kind l=0) (hps:psL ps=(entRV cs kind l).2.2) :
  (kind=1∨kind=2)/\(entRV cs kind l).1=2 - kind/\entE cs ((entRV cs kind l).1,(entRV cs kind l).2.1,ps)=0/\entP cs ((entRV cs kind l).1,(entRV cs kind l).2.1,ps)=l:=by
 have hV:entRV cs kind l=(2 - kind,((entT cs l).1.1:Int),(entT cs l).1.2):=by unfold entRV;rw [if_pos h]
 rw [hV] at hps ⊢;dsimp only at hps ⊢;unfold entRE at h;have hS:errS (colsL cs)=0:=by
  apply Decidable.of_not_not;intro h9;rw [if_pos h9] at h;exact h9 h
 rw [if_neg (fun h=>h hS)] at h;have hk:kind=1∨kind=2:=by
  apply Decidable.of_not_not;intro h9;rw [if_pos (by omega)] at h;cases h
 rw [if_neg (by omega)] at h;have ht:(entT cs l).2.2=0/\l.length<=(entT cs l).2.1:=by
  unfold told at h;by_cases hx:(entT cs l).2.2=0
  ·rw [if_pos hx] at h;by_cases hl:(entT cs l).2.1 < l.length
   ·rw [if_pos hl] at h;cases h
   exact ⟨hx,by omega⟩
  rw [if_neg hx] at h;exact absurd h hx
 have hr:(rdU l 0 281474976710656).2.2=0:=by
  apply Decidable.of_not_not;intro h9;have:=(entT_no (cs:=cs) h9).2;rw [ht.1] at this;exact h9 this.symm
 obtain ⟨q1,q2,q3⟩:=entT_ok (cs:=cs) hr;rw [q3,zh8 hS] at ht;rw [q2,zh8 hS] at hps;obtain ⟨u1,u2,u3⟩:=zc1 (l:=l) (k:=0) (Nat.zero_le _) hr;obtain ⟨e1,e2,e3⟩:=btRd_enc u2 ht.1;have hK:(btRd (ltE cs) l (kindsL cs) (rdU l 0 281474976710656).2.1).2.1=l.length:=by omega
 rw [hK,List.take_length,u1,List.take_zero,List.nil_append] at e1;rw [<- hps] at e1 e3;refine ⟨hk,rfl,zb5.2 ⟨hS,by dsimp only;omega,by dsimp only;omega,ok_set hP hS e3⟩,?_⟩;unfold entP;dsimp only;rw [q1,Int.toNat_natCast];exact e1.symm
theorem entW_zero {cs:List ColB} {x:EntB} (h:(entW cs x).2=0):entE cs x=0/\(entP cs x).length<=1048576/\entW cs x=(frB (2 - x.1).toNat (entP cs x),0):=by
 unfold entW at h ⊢;by_cases h0:entE cs x=0
 ·rw [if_neg (fun h=>h h0)] at h ⊢;have hk:=(zb5.1 h0).2.1;unfold wrF at h ⊢;rw [if_neg (by omega)] at h ⊢;by_cases hl:1048576 < (entP cs x).length
  ·rw [if_pos hl] at h;cases h
  rw [if_neg hl];exact ⟨h0,by omega,rfl⟩
 rw [if_pos h0] at h;exact absurd h h0
