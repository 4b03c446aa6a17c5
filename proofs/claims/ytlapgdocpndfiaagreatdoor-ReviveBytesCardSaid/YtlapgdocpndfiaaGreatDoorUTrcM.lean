/- -/
import Derived.Test.YtlapgdocpndfiaaGreatDoorUEntP
set_option linter.unusedVariables false
set_option linter.unusedSimpArgs false
set_option maxRecDepth 1000000
namespace Go.Proofs.YtlapgdocpndfiaaGreatDoor
open Go.RowKit Go.Shelf
section
variable {cs:List ColB} {view a b ps:List PairB} {s k:Int}
def Fold (cs:List ColB) (view all:List PairB):Prop:=PSO all/\((all=[]/\view=[])∨(Zs cs view/\Z.AllV (Vr cs) all/\∀ r,Z.sumW view r=Z.sumW all r))
theorem Fold.nil:Fold cs [] []:=⟨fun p hp=>absurd hp (by simp),.inl ⟨rfl,rfl⟩⟩
theorem Fold.set (h:Fold cs view ps) (hS:errS (colsL cs)=0):Zs cs view:=by
 rcases h.2 with ⟨_,rfl⟩ | ⟨h1,_⟩
 ·exact zyC hS
 exact h1
theorem Fold.sum (h:Fold cs view ps) (r:List CellB):Z.sumW view r=Z.sumW ps r:=by
 rcases h.2 with ⟨rfl,rfl⟩ | ⟨_,_,h1⟩
 ·rfl
 exact h1 r
end
/- -/
def magicL:Bs:=[68,75,76,49]
def hdB (cols:List Col):Bs:=magicL ++ frB 0 (wrS cols)
def hdW (cols:List Col):Bs × Nat:=if errS cols≠0 then ([],errS cols) else (hdB cols,0)
def trW (cs:List ColB):Nat->Int->List PairB->List EntB->Bs × Int × List PairB × Nat × Nat
 | i,s,v,[]=>([],s,v,i,0)
 | i,s,v,x :: t =>
  if 4096<=i then ([],0,[],i,13)
  else if apE cs s v x≠0 then ([],0,[],i,apE cs s v x)
  else if (entW cs x).2≠0 then ([],0,[],i,(entW cs x).2)
  else if (trW cs (i + 1) (apN cs s v x) (apV cs s v x) t).2.2.2.2≠0 then trW cs (i + 1) (apN cs s v x) (apV cs s v x) t
  else ((entW cs x).1 ++ (trW cs (i + 1) (apN cs s v x) (apV cs s v x) t).1,(trW cs (i + 1) (apN cs s v x) (apV cs s v x) t).2)
def trE (cs:List ColB) (es:List EntB):Bs × Int × List PairB × Nat × Nat :=
 if errS (colsL cs)≠0 then ([],0,[],0,errS (colsL cs))
 else if (trW cs 0 0 [] es).2.2.2.2≠0 then trW cs 0 0 [] es
 else (hdB (colsL cs) ++ (trW cs 0 0 [] es).1,(trW cs 0 0 [] es).2)
def entX (cs:List ColB) (kind:Nat) (p:Bs):EntB:=((entRV cs (kind:Int) p).1,(entRV cs (kind:Int) p).2.1,psB (entRV cs (kind:Int) p).2.2)
def trR (cs:List ColB) (b:Bs):Nat->Nat->Nat->Int->List PairB->List EntB × List (Int × Nat) × Nat × Nat
 | 0,at_,_,_,_=>([],[],at_,0)
 | f + 1,at_,n,s,v =>
  if b.length<=at_ then ([],[],at_,0)
  else if 4096<=n then ([],[],at_,13)
  else if (nxF (b.drop at_)).2.2.2≠0 then ([],[],at_,(nxF (b.drop at_)).2.2.2)
  else if entRE cs ((nxF (b.drop at_)).1:Int) (nxF (b.drop at_)).2.1≠0 then ([],[],at_,entRE cs ((nxF (b.drop at_)).1:Int) (nxF (b.drop at_)).2.1)
  else if apE cs s v (entX cs (nxF (b.drop at_)).1 (nxF (b.drop at_)).2.1)≠0 then ([],[],at_,apE cs s v (entX cs (nxF (b.drop at_)).1 (nxF (b.drop at_)).2.1))
  else if (trR cs b f (at_ + (nxF (b.drop at_)).2.2.1) (n + 1) (apN cs s v (entX cs (nxF (b.drop at_)).1 (nxF (b.drop at_)).2.1)) (apV cs s v (entX cs (nxF (b.drop at_)).1 (nxF (b.drop at_)).2.1))).2.2.2≠0 then
   ([],[],(trR cs b f (at_ + (nxF (b.drop at_)).2.2.1) (n + 1) (apN cs s v (entX cs (nxF (b.drop at_)).1 (nxF (b.drop at_)).2.1)) (apV cs s v (entX cs (nxF (b.drop at_)).1 (nxF (b.drop at_)).2.1))).2.2)
  else (entX cs (nxF (b.drop at_)).1 (nxF (b.drop at_)).2.1 :: (trR cs b f (at_ + (nxF (b.drop at_)).2.2.1) (n + 1) (apN cs s v (entX cs (nxF (b.drop at_)).1 (nxF (b.drop at_)).2.1)) (apV cs s v (entX cs (nxF (b.drop at_)).1 (nxF (b.drop at_)).2.1))).1,
   (apN cs s v (entX cs (nxF (b.drop at_)).1 (nxF (b.drop at_)).2.1),at_ + (nxF (b.drop at_)).2.2.1) :: (trR cs b f (at_ + (nxF (b.drop at_)).2.2.1) (n + 1) (apN cs s v (entX cs (nxF (b.drop at_)).1 (nxF (b.drop at_)).2.1)) (apV cs s v (entX cs (nxF (b.drop at_)).1 (nxF (b.drop at_)).2.1))).2.1,
   (trR cs b f (at_ + (nxF (b.drop at_)).2.2.1) (n + 1) (apN cs s v (entX cs (nxF (b.drop at_)).1 (nxF (b.drop at_)).2.1)) (apV cs s v (entX cs (nxF (b.drop at_)).1 (nxF (b.drop at_)).2.1))).2.2)
/- -/
theorem zcN {b:Bs} (h:(nxF b).2.2.2=0):b.take (nxF b).2.2.1=frB (nxF b).1 (nxF b).2.1/\(nxF b).2.2.1=(frB (nxF b).1 (nxF b).2.1).length/\(nxF b).2.2.1<=b.length/\(nxF b).1<=2/\(nxF b).2.1.length<=1048576:=by
 obtain ⟨s1,s2,s3,s4⟩:=zn6 h
 suffices hb:b.take (nxF b).2.2.1=frB (nxF b).1 (nxF b).2.1 from ⟨hb,by rw [<- hb,List.length_take];omega,s2,s4,s3⟩
 unfold nxF at h s1 s2 s3 s4 ⊢;by_cases h0:b.length=0
 ·rw [if_pos h0] at h;cases h
 rw [if_neg h0] at h s1 s2 s3 s4 ⊢;by_cases h1:2 < at8 b 0
 ·rw [if_pos h1] at h;cases h
 rw [if_neg h1] at h s1 s2 s3 s4 ⊢;by_cases h2:(getB (b.drop 1) 1048576).2.2≠0
 ·rw [if_pos h2] at h;exact absurd h h2
 rw [if_neg h2] at h s1 s2 s3 s4 ⊢;by_cases h3:b.length < (getB (b.drop 1) 1048576).2.1 + 5
 ·rw [if_pos h3] at h;cases h
 rw [if_neg h3] at h s1 s2 s3 s4 ⊢;by_cases h4:Crc.good (b.take ((getB (b.drop 1) 1048576).2.1 + 5))
 ·rw [if_pos h4] at s1 s2 s3 s4 ⊢;dsimp only at s1 s2 s3 s4 ⊢;have h2':(getB (b.drop 1) 1048576).2.2=0:=Decidable.of_not_not h2;obtain ⟨p,m,hpm⟩:∃ p m,getB (b.drop 1) 1048576=(p,m,0):=⟨_,_,by rw [<- h2']⟩;rw [hpm] at h3 h4 s2 ⊢;dsimp only at h3 h4 s2 ⊢;obtain ⟨g1,g2,g3,g4⟩:=znE hpm;rw [List.length_drop] at g3;obtain ⟨c,r,rfl⟩:∃ c r,b=c :: r:=by
   cases b with
   | nil=>exact absurd rfl h0
   | cons c r=>exact ⟨c,r,rfl⟩
  have ha:(at8 (c :: r) 0).toNat=c.toNat:=by rw [znU];simp
  rw [List.drop_succ_cons,List.drop_zero] at g1;have hx:(c :: r).take (m + 1)=frX c.toNat p:=by
   rw [List.take_succ_cons,<- g1];unfold frX;rw [UInt8.ofNat_toNat]
  obtain ⟨_,hg⟩:=h4;have hl5:((c :: r).take (m + 5)).length=m + 5:=by rw [List.length_take];omega
  rw [hl5,show m + 5 - 4=m + 1 from by omega,List.take_take,show min (m + 1) (m + 5)=m + 1 from by omega,hx] at hg;rw [ha];unfold frB;rw [hg,<- hx];have e:=List.take_append_drop (m + 1) ((c :: r).take (m + 5));rw [List.take_take,show min (m + 1) (m + 5)=m + 1 from by omega] at e;exact e.symm
 rw [if_neg h4] at h;cases h
theorem zB2 {cs:List ColB} {a:List Bp} (h:BtOk (ltE cs) (kindsL cs) a):PSO (psB a)/\psL (psB a)=a:=by
 constructor
 ·intro p hp;unfold psB at hp;obtain ⟨q,hq,rfl⟩:=List.mem_map.1 hp;refine ⟨fun c hc=>?_,?_⟩
  ·dsimp only at hc;unfold cesB at hc;obtain ⟨z,hz,rfl⟩:=List.mem_map.1 hc;obtain ⟨i,hi,rfl⟩:=List.getElem_of_mem hz;have hw:=h.wide q hq;obtain ⟨hk,hf⟩:=h.fit i ((kindsL cs)[i]'(by omega)) (List.getElem?_eq_getElem (by omega));have hm:q.1.getD i (0,[]) ∈ btCol (0 + i) (a.map fun p=>p.1):=by
    unfold btCol;rw [Nat.zero_add];exact List.mem_map.2 ⟨q.1,List.mem_map.2 ⟨q,hq,rfl⟩,rfl⟩
   have hfit:=hf _ hm;have e:q.1.getD i (0,[])=q.1[i]:=(by simp [List.getD,hi]);rw [e] at hfit;refine ⟨hfit.lt,?_⟩;have h3:q.1[i].2.length<=256:=by
    by_cases ht:(kindsL cs)[i]'(by omega)=3∨(kindsL cs)[i]'(by omega)=4
    ·exact (hfit.text ht).2.1
    rw [(hfit.num ht).1];simp
   show (ceB q.1[i]).2.size<=_;unfold ceB;simp [ByteArray.size];omega
  have:=h.wts q hq;exact ⟨this.2.1,this.2.2⟩
 unfold psL psB;rw [List.map_map];have:((fun p:PairB=>(cesL p.1,p.2)) ∘ fun p:Bp=>(cesB p.1,p.2))=id:=funext fun p=>by
  obtain ⟨r,y⟩:=p;simp only [Function.comp,id];congr 1;unfold cesL cesB;rw [List.map_map];have e:(ceL ∘ ceB)=id:=funext fun c=>by obtain ⟨n,l⟩:=c;simp [ceL,ceB]
  rw [e,List.map_id]
 rw [this,List.map_id]
theorem zgB {cs:List ColB} {k:Nat} {p:Bs} (hl:p.length<=1048576) (h:entRE cs (k:Int) p=0) :
  EnO (entX cs k p)/\entW cs (entX cs k p)=(frB k p,0)/\(entX cs k p).1=2 - (k:Int)/\(k=1∨k=2)/\psL (entX cs k p).2.2=(entRV cs (k:Int) p).2.2:=by
 have hS:errS (colsL cs)=0:=by
  apply Decidable.of_not_not;intro h9;unfold entRE at h;rw [if_pos h9] at h;exact h9 h
 have hk:(k:Int)=1∨(k:Int)=2:=by
  apply Decidable.of_not_not;intro h9;unfold entRE at h;rw [if_neg (fun h=>h hS),if_pos (by omega)] at h;cases h
 have hV:(entRV cs (k:Int) p).2.2=(entT cs p).1.2:=by unfold entRV;rw [if_pos h]
 have ht:(entT cs p).2.2=0:=by
  unfold entRE at h;rw [if_neg (fun h=>h hS),if_neg (by omega)] at h;unfold told at h;apply Decidable.of_not_not;intro h9;rw [if_neg h9] at h;exact h9 h
 have hr:(rdU p 0 281474976710656).2.2=0:=by
  apply Decidable.of_not_not;intro h9;have:=(znL (cs:=cs) h9).2;rw [ht] at this;exact h9 this.symm
 obtain ⟨q1,q2,q3⟩:=znK (cs:=cs) hr;rw [q3,zh6 hS] at ht;obtain ⟨_,u2,_⟩:=zc3 (l:=p) (k:=0) (Nat.zero_le _) hr;obtain ⟨_,_,e3⟩:=ztR u2 ht;obtain ⟨o1,o2⟩:=zB2 e3;have ho:PSO (psB (entRV cs (k:Int) p).2.2):=by rw [hV,q2,zh6 hS];exact o1
 have hp:psL (psB (entRV cs (k:Int) p).2.2)=(entRV cs (k:Int) p).2.2:=by rw [hV,q2,zh6 hS];exact o2
 obtain ⟨h1,h2,h3,h4⟩:=zEA ho h hp;obtain ⟨_,z2,z3,_⟩:=zb9.1 h3;dsimp only at z2 z3;refine ⟨⟨by unfold inW entX;dsimp only;omega,by unfold inW entX;dsimp only;omega,ho⟩,?_,h2,by omega,hp⟩;unfold entX entW;rw [if_neg (fun h=>h h3),h4,h2,show 2 - (2 - (k:Int))=k by omega];unfold wrF;rw [if_neg (by omega),if_neg (by omega),Int.toNat_natCast]
theorem ze9 {cs:List ColB} {x:EntB} (hO:EnO x) (h:(entW cs x).2=0) :
  ∃ k p,(entW cs x).1=frB k p/\k<=2/\p.length<=1048576/\entRE cs (k:Int) p=0/\entX cs k p=x:=by
 obtain ⟨h1,h2,h3⟩:=zz5 h;obtain ⟨g1,g2⟩:=zBQ hO.2.2 h1;have hk:=(zb9.1 h1).2.1;have e:(((2 - x.1).toNat:Nat):Int)=2 - x.1:=by omega
 refine ⟨(2 - x.1).toNat,entP cs x,by rw [h3],by omega,h2,by rw [e];exact g1,?_⟩;unfold entX;rw [e,g2];dsimp only;rw [zxV]
theorem zfV {cs:List ColB} {i:Nat} {s:Int} {v:List PairB} {x:EntB} {t:List EntB} (h:(trW cs i s v (x :: t)).2.2.2.2=0) :
  i < 4096/\apE cs s v x=0/\(entW cs x).2=0/\(trW cs (i + 1) (apN cs s v x) (apV cs s v x) t).2.2.2.2=0 /\
  trW cs i s v (x :: t)=((entW cs x).1 ++ (trW cs (i + 1) (apN cs s v x) (apV cs s v x) t).1,(trW cs (i + 1) (apN cs s v x) (apV cs s v x) t).2):=by
 have e:trW cs i s v (x :: t)=if 4096<=i then ([],0,[],i,13)
  else if apE cs s v x≠0 then ([],0,[],i,apE cs s v x)
  else if (entW cs x).2≠0 then ([],0,[],i,(entW cs x).2)
  else if (trW cs (i + 1) (apN cs s v x) (apV cs s v x) t).2.2.2.2≠0 then trW cs (i + 1) (apN cs s v x) (apV cs s v x) t
  else ((entW cs x).1 ++ (trW cs (i + 1) (apN cs s v x) (apV cs s v x) t).1,(trW cs (i + 1) (apN cs s v x) (apV cs s v x) t).2):=by rw [trW]
 rw [e] at h ⊢;by_cases h1:4096<=i
 ·rw [if_pos h1] at h;cases h
 rw [if_neg h1] at h ⊢;by_cases h2:apE cs s v x=0
 ·rw [if_neg (fun h=>h h2)] at h ⊢;by_cases h3:(entW cs x).2=0
  ·rw [if_neg (fun h=>h h3)] at h ⊢;by_cases h4:(trW cs (i + 1) (apN cs s v x) (apV cs s v x) t).2.2.2.2=0
   ·rw [if_neg (fun h=>h h4)];exact ⟨by omega,h2,h3,h4,rfl⟩
   rw [if_pos h4] at h;exact absurd h h4
  rw [if_pos h3] at h;exact absurd h h3
 rw [if_pos h2] at h;exact absurd h h2
theorem zoB {cs:List ColB} {i:Nat} {s:Int} {v:List PairB} {x:EntB} {t:List EntB} (h1:i < 4096) (h2:apE cs s v x=0) (h3:(entW cs x).2=0) (h4:(trW cs (i + 1) (apN cs s v x) (apV cs s v x) t).2.2.2.2=0) :
  trW cs i s v (x :: t)=((entW cs x).1 ++ (trW cs (i + 1) (apN cs s v x) (apV cs s v x) t).1,(trW cs (i + 1) (apN cs s v x) (apV cs s v x) t).2):=by
 rw [trW,if_neg (by omega),if_neg (fun h=>h h2),if_neg (fun h=>h h3),if_neg (fun h=>h h4)]
def trM (cs:List ColB):Nat->Int->List PairB->List EntB->List (Int × Nat)
 | _,_,_,[]=>[]
 | at_,s,v,x :: t=>(apN cs s v x,at_ + (entW cs x).1.length) :: trM cs (at_ + (entW cs x).1.length) (apN cs s v x) (apV cs s v x) t
theorem zgO {cs:List ColB} {b:Bs} {at_ n:Nat} {s:Int} {v:List PairB} (f:Nat) (h:b.length<=at_):trR cs b f at_ n s v=([],[],at_,0):=by
 cases f with
 | zero=>rw [trR]
 | succ f=>rw [trR,if_pos h]
theorem zsO {cs:List ColB} {b:Bs}:∀ (es:List EntB) (f at_ n:Nat) (s:Int) (v:List PairB),(∀ x ∈ es,EnO x)->(trW cs n s v es).2.2.2.2=0->at_<=b.length->b.drop at_=(trW cs n s v es).1->b.length<=at_ + f ->
  trR cs b f at_ n s v=(es,trM cs at_ s v es,b.length,0)
 | [],f,at_,n,s,v,_,_,ha,hd,_=>by
  rw [trW] at hd
  dsimp only at hd
  have hl:b.length<=at_:=by have:=congrArg List.length hd;rw [List.length_drop] at this;simp at this;omega
  rw [zgO f hl,trM,show at_=b.length by omega]
 | x :: t,f,at_,n,s,v,hO,h,ha,hd,hf=>by
  obtain ⟨h1,h2,h3,h4,h5⟩:=zfV h
  obtain ⟨k,p,e1,e2,e3,e4,e5⟩:=ze9 (hO x (by simp)) h3
  rw [h5] at hd
  dsimp only at hd
  have hn:=zgV k e2 p (trW cs (n + 1) (apN cs s v x) (apV cs s v x) t).1 e3
  rw [<- e1,<- hd] at hn
  have hpos:=zb8 k p
  rw [<- e1] at hpos
  have hlen:=congrArg List.length hd
  rw [List.length_drop,List.length_append] at hlen
  have hd2:b.drop (at_ + (entW cs x).1.length)=(trW cs (n + 1) (apN cs s v x) (apV cs s v x) t).1:=by
   rw [<- List.drop_drop,hd,List.drop_left]
  match f,hf with
  | 0,hf=>omega
  | f + 1,hf =>
   have ih:=zsO t f (at_ + (entW cs x).1.length) (n + 1) (apN cs s v x) (apV cs s v x) (fun y hy=>hO y (by simp [hy])) h4 (by omega) hd2 (by omega)
   rw [trR,if_neg (by omega),if_neg (by omega),hn]
   dsimp only
   rw [if_neg (by simp),if_neg (fun h=>h e4),e5,if_neg (fun h=>h h2),ih]
   dsimp only
   rw [if_neg (by simp),trM]
theorem zwK {cs:List ColB} {b:Bs}:∀ (f at_ n:Nat) (s:Int) (v:List PairB),at_<=b.length->b.length<=at_ + f->(trR cs b f at_ n s v).2.2.2=0 ->
  (trW cs n s v (trR cs b f at_ n s v).1).2.2.2.2=0/\b.drop at_=(trW cs n s v (trR cs b f at_ n s v).1).1/\(trW cs n s v (trR cs b f at_ n s v).1).2.2.2.1=n + (trR cs b f at_ n s v).1.length/\(trR cs b f at_ n s v).2.2.1=b.length/\∀ x ∈ (trR cs b f at_ n s v).1,EnO x
 | 0,at_,n,s,v,ha,hf,h=>by
  rw [trR]
  dsimp only
  rw [trW]
  exact ⟨rfl,List.drop_eq_nil_of_le (by omega),rfl,by omega,fun x hx=>absurd hx (by simp)⟩
 | f + 1,at_,n,s,v,ha,hf,h=>by
  by_cases h0:b.length<=at_
  ·rw [zgO _ h0]
   dsimp only
   rw [trW]
   exact ⟨rfl,List.drop_eq_nil_of_le (by omega),rfl,by omega,fun x hx=>absurd hx (by simp)⟩
  ·rw [trR,if_neg h0] at h ⊢
   by_cases h1:4096<=n
   ·rw [if_pos h1] at h;cases h
   ·rw [if_neg h1] at h ⊢
    by_cases h2:(nxF (b.drop at_)).2.2.2=0
    ·rw [if_neg (fun h=>h h2)] at h ⊢
     obtain ⟨x1,x2,x3,x4,x5⟩:=zcN h2
     obtain ⟨k,hk⟩:=nm_ ((nxF (b.drop at_)).1)
     obtain ⟨p,hp⟩:=nm_ ((nxF (b.drop at_)).2.1)
     obtain ⟨m,hm⟩:=nm_ ((nxF (b.drop at_)).2.2.1)
     rw [<- hk,<- hp] at x1 x2 h ⊢
     rw [<- hm] at x1 x2 x3 h ⊢
     rw [<- hk] at x4
     rw [<- hp] at x5
     rw [List.length_drop] at x3
     have hpos:=zb8 k p
     by_cases h3:entRE cs (k:Int) p=0
     ·rw [if_neg (fun h=>h h3)] at h ⊢
      obtain ⟨y1,y2,y3,y4,y5⟩:=zgB x5 h3
      obtain ⟨x,hx⟩:=nm_ (entX cs k p)
      rw [<- hx] at h y1 y2 ⊢
      by_cases h4:apE cs s v x=0
      ·rw [if_neg (fun h=>h h4)] at h ⊢
       by_cases h5:(trR cs b f (at_ + m) (n + 1) (apN cs s v x) (apV cs s v x)).2.2.2=0
       ·rw [if_neg (fun h=>h h5)]
        obtain ⟨i1,i2,i3,i4,i5⟩:=zwK f (at_ + m) (n + 1) (apN cs s v x) (apV cs s v x) (by omega) (by omega) h5
        dsimp only
        rw [zoB (by omega) h4 (by rw [y2]) i1]
        refine ⟨i1,?_,by dsimp only;rw [i3,List.length_cons];omega,i4,fun z hz=>?_⟩
        ·dsimp only
         rw [y2,<- i2,<- List.drop_drop]
         dsimp only
         rw [<- x1,List.take_append_drop]
        ·rcases List.mem_cons.1 hz with rfl | hz
         ·exact y1
         ·exact i5 z hz
       ·rw [if_pos h5] at h;exact absurd h h5
      ·rw [if_pos h4] at h;exact absurd h h4
     ·rw [if_pos h3] at h;exact absurd h h3
    ·rw [if_pos h2] at h;exact absurd h h2
/- -/
theorem trR_cut {cs:List ColB} {b:Bs} {i:Nat} (hi:i<=b.length):∀ (es:List EntB) (f at_ n:Nat) (s:Int) (v:List PairB),(∀ x ∈ es,EnO x)->(trW cs n s v es).2.2.2.2=0->at_<=i->b.drop at_=(trW cs n s v es).1->i<=at_ + f ->
  ((trR cs (b.take i) f at_ n s v).2.2.2≠0/\i≠at_/\∀ m ∈ trM cs at_ s v es,m.2≠i) ∨
  (∃ k,k<=es.length/\trR cs (b.take i) f at_ n s v=(es.take k,(trM cs at_ s v es).take k,i,0)/\((k=0/\i=at_)∨(0 < k/\at_ < i/\((trM cs at_ s v es).getD (k - 1) (0,0)).2=i)))
 | [],f,at_,n,s,v,_,_,ha,hd,hf=>by
  have hl:b.length<=at_:=by
   rw [trW] at hd
   have:=congrArg List.length hd
   rw [List.length_drop] at this
   simp at this
   omega
  have he:i=at_:=by omega
  refine .inr ⟨0,by simp,?_,.inl ⟨rfl,he⟩⟩
  rw [zgO f (by rw [List.length_take];omega),he]
  rfl
 | x :: t,f,at_,n,s,v,hO,h,ha,hd,hf=>by
  have hlt:(b.take i).length=i:=by rw [List.length_take];omega
  by_cases he:i=at_
  ·refine .inr ⟨0,by simp,?_,.inl ⟨rfl,he⟩⟩
   rw [zgO f (by omega),he]
   rfl
  ·obtain ⟨h1,h2,h3,h4,h5⟩:=zfV h
   obtain ⟨k,p,e1,e2,e3,e4,e5⟩:=ze9 (hO x (by simp)) h3
   rw [h5] at hd
   dsimp only at hd
   have hpos:=zb8 k p
   rw [<- e1] at hpos
   have hlen:=congrArg List.length hd
   rw [List.length_drop,List.length_append] at hlen
   have hd2:b.drop (at_ + (entW cs x).1.length)=(trW cs (n + 1) (apN cs s v x) (apV cs s v x) t).1:=by
    rw [<- List.drop_drop,hd,List.drop_left]
   have hdt:(b.take i).drop at_=((entW cs x).1 ++ (trW cs (n + 1) (apN cs s v x) (apV cs s v x) t).1).take (i - at_):=by
    rw [List.drop_take,hd]
   match f,hf with
   | 0,hf=>omega
   | f + 1,hf =>
    by_cases hs:i < at_ + (entW cs x).1.length
    ·have hn:nxF ((b.take i).drop at_)=(0,[],0,5):=by
      rw [hdt,List.take_append_of_le_length (by omega),e1]
      exact zyA k e2 p e3 (i - at_) (by rw [<- e1];omega)
     refine .inl ⟨?_,he,fun m hm=>?_⟩
     ·rw [trR,if_neg (by omega),if_neg (by omega),hn]
      dsimp only
      rw [if_pos (by simp)]
      simp
     ·have hge:∀ (es:List EntB) (a:Nat) (s:Int) (v:List PairB),∀ m ∈ trM cs a s v es,a<=m.2:=by
       intro es
       induction es with
       | nil=>intro a s v m hm;rw [trM] at hm;exact absurd hm (by simp)
       | cons y r ih =>
        intro a s v m hm
        rw [trM] at hm
        rcases List.mem_cons.1 hm with rfl | hm
        ·dsimp only;omega
        ·have:=ih _ _ _ m hm;omega
      rw [trM] at hm
      rcases List.mem_cons.1 hm with rfl | hm
      ·dsimp only;omega
      ·have:=hge _ _ _ _ m hm;omega
    ·have hn:nxF ((b.take i).drop at_)=(k,p,(entW cs x).1.length,0):=by
      rw [hdt,List.take_append,e1,List.take_of_length_le (by rw [<- e1];omega)]
      exact zgV k e2 p _ e3
     have hr:∀ r,trR cs (b.take i) f (at_ + (entW cs x).1.length) (n + 1) (apN cs s v x) (apV cs s v x)=r ->
       trR cs (b.take i) (f + 1) at_ n s v=if r.2.2.2≠0 then ([],[],r.2.2) else (x :: r.1,(apN cs s v x,at_ + (entW cs x).1.length) :: r.2.1,r.2.2):=by
      intro r hr
      rw [trR,if_neg (by omega),if_neg (by omega),hn]
      dsimp only
      rw [if_neg (by simp),if_neg (fun h=>h e4),e5,if_neg (fun h=>h h2),hr]
     have hM:trM cs at_ s v (x :: t)=(apN cs s v x,at_ + (entW cs x).1.length) :: trM cs (at_ + (entW cs x).1.length) (apN cs s v x) (apV cs s v x) t:=by rw [trM]
     rcases trR_cut hi t f (at_ + (entW cs x).1.length) (n + 1) (apN cs s v x) (apV cs s v x) (fun y hy=>hO y (by simp [hy])) h4 (by omega) hd2 (by omega) with ⟨c1,c2,c3⟩ | ⟨q,c1,c2,c3⟩
     ·refine .inl ⟨?_,he,fun m hm=>?_⟩
      ·rw [hr _ rfl,if_pos c1]
       exact c1
      ·rw [hM] at hm
       rcases List.mem_cons.1 hm with rfl | hm
       ·dsimp only;omega
       ·exact c3 m hm
     ·refine .inr ⟨q + 1,by simp;omega,?_,.inr ⟨by omega,by omega,?_⟩⟩
      ·rw [hr _ c2,if_neg (by simp),hM]
       rfl
      ·rw [hM,Nat.add_sub_cancel]
       rcases c3 with ⟨rfl,c3⟩ | ⟨c4,c5,c6⟩
       ·simp;omega
       ·obtain ⟨q',rfl⟩:∃ q',q=q' + 1:=⟨q - 1,by omega⟩
        rw [List.getD_cons_succ]
        exact c6
theorem zsM {cs:List ColB}:∀ (es:List EntB) (j n:Nat) (s:Int) (v:List PairB),(trW cs n s v es).2.2.2.2=0->j<=es.length ->
  (trW cs n s v (es.take j)).2.2.2.2=0/\(trW cs n s v (es.take j)).2.2.2.1=n + j/\(trW cs n s v (es.take j)).1=(trW cs n s v es).1.take (trW cs n s v (es.take j)).1.length
 | es,0,n,s,v,h,hj=>by rw [List.take_zero,trW];simp
 | [],j + 1,n,s,v,h,hj=>by simp at hj
 | x :: t,j + 1,n,s,v,h,hj=>by
  obtain ⟨h1,h2,h3,h4,h5⟩:=zfV h
  obtain ⟨i1,i2,i3⟩:=zsM t j (n + 1) (apN cs s v x) (apV cs s v x) h4 (by simpa using hj)
  rw [List.take_succ_cons,zoB h1 h2 h3 i1,h5]
  refine ⟨i1,by dsimp only;rw [i2];omega,?_⟩
  dsimp only
  have e3:∀ (a b c:Bs),(a ++ b).take (a ++ c).length=a ++ b.take c.length:=fun a b c=>by
   rw [List.length_append,List.take_append,Nat.add_sub_cancel_left,List.take_of_length_le (by omega)]
  rw [e3,<- i3]
def zm3 (es:List EntB):List PairB:=(es.filter fun x=>x.1 == 0).flatMap fun x=>x.2.2
def zhR (es:List EntB):Nat:=(es.filter fun x=>x.1 == 0).length
theorem zD0 {cs:List ColB} {s:Int} {v:List PairB} {x:EntB} (h:apE cs s v x=0) :
  chkZ cs v=0/\(0<=s/\s<=281474976710656)/\entE cs x=0 /\
  ((x.1=0/\x.2.1=s + 1/\sumE cs v x.2.2=0/\apN cs s v x=s + 1/\apV cs s v x=sumO cs v x.2.2)∨(x.1=1/\x.2.1=s/\x.2.2=v/\apN cs s v x=s/\apV cs s v x=v)):=by
 have hN:apN cs s v x=x.2.1:=by unfold apN;rw [if_pos h]
 have hV:apV cs s v x=if x.1=1 then v else sumO cs v x.2.2:=by unfold apV;rw [if_pos h]
 unfold apE at h;by_cases h1:chkZ cs v=0
 ·rw [if_neg (fun h=>h h1)] at h;by_cases h2:s < 0∨281474976710656 < s
  ·rw [if_pos h2] at h;cases h
  rw [if_neg h2] at h;by_cases h3:entE cs x=0
  ·rw [if_neg (fun h=>h h3)] at h;have hk:=(zb9.1 h3).2.1;by_cases h4:(x.1=0/\x.2.1≠s + 1)∨(x.1=1/\x.2.1≠s)
   ·rw [if_pos h4] at h;cases h
   rw [if_neg h4] at h;refine ⟨h1,by omega,h3,?_⟩;by_cases h5:x.1=1
   ·rw [if_pos h5] at h hV;by_cases h6:x.2.2=v
    ·exact .inr ⟨h5,by omega,h6,by rw [hN];omega,hV⟩
    rw [if_neg h6] at h;cases h
   rw [if_neg h5] at h hV;exact .inl ⟨by omega,by omega,h,by rw [hN];omega,hV⟩
  rw [if_pos h3] at h;exact absurd h h3
 rw [if_pos h1] at h;exact absurd h h1
theorem Fold.add {cs:List ColB} {view ps p:List PairB} (h:Fold cs view ps) (hz:Zs cs p) (h1:sumE cs view p=0):Fold cs (sumO cs view p) (ps ++ p):=by
 have hv:=h.set hz.schema;obtain ⟨z4,z5⟩:=zCG hv hz h1;refine ⟨fun q hq=>?_,.inr ⟨z4,?_,fun r=>?_⟩⟩
 ·rcases List.mem_append.1 hq with hq | hq
  ·exact h.1 q hq
  exact hz.1 q hq
 ·refine ztU ?_ hz.all;rcases h.2 with ⟨rfl,_⟩ | ⟨_,h2,_⟩
  ·intro q hq;exact absurd hq (by simp)
  exact h2
 rw [z5,Z.sumW_append,h.sum]
theorem zrW (x:EntB) (t:List EntB):zm3 (x :: t)=(if x.1=0 then x.2.2 else []) ++ zm3 t:=by
 unfold zm3;rw [List.filter_cons];by_cases h:x.1=0
 ·rw [if_pos (by simpa using h),if_pos h,List.flatMap_cons]
 rw [if_neg (by simpa using h),if_neg h,List.nil_append]
theorem zrX (x:EntB) (t:List EntB):zhR (x :: t)=(if x.1=0 then 1 else 0) + zhR t:=by
 unfold zhR;rw [List.filter_cons];by_cases h:x.1=0
 ·rw [if_pos (by simpa using h),if_pos h,List.length_cons];omega
 rw [if_neg (by simpa using h),if_neg h];omega
theorem zfU {cs:List ColB}:∀ (es:List EntB) (n:Nat) (s:Int) (v all:List PairB),(∀ x ∈ es,EnO x)->(trW cs n s v es).2.2.2.2=0->Fold cs v all ->
  Fold cs (trW cs n s v es).2.2.1 (all ++ zm3 es)/\(trW cs n s v es).2.1=s + (zhR es:Int)/\(trW cs n s v es).2.2.2.1=n + es.length
 | [],n,s,v,all,hO,h,hF=>by
  rw [trW]
  exact ⟨by simpa [zm3] using hF,by simp [zhR],by simp⟩
 | x :: t,n,s,v,all,hO,h,hF=>by
  obtain ⟨h1,h2,h3,h4,h5⟩:=zfV h
  obtain ⟨a1,a2,a3,a4⟩:=zD0 h2
  have hz:Zs cs x.2.2:=⟨(hO x (by simp)).2.2,(zb9.1 a3).2.2.2⟩
  rw [h5,zrW,zrX]
  dsimp only
  rcases a4 with ⟨k1,k2,k3,k4,k5⟩ | ⟨k1,k2,k3,k4,k5⟩
  ·rw [if_pos k1,if_pos k1]
   have hF2:=hF.add hz k3
   rw [<- k5] at hF2
   obtain ⟨i1,i2,i3⟩:=zfU t (n + 1) (apN cs s v x) (apV cs s v x) (all ++ x.2.2) (fun y hy=>hO y (by simp [hy])) h4 hF2
   refine ⟨by rw [<- List.append_assoc];exact i1,?_,by rw [i3,List.length_cons];omega⟩
   rw [i2,k4];push_cast;omega
  ·rw [if_neg (by omega),if_neg (by omega),List.nil_append]
   obtain ⟨i1,i2,i3⟩:=zfU t (n + 1) (apN cs s v x) (apV cs s v x) all (fun y hy=>hO y (by simp [hy])) h4 (by rw [k5];exact hF)
   refine ⟨i1,?_,by rw [i3,List.length_cons];omega⟩
   rw [i2,k4];push_cast;omega
theorem zmP {cs:List ColB}:∀ (a r:List EntB) (n:Nat) (s:Int) (v:List PairB),(trW cs n s v a).2.2.2.2=0 ->
  trW cs n s v (a ++ r)=if (trW cs (n + a.length) (trW cs n s v a).2.1 (trW cs n s v a).2.2.1 r).2.2.2.2≠0 then trW cs (n + a.length) (trW cs n s v a).2.1 (trW cs n s v a).2.2.1 r
   else ((trW cs n s v a).1 ++ (trW cs (n + a.length) (trW cs n s v a).2.1 (trW cs n s v a).2.2.1 r).1,(trW cs (n + a.length) (trW cs n s v a).2.1 (trW cs n s v a).2.2.1 r).2)
 | [],r,n,s,v,h=>by
  rw [List.nil_append,show trW cs n s v []=([],s,v,n,0) from by rw [trW]]
  dsimp only
  rw [List.length_nil,Nat.add_zero,List.nil_append]
  split <;> rfl
 | x :: t,r,n,s,v,h=>by
  obtain ⟨h1,h2,h3,h4,h5⟩:=zfV h
  have ih:=zmP t r (n + 1) (apN cs s v x) (apV cs s v x) h4
  rw [h5,List.cons_append]
  dsimp only
  rw [show n + (x :: t).length=n + 1 + t.length from by rw [List.length_cons];omega]
  generalize hT:trW cs (n + 1) (apN cs s v x) (apV cs s v x) t=T at *
  generalize hR:trW cs (n + 1 + t.length) T.2.1 T.2.2.1 r=R at *
  rw [trW,if_neg (by omega),if_neg (fun h=>h h2),if_neg (fun h=>h h3),ih]
  by_cases h6:R.2.2.2.2=0
  ·have e:(if R.2.2.2.2≠0 then R else (T.1 ++ R.1,R.2))=(T.1 ++ R.1,R.2):=if_neg (fun h=>h h6)
   rw [e]
   dsimp only
   rw [if_neg (fun h=>h h6),if_neg (fun h=>h h6),List.append_assoc]
  ·have e:(if R.2.2.2.2≠0 then R else (T.1 ++ R.1,R.2))=R:=if_pos h6
   rw [e,if_pos h6,if_pos h6]
/- -/
def zm4 (c:Col):ColB:=(⟨c.1.toArray⟩,c.2)
theorem zs3 (c:ColB):zm4 (colL c)=c:=by
 obtain ⟨⟨a⟩,k⟩:=c;simp [zm4,colL]
def colsB (cols:List Col):List ColB:=cols.map zm4
theorem zcR (cs:List ColB):colsB (colsL cs)=cs:=by
 unfold colsB colsL;rw [List.map_map];have:(zm4 ∘ colL)=id:=funext fun c=>zs3 c;rw [this,List.map_id]
theorem zc1 (cols:List Col):colsL (colsB cols)=cols:=by
 unfold colsB colsL;rw [List.map_map];have:(colL ∘ zm4)=id:=funext fun c=>by obtain ⟨l,k⟩:=c;simp [zm4,colL]
 rw [this,List.map_id]
def trD (b:Bs):List ColB × List EntB × List (Int × Nat) × Nat × Nat :=
 if b.length < 4∨b.take 4≠magicL then ([],[],[],0,6)
 else if (nxF (b.drop 4)).2.2.2≠0 then ([],[],[],4,(nxF (b.drop 4)).2.2.2)
 else if (nxF (b.drop 4)).1≠0 then ([],[],[],4,10)
 else if readE (nxF (b.drop 4)).2.1≠0 then ([],[],[],4,readE (nxF (b.drop 4)).2.1)
 else if (trR (colsB (readC (nxF (b.drop 4)).2.1)) b b.length (4 + (nxF (b.drop 4)).2.2.1) 0 0 []).2.2.2≠0 then
  ([],[],[],(trR (colsB (readC (nxF (b.drop 4)).2.1)) b b.length (4 + (nxF (b.drop 4)).2.2.1) 0 0 []).2.2)
 else (colsB (readC (nxF (b.drop 4)).2.1),(trR (colsB (readC (nxF (b.drop 4)).2.1)) b b.length (4 + (nxF (b.drop 4)).2.2.1) 0 0 []).1,
  (0,4 + (nxF (b.drop 4)).2.2.1) :: (trR (colsB (readC (nxF (b.drop 4)).2.1)) b b.length (4 + (nxF (b.drop 4)).2.2.1) 0 0 []).2.1,(trR (colsB (readC (nxF (b.drop 4)).2.1)) b b.length (4 + (nxF (b.drop 4)).2.2.1) 0 0 []).2.2)
theorem zo1:∀ (cols:List Col),(∀ c ∈ cols,c.1.length<=32)->(zaH cols).length<=43 * cols.length
 | [],_=>by simp [zaH]
 | c :: r,h=>by
  have ih:=zo1 r (fun x hx=>h x (by simp [hx]))
  have h1:=h c (by simp)
  have h2:=zaC c.1.length (by omega)
  have e:zaH (c :: r)=zfP c ++ zaH r:=by unfold zaH;rw [List.flatMap_cons]
  rw [e,List.length_append,List.length_cons]
  unfold zfP encB
  rw [List.length_append,List.length_append,List.length_singleton]
  omega
theorem zbU {cols:List Col} (h:errS cols=0):(wrS cols).length<=1048576:=by
 obtain ⟨z1,z2,_,z4⟩:=zaM h;have h1:=zo1 cols (fun c hc=>(z4 c hc).1);have h2:=zaC cols.length (by omega);unfold wrS;rw [List.length_append];omega
theorem zbI (cols:List Col):(hdB cols).length=4 + (frB 0 (wrS cols)).length:=by
 unfold hdB magicL;rw [List.length_append];rfl
theorem ziC {cs:List ColB} {es:List EntB} (hS:errS (colsL cs)=0) (hO:∀ x ∈ es,EnO x) (h:(trW cs 0 0 [] es).2.2.2.2=0) :
  trD (hdB (colsL cs) ++ (trW cs 0 0 [] es).1)=(cs,es,(0,(hdB (colsL cs)).length) :: trM cs (hdB (colsL cs)).length 0 [] es,(hdB (colsL cs) ++ (trW cs 0 0 [] es).1).length,0):=by
 have hsm:=zbU hS;have hl:=zbI (colsL cs);have hp:=zb8 0 (wrS (colsL cs));obtain ⟨r1,r2,_⟩:=zmY hS;obtain ⟨b,hb⟩:=nm_ (hdB (colsL cs) ++ (trW cs 0 0 [] es).1);rw [<- hb];have hlb:=congrArg List.length hb;rw [List.length_append] at hlb;have h4:b.take 4=magicL:=by rw [hb];unfold hdB;rw [List.append_assoc];exact List.take_left' rfl
 have hd4:b.drop 4=frB 0 (wrS (colsL cs)) ++ (trW cs 0 0 [] es).1:=by rw [hb];unfold hdB;rw [List.append_assoc];exact List.drop_left' rfl
 have hn:=zgV 0 (by omega) (wrS (colsL cs)) (trW cs 0 0 [] es).1 hsm;rw [<- hd4] at hn;have hd:b.drop (hdB (colsL cs)).length=(trW cs 0 0 [] es).1:=by rw [hb,List.drop_left]
 have hr:=zsO es b.length (hdB (colsL cs)).length 0 0 [] hO h (by omega) hd (by omega);unfold trD;rw [if_neg (by rw [h4];simp;omega),hn];dsimp only;rw [if_neg (by simp),if_neg (by simp),if_neg (fun h=>h r1),r2,zcR,<- hl,hr];dsimp only;rw [if_neg (by simp)]
theorem zr1 {b:Bs} (h:(trD b).2.2.2.2=0) :
  errS (colsL (trD b).1)=0/\(∀ x ∈ (trD b).2.1,EnO x)/\(trW (trD b).1 0 0 [] (trD b).2.1).2.2.2.2=0/\b=hdB (colsL (trD b).1) ++ (trW (trD b).1 0 0 [] (trD b).2.1).1/\(trD b).2.2.2.1=b.length/\(trW (trD b).1 0 0 [] (trD b).2.1).2.2.2.1=(trD b).2.1.length:=by
 unfold trD at h ⊢;by_cases h0:b.length < 4∨b.take 4≠magicL
 ·rw [if_pos h0] at h;cases h
 rw [if_neg h0] at h ⊢;by_cases h1:(nxF (b.drop 4)).2.2.2=0
 ·rw [if_neg (fun h=>h h1)] at h ⊢;by_cases h2:(nxF (b.drop 4)).1=0
  ·rw [if_neg (fun h=>h h2)] at h ⊢;by_cases h3:readE (nxF (b.drop 4)).2.1=0
   ·rw [if_neg (fun h=>h h3)] at h ⊢;obtain ⟨x1,x2,x3,x4,x5⟩:=zcN h1;obtain ⟨y1,y2,_⟩:=ziG h3;rw [h2] at x1 x2;rw [List.length_drop] at x3;obtain ⟨cols,hc⟩:=nm_ (readC (nxF (b.drop 4)).2.1);rw [<- hc] at h y1 y2 ⊢;rw [<- y2] at x1 x2;obtain ⟨m,hm⟩:=nm_ ((nxF (b.drop 4)).2.2.1);rw [<- hm] at h x1 x2 x3 ⊢;by_cases h4:(trR (colsB cols) b b.length (4 + m) 0 0 []).2.2.2=0
    ·rw [if_neg (fun h=>h h4)];dsimp only;obtain ⟨i1,i2,i3,i4,i5⟩:=zwK (cs:=colsB cols) b.length (4 + m) 0 0 [] (by omega) (by omega) h4;refine ⟨by rw [zc1];exact y1,i5,i1,?_,i4,by rw [i3];omega⟩;rw [<- i2,zc1];unfold hdB;rw [<- x1,List.append_assoc,<- List.drop_drop,List.take_append_drop];have:magicL=b.take 4:=by
      apply Decidable.of_not_not;intro h9;exact h0 (.inr (fun e=>h9 e.symm))
     rw [this,List.take_append_drop]
    rw [if_pos h4] at h;exact absurd h h4
   rw [if_pos h3] at h;exact absurd h h3
  rw [if_pos h2] at h;cases h
 rw [if_pos h1] at h;exact absurd h h1
