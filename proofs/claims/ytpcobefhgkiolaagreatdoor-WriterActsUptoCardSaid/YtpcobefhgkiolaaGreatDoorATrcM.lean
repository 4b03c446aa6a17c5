/- -/
import Derived.Test.YtpcobefhgkiolaaGreatDoorAAppFull
import Derived.Test.YtpcobefhgkiolaaGreatDoorAEntP
set_option linter.unusedVariables false
set_option linter.unusedSimpArgs false
set_option maxRecDepth 1000000
namespace Go.Proofs.YtpcobefhgkiolaaGreatDoor
open Go.RowKit Go.Shelf
section
variable {cs:List ColB} {view a b ps:List PairB} {s k:Int}
def Fold (cs:List ColB) (view all:List PairB):Prop:=PSO all∧((all=[]∧view=[])∨(Zs cs view∧Z.AllV (Vr cs) all∧∀ r,Z.sumW view r=Z.sumW all r))
theorem Fold.nil:Fold cs [] []:=⟨fun p hp=>absurd hp (by simp),.inl ⟨rfl,rfl⟩⟩
theorem Fold.set (h:Fold cs view ps) (hS:errS (colsL cs)=0):Zs cs view:=by
 rcases h.2 with ⟨_,rfl⟩ | ⟨h1,_⟩
 ·exact nil_set hS
 ·exact h1
theorem Fold.sum (h:Fold cs view ps) (r:List CellB):Z.sumW view r=Z.sumW ps r:=by
 rcases h.2 with ⟨rfl,rfl⟩ | ⟨_,_,h1⟩
 ·rfl
 ·exact h1 r
end
end Go.Proofs.YtpcobefhgkiolaaGreatDoor


/- -/
namespace Go.Proofs.YtpcobefhgkiolaaGreatDoor
open Go.RowKit Go.Shelf
def magicL:List UInt8:=[68,75,76,49]
def hdB (cols:List Col):List UInt8:=magicL ++ frB 0 (wrS cols)
def hdW (cols:List Col):List UInt8 × Nat:=if errS cols≠0 then ([],errS cols) else (hdB cols,0)
def trW (cs:List ColB):Nat→Int→List PairB→List EntB→List UInt8 × Int × List PairB × Nat × Nat
 | i,s,v,[]=>([],s,v,i,0)
 | i,s,v,x :: t =>
  if 4096≤i then ([],0,[],i,13)
  else if apE cs s v x≠0 then ([],0,[],i,apE cs s v x)
  else if (entW cs x).2≠0 then ([],0,[],i,(entW cs x).2)
  else if (trW cs (i + 1) (apN cs s v x) (apV cs s v x) t).2.2.2.2≠0 then trW cs (i + 1) (apN cs s v x) (apV cs s v x) t
  else ((entW cs x).1 ++ (trW cs (i + 1) (apN cs s v x) (apV cs s v x) t).1,(trW cs (i + 1) (apN cs s v x) (apV cs s v x) t).2)
def trE (cs:List ColB) (es:List EntB):List UInt8 × Int × List PairB × Nat × Nat :=
 if errS (colsL cs)≠0 then ([],0,[],0,errS (colsL cs))
 else if (trW cs 0 0 [] es).2.2.2.2≠0 then trW cs 0 0 [] es
 else (hdB (colsL cs) ++ (trW cs 0 0 [] es).1,(trW cs 0 0 [] es).2)
end Go.Proofs.YtpcobefhgkiolaaGreatDoor


/- -/
namespace Go.Proofs.YtpcobefhgkiolaaGreatDoor
open Go.RowKit Go.Shelf
theorem trW_ok {cs:List ColB} {i:Nat} {s:Int} {v:List PairB} {x:EntB} {t:List EntB} (h:(trW cs i s v (x :: t)).2.2.2.2=0) :
  i < 4096∧apE cs s v x=0∧(entW cs x).2=0∧(trW cs (i + 1) (apN cs s v x) (apV cs s v x) t).2.2.2.2=0 ∧
  trW cs i s v (x :: t)=((entW cs x).1 ++ (trW cs (i + 1) (apN cs s v x) (apV cs s v x) t).1,(trW cs (i + 1) (apN cs s v x) (apV cs s v x) t).2):=by
 have e:trW cs i s v (x :: t)=if 4096≤i then ([],0,[],i,13)
  else if apE cs s v x≠0 then ([],0,[],i,apE cs s v x)
  else if (entW cs x).2≠0 then ([],0,[],i,(entW cs x).2)
  else if (trW cs (i + 1) (apN cs s v x) (apV cs s v x) t).2.2.2.2≠0 then trW cs (i + 1) (apN cs s v x) (apV cs s v x) t
  else ((entW cs x).1 ++ (trW cs (i + 1) (apN cs s v x) (apV cs s v x) t).1,(trW cs (i + 1) (apN cs s v x) (apV cs s v x) t).2):=by rw [trW]
 rw [e] at h ⊢
 by_cases h1:4096≤i
 ·rw [if_pos h1] at h;cases h
 ·rw [if_neg h1] at h ⊢
  by_cases h2:apE cs s v x=0
  ·rw [if_neg (fun h=>h h2)] at h ⊢
   by_cases h3:(entW cs x).2=0
   ·rw [if_neg (fun h=>h h3)] at h ⊢
    by_cases h4:(trW cs (i + 1) (apN cs s v x) (apV cs s v x) t).2.2.2.2=0
    ·rw [if_neg (fun h=>h h4)]
     exact ⟨by omega,h2,h3,h4,rfl⟩
    ·rw [if_pos h4] at h;exact absurd h h4
   ·rw [if_pos h3] at h;exact absurd h h3
  ·rw [if_pos h2] at h;exact absurd h h2
theorem trW_of {cs:List ColB} {i:Nat} {s:Int} {v:List PairB} {x:EntB} {t:List EntB} (h1:i < 4096) (h2:apE cs s v x=0) (h3:(entW cs x).2=0) (h4:(trW cs (i + 1) (apN cs s v x) (apV cs s v x) t).2.2.2.2=0) :
  trW cs i s v (x :: t)=((entW cs x).1 ++ (trW cs (i + 1) (apN cs s v x) (apV cs s v x) t).1,(trW cs (i + 1) (apN cs s v x) (apV cs s v x) t).2):=by
 rw [trW,if_neg (by omega),if_neg (fun h=>h h2),if_neg (fun h=>h h3),if_neg (fun h=>h h4)]
end Go.Proofs.YtpcobefhgkiolaaGreatDoor


/- -/
namespace Go.Proofs.YtpcobefhgkiolaaGreatDoor
open Go.RowKit Go.Shelf
theorem trW_take {cs:List ColB}:∀ (es:List EntB) (j n:Nat) (s:Int) (v:List PairB),(trW cs n s v es).2.2.2.2=0→j≤es.length →
  (trW cs n s v (es.take j)).2.2.2.2=0∧(trW cs n s v (es.take j)).2.2.2.1=n + j∧(trW cs n s v (es.take j)).1=(trW cs n s v es).1.take (trW cs n s v (es.take j)).1.length
 | es,0,n,s,v,h,hj=>by rw [List.take_zero,trW];simp
 | [],j + 1,n,s,v,h,hj=>by simp at hj
 | x :: t,j + 1,n,s,v,h,hj=>by
  obtain ⟨h1,h2,h3,h4,h5⟩:=trW_ok h
  obtain ⟨i1,i2,i3⟩:=trW_take t j (n + 1) (apN cs s v x) (apV cs s v x) h4 (by simpa using hj)
  rw [List.take_succ_cons,trW_of h1 h2 h3 i1,h5]
  refine ⟨i1,by dsimp only;rw [i2];omega,?_⟩
  dsimp only
  have e3:∀ (a b c:List UInt8),(a ++ b).take (a ++ c).length=a ++ b.take c.length:=fun a b c=>by
   rw [List.length_append,List.take_append,Nat.add_sub_cancel_left,List.take_of_length_le (by omega)]
  rw [e3,← i3]
def deltas (es:List EntB):List PairB:=(es.filter fun x=>x.1 == 0).flatMap fun x=>x.2.2
def deltaN (es:List EntB):Nat:=(es.filter fun x=>x.1 == 0).length
theorem ap_inv {cs:List ColB} {s:Int} {v:List PairB} {x:EntB} (h:apE cs s v x=0) :
  chkZ cs v=0∧(0≤s∧s≤281474976710656)∧entE cs x=0 ∧
  ((x.1=0∧x.2.1=s + 1∧sumE cs v x.2.2=0∧apN cs s v x=s + 1∧apV cs s v x=sumO cs v x.2.2)∨(x.1=1∧x.2.1=s∧x.2.2=v∧apN cs s v x=s∧apV cs s v x=v)):=by
 have hN:apN cs s v x=x.2.1:=by unfold apN;rw [if_pos h]
 have hV:apV cs s v x=if x.1=1 then v else sumO cs v x.2.2:=by unfold apV;rw [if_pos h]
 unfold apE at h
 by_cases h1:chkZ cs v=0
 ·rw [if_neg (fun h=>h h1)] at h
  by_cases h2:s < 0∨281474976710656 < s
  ·rw [if_pos h2] at h;cases h
  ·rw [if_neg h2] at h
   by_cases h3:entE cs x=0
   ·rw [if_neg (fun h=>h h3)] at h
    have hk:=(entE_zero.1 h3).2.1
    by_cases h4:(x.1=0∧x.2.1≠s + 1)∨(x.1=1∧x.2.1≠s)
    ·rw [if_pos h4] at h;cases h
    ·rw [if_neg h4] at h
     refine ⟨h1,by omega,h3,?_⟩
     by_cases h5:x.1=1
     ·rw [if_pos h5] at h hV
      by_cases h6:x.2.2=v
      ·exact .inr ⟨h5,by omega,h6,by rw [hN];omega,hV⟩
      ·rw [if_neg h6] at h;cases h
     ·rw [if_neg h5] at h hV
      exact .inl ⟨by omega,by omega,h,by rw [hN];omega,hV⟩
   ·rw [if_pos h3] at h;exact absurd h h3
 ·rw [if_pos h1] at h;exact absurd h h1
theorem Fold.add {cs:List ColB} {view ps p:List PairB} (h:Fold cs view ps) (hz:Zs cs p) (h1:sumE cs view p=0):Fold cs (sumO cs view p) (ps ++ p):=by
 have hv:=h.set hz.schema
 obtain ⟨z4,z5⟩:=sum_ok hv hz h1
 refine ⟨fun q hq=>?_,.inr ⟨z4,?_,fun r=>?_⟩⟩
 ·rcases List.mem_append.1 hq with hq | hq
  ·exact h.1 q hq
  ·exact hz.1 q hq
 ·refine allV_app ?_ hz.all
  rcases h.2 with ⟨rfl,_⟩ | ⟨_,h2,_⟩
  ·intro q hq;exact absurd hq (by simp)
  ·exact h2
 ·rw [z5,Z.sumW_append,h.sum]
theorem deltas_cons (x:EntB) (t:List EntB):deltas (x :: t)=(if x.1=0 then x.2.2 else []) ++ deltas t:=by
 unfold deltas
 rw [List.filter_cons]
 by_cases h:x.1=0
 ·rw [if_pos (by simpa using h),if_pos h,List.flatMap_cons]
 ·rw [if_neg (by simpa using h),if_neg h,List.nil_append]
theorem deltaN_cons (x:EntB) (t:List EntB):deltaN (x :: t)=(if x.1=0 then 1 else 0) + deltaN t:=by
 unfold deltaN
 rw [List.filter_cons]
 by_cases h:x.1=0
 ·rw [if_pos (by simpa using h),if_pos h,List.length_cons];omega
 ·rw [if_neg (by simpa using h),if_neg h];omega
theorem trW_view {cs:List ColB}:∀ (es:List EntB) (n:Nat) (s:Int) (v all:List PairB),(∀ x ∈ es,EnO x)→(trW cs n s v es).2.2.2.2=0→Fold cs v all →
  Fold cs (trW cs n s v es).2.2.1 (all ++ deltas es)∧(trW cs n s v es).2.1=s + (deltaN es:Int)∧(trW cs n s v es).2.2.2.1=n + es.length
 | [],n,s,v,all,hO,h,hF=>by
  rw [trW]
  exact ⟨by simpa [deltas] using hF,by simp [deltaN],by simp⟩
 | x :: t,n,s,v,all,hO,h,hF=>by
  obtain ⟨h1,h2,h3,h4,h5⟩:=trW_ok h
  obtain ⟨a1,a2,a3,a4⟩:=ap_inv h2
  have hz:Zs cs x.2.2:=⟨(hO x (by simp)).2.2,(entE_zero.1 a3).2.2.2⟩
  rw [h5,deltas_cons,deltaN_cons]
  dsimp only
  rcases a4 with ⟨k1,k2,k3,k4,k5⟩ | ⟨k1,k2,k3,k4,k5⟩
  ·rw [if_pos k1,if_pos k1]
   have hF2:=hF.add hz k3
   rw [← k5] at hF2
   obtain ⟨i1,i2,i3⟩:=trW_view t (n + 1) (apN cs s v x) (apV cs s v x) (all ++ x.2.2) (fun y hy=>hO y (by simp [hy])) h4 hF2
   refine ⟨by rw [← List.append_assoc];exact i1,?_,by rw [i3,List.length_cons];omega⟩
   rw [i2,k4];push_cast;omega
  ·rw [if_neg (by omega),if_neg (by omega),List.nil_append]
   obtain ⟨i1,i2,i3⟩:=trW_view t (n + 1) (apN cs s v x) (apV cs s v x) all (fun y hy=>hO y (by simp [hy])) h4 (by rw [k5];exact hF)
   refine ⟨i1,?_,by rw [i3,List.length_cons];omega⟩
   rw [i2,k4];push_cast;omega
theorem trW_app {cs:List ColB}:∀ (a r:List EntB) (n:Nat) (s:Int) (v:List PairB),(trW cs n s v a).2.2.2.2=0 →
  trW cs n s v (a ++ r)=if (trW cs (n + a.length) (trW cs n s v a).2.1 (trW cs n s v a).2.2.1 r).2.2.2.2≠0 then trW cs (n + a.length) (trW cs n s v a).2.1 (trW cs n s v a).2.2.1 r
   else ((trW cs n s v a).1 ++ (trW cs (n + a.length) (trW cs n s v a).2.1 (trW cs n s v a).2.2.1 r).1,(trW cs (n + a.length) (trW cs n s v a).2.1 (trW cs n s v a).2.2.1 r).2)
 | [],r,n,s,v,h=>by
  rw [List.nil_append,show trW cs n s v []=([],s,v,n,0) from by rw [trW]]
  dsimp only
  rw [List.length_nil,Nat.add_zero,List.nil_append]
  split <;> rfl
 | x :: t,r,n,s,v,h=>by
  obtain ⟨h1,h2,h3,h4,h5⟩:=trW_ok h
  have ih:=trW_app t r (n + 1) (apN cs s v x) (apV cs s v x) h4
  rw [h5,List.cons_append]
  dsimp only
  rw [show n + (x :: t).length=n + 1 + t.length from by rw [List.length_cons];omega]
  generalize hT:trW cs (n + 1) (apN cs s v x) (apV cs s v x) t=T at *
  generalize hR:trW cs (n + 1 + t.length) T.2.1 T.2.2.1 r=R at *
  rw [trW,if_neg (by omega),if_neg (fun h=>h h2),if_neg (fun h=>h h3),ih]
  by_cases h6:R.2.2.2.2=0
  ·have e:(if R.2.2.2.2≠0 then R else (T.1 ++ R.1,R.2))=(T.1 ++ R.1,R.2):=if_neg (fun h=>h h6)
   rw [e]
   dsimp only
   rw [if_neg (fun h=>h h6),if_neg (fun h=>h h6),List.append_assoc]
  ·have e:(if R.2.2.2.2≠0 then R else (T.1 ++ R.1,R.2))=R:=if_pos h6
   rw [e,if_pos h6,if_pos h6]
end Go.Proofs.YtpcobefhgkiolaaGreatDoor


/- -/
namespace Go.Proofs.YtpcobefhgkiolaaGreatDoor
open Go.RowKit Go.Shelf
theorem wrCols_le:∀ (cols:List Col),(∀ c ∈ cols,c.1.length≤32)→(wrCols cols).length≤43 * cols.length
 | [],_=>by simp [wrCols]
 | c :: r,h=>by
  have ih:=wrCols_le r (fun x hx=>h x (by simp [hx]))
  have h1:=h c (by simp)
  have h2:=encU_le c.1.length (by omega)
  have e:wrCols (c :: r)=wrCol c ++ wrCols r:=by unfold wrCols;rw [List.flatMap_cons]
  rw [e,List.length_append,List.length_cons]
  unfold wrCol encB
  rw [List.length_append,List.length_append,List.length_singleton]
  omega
theorem wrS_million {cols:List Col} (h:errS cols=0):(wrS cols).length≤1048576:=by
 obtain ⟨z1,z2,_,z4⟩:=errS_zero h
 have h1:=wrCols_le cols (fun c hc=>(z4 c hc).1)
 have h2:=encU_le cols.length (by omega)
 unfold wrS
 rw [List.length_append]
 omega
theorem hdB_length (cols:List Col):(hdB cols).length=4 + (frB 0 (wrS cols)).length:=by
 unfold hdB magicL;rw [List.length_append];rfl
end Go.Proofs.YtpcobefhgkiolaaGreatDoor

