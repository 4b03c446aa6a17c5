/- -/
import Derived.Test.YtlapgdocpndfiaaGreatDoorUWrtP
import Derived.Test.YtlapgdocpndfiaaGreatDoorUDsk
set_option maxHeartbeats 4000000
set_option linter.unusedVariables false
set_option linter.unusedSimpArgs false
set_option maxRecDepth 1000000
namespace Go.Proofs.YtlapgdocpndfiaaGreatDoor
open _root_.Go.Proofs.Tryz
open Go.RowKit Go.Shelf
theorem zoE {cs:List ColB}:∀ (es:List EntB) (a n:Nat) (s:Int) (v:List PairB),(∀ x ∈ es,EnO x)->(trW cs n s v es).2.2.2.2=0 ->
  (∀ m ∈ trM cs a s v es,a < m.2)/\(trM cs a s v es).Pairwise (fun x y=>x.2 < y.2)
 | [],a,n,s,v,_,h=>by rw [trM];simp
 | x :: t,a,n,s,v,hO,h=>by
  obtain ⟨h1,h2,h3,h4,h5⟩:=zfV h
  obtain ⟨k,p,e1,e2,e3,e4,e5⟩:=ze9 (hO x (by simp)) h3
  have hpos:=zb8 k p
  rw [<- e1] at hpos
  obtain ⟨i1,i2⟩:=zoE t (a + (entW cs x).1.length) (n + 1) (apN cs s v x) (apV cs s v x) (fun y hy=>hO y (by simp [hy])) h4
  rw [trM]
  refine ⟨fun m hm=>?_,List.pairwise_cons.2 ⟨fun m hm=>i1 m hm,i2⟩⟩
  rcases List.mem_cons.1 hm with rfl | hm
  ·dsimp only;omega
  ·have:=i1 m hm;omega
theorem zwN {cs:List ColB} {r:Bs} (hS:errS (colsL cs)=0) {i:Nat} (hi:i < (hdB (colsL cs)).length):(trD ((hdB (colsL cs) ++ r).take i)).2.2.2.2≠0:=by
 have hsm:=zbU hS;have hl:=zbI (colsL cs);have e:(hdB (colsL cs) ++ r).take i=(hdB (colsL cs)).take i:=List.take_append_of_le_length (by omega);rw [e];have hlen:((hdB (colsL cs)).take i).length=i:=by rw [List.length_take];omega
 unfold trD;by_cases h4:i < 4
 ·rw [if_pos (.inl (by omega))];show (6:Nat)≠0;decide
 have h5:((hdB (colsL cs)).take i).take 4=magicL:=by
  rw [List.take_take,Nat.min_eq_left (by omega)];unfold hdB;exact List.take_left' rfl
 have h6:((hdB (colsL cs)).take i).drop 4=(frB 0 (wrS (colsL cs))).take (i - 4):=by
  rw [List.drop_take];unfold hdB;rw [List.drop_left' (show magicL.length=4 from rfl)]
 rw [if_neg (by rw [h5];simp;omega),h6,zyA 0 (by omega) (wrS (colsL cs)) hsm (i - 4) (by omega),if_pos (by simp)];show (5:Nat)≠0;decide
theorem trD_cut {cs:List ColB} {es:List EntB} (hS:errS (colsL cs)=0) (hO:∀ x ∈ es,EnO x) (h:(trW cs 0 0 [] es).2.2.2.2=0) {i:Nat} (hi:i<=(hdB (colsL cs) ++ (trW cs 0 0 [] es).1).length) :
  ((trD ((hdB (colsL cs) ++ (trW cs 0 0 [] es).1).take i)).2.2.2.2≠0/\∀ m ∈ (0,(hdB (colsL cs)).length) :: trM cs (hdB (colsL cs)).length 0 [] es,m.2≠i) ∨
  (∃ k,k<=es.length/\trD ((hdB (colsL cs) ++ (trW cs 0 0 [] es).1).take i)=(cs,es.take k,((0,(hdB (colsL cs)).length) :: trM cs (hdB (colsL cs)).length 0 [] es).take (k + 1),i,0) /\
   (((0,(hdB (colsL cs)).length) :: trM cs (hdB (colsL cs)).length 0 [] es).getD k (0,0)).2=i):=by
 have hsm:=zbU hS;have hl:=zbI (colsL cs);by_cases hh:i < (hdB (colsL cs)).length
 ·refine .inl ⟨zwN hS hh,fun m hm=>?_⟩;rcases List.mem_cons.1 hm with rfl | hm
  ·dsimp only;omega
  have:=(zoE es (hdB (colsL cs)).length 0 0 [] hO h).1 m hm;omega
 obtain ⟨r1,r2,_⟩:=zmY hS;obtain ⟨b,hb⟩:=nm_ (hdB (colsL cs) ++ (trW cs 0 0 [] es).1);rw [<- hb] at hi ⊢;have hd:b.drop (hdB (colsL cs)).length=(trW cs 0 0 [] es).1:=by rw [hb,List.drop_left]
 have hlt:(b.take i).length=i:=by rw [List.length_take];omega
 have h5:(b.take i).take 4=magicL:=by
  rw [List.take_take,Nat.min_eq_left (by omega),hb];unfold hdB;rw [List.append_assoc];exact List.take_left' rfl
 have h6:(b.take i).drop 4=frB 0 (wrS (colsL cs)) ++ ((trW cs 0 0 [] es).1).take (i - (hdB (colsL cs)).length):=by
  rw [List.drop_take,hb];unfold hdB;rw [List.append_assoc,List.drop_left' (show magicL.length=4 from rfl),List.take_append,List.take_of_length_le (by unfold hdB at hh;rw [List.length_append] at hh;have:magicL.length=4:=rfl;omega)];congr 2;rw [List.length_append];have:magicL.length=4:=rfl;omega
 have hn:=zgV 0 (by omega) (wrS (colsL cs)) (((trW cs 0 0 [] es).1).take (i - (hdB (colsL cs)).length)) hsm;rw [<- h6] at hn;have hD:∀ R,trR cs (b.take i) i (hdB (colsL cs)).length 0 0 []=R->trD (b.take i)=if R.2.2.2≠0 then ([],[],[],R.2.2) else (cs,R.1,(0,(hdB (colsL cs)).length) :: R.2.1,R.2.2):=by
  intro R hR;unfold trD;rw [if_neg (by rw [h5];simp;omega),hn];dsimp only;rw [if_neg (by simp),if_neg (by simp),if_neg (fun h=>h r1),r2,zcR,<- hl,hlt,hR]
 rcases trR_cut (cs:=cs) hi es i (hdB (colsL cs)).length 0 0 [] hO h (by omega) hd (by omega) with ⟨c1,c2,c3⟩ | ⟨k,c1,c2,c3⟩
 ·refine .inl ⟨?_,fun m hm=>?_⟩
  ·rw [hD _ rfl,if_pos c1];exact c1
  rcases List.mem_cons.1 hm with rfl | hm
  ·dsimp only;omega
  exact c3 m hm
 refine .inr ⟨k,c1,?_,?_⟩
 ·rw [hD _ c2,if_neg (by simp)];rfl
 rcases c3 with ⟨rfl,c3⟩ | ⟨c4,c5,c6⟩
 ·rw [List.getD_cons_zero];exact c3.symm
 obtain ⟨q,rfl⟩:∃ q,k=q + 1:=⟨k - 1,by omega⟩;rw [List.getD_cons_succ];exact c6
/- -/
theorem zmQ {cs:List ColB} {b:Bs}:∀ (f at_ n:Nat) (s:Int) (v:List PairB),at_<=b.length->b.length<=at_ + f ->
  ∃ es,(∀ x ∈ es,EnO x)/\(trW cs n s v es).2.2.2.2=0/\(trW cs n s v es).1=(b.drop at_).take ((trR cs b f at_ n s v).2.2.1 - at_)/\at_<=(trR cs b f at_ n s v).2.2.1/\(trR cs b f at_ n s v).2.2.1<=b.length
 | 0,at_,n,s,v,ha,hf=>by
  rw [trR]
  dsimp only
  exact ⟨[],by simp,by rw [trW],by rw [trW];simp,l_,ha⟩
 | f + 1,at_,n,s,v,ha,hf=>by
  have none_:∀ T:List EntB × List (Int × Nat) × Nat × Nat,T.2.2.1=at_->∃ es,(∀ x ∈ es,EnO x)/\(trW cs n s v es).2.2.2.2=0/\(trW cs n s v es).1=(b.drop at_).take (T.2.2.1 - at_)/\at_<=T.2.2.1/\T.2.2.1<=b.length:=fun T hT=>by
   rw [hT]
   exact ⟨[],by simp,by rw [trW],by rw [trW];simp,l_,ha⟩
  by_cases h0:b.length<=at_
  ·exact none_ _ (by rw [zgO _ h0])
  ·by_cases h1:4096<=n
   ·exact none_ _ (by rw [trR,if_neg h0,if_pos h1])
   ·by_cases h2:(nxF (b.drop at_)).2.2.2=0
    ·obtain ⟨x1,x2,x3,x4,x5⟩:=zcN h2
     obtain ⟨k,hk⟩:=nm_ ((nxF (b.drop at_)).1)
     obtain ⟨p,hp⟩:=nm_ ((nxF (b.drop at_)).2.1)
     obtain ⟨m,hm⟩:=nm_ ((nxF (b.drop at_)).2.2.1)
     rw [<- hk,<- hp,<- hm] at x1
     rw [<- hk,<- hp,<- hm] at x2
     rw [<- hm] at x3
     rw [<- hk] at x4
     rw [<- hp] at x5
     rw [List.length_drop] at x3
     have hpos:=zb8 k p
     by_cases h3:entRE cs (k:Int) p=0
     ·obtain ⟨y1,y2,y3,y4,y5⟩:=zgB x5 h3
      have hm1:m=(frB k p).length:=x2
      have hm2:m<=b.length - at_:=x3
      by_cases h4:apE cs s v (entX cs k p)=0
      ·obtain ⟨es,i1,i2,i3,i4,i5⟩:=zmQ (cs:=cs) (b:=b) f (at_ + m) (n + 1) (apN cs s v (entX cs k p)) (apV cs s v (entX cs k p)) (by omega) (by omega)
       have hpl:(trR cs b (f + 1) at_ n s v).2.2.1=(trR cs b f (at_ + m) (n + 1) (apN cs s v (entX cs k p)) (apV cs s v (entX cs k p))).2.2.1:=by
        rw [trR,if_neg h0,if_neg h1,if_neg (fun h=>h h2),<- hk,<- hp,<- hm,if_neg (fun h=>h h3),if_neg (fun h=>h h4)]
        split <;> rfl
       rw [hpl]
       obtain ⟨q,hq⟩:=nm_ ((trR cs b f (at_ + m) (n + 1) (apN cs s v (entX cs k p)) (apV cs s v (entX cs k p))).2.2.1)
       rw [<- hq] at i3 i4 i5 ⊢
       refine ⟨entX cs k p :: es,fun z hz=>?_,?_,?_,by omega,i5⟩
       ·rcases List.mem_cons.1 hz with rfl | hz
        ·exact y1
        ·exact i1 z hz
       ·rw [zoB (by omega) h4 (by rw [y2]) i2];exact i2
       ·rw [zoB (by omega) h4 (by rw [y2]) i2]
        dsimp only
        rw [y2,i3,<- List.drop_drop]
        dsimp only
        rw [show q - at_=m + (q - (at_ + m)) from by omega,List.take_add,x1]
      ·exact none_ _ (by rw [trR,if_neg h0,if_neg h1,if_neg (fun h=>h h2),<- hk,<- hp,if_neg (fun h=>h h3),if_pos h4])
     ·exact none_ _ (by rw [trR,if_neg h0,if_neg h1,if_neg (fun h=>h h2),<- hk,<- hp,if_pos h3])
    ·exact none_ _ (by rw [trR,if_neg h0,if_neg h1,if_pos h2])
theorem zsS {b:Bs} (h:4 < (trD b).2.2.2.1) :
  ∃ cs es,errS (colsL cs)=0/\(∀ x ∈ es,EnO x)/\(trW cs 0 0 [] es).2.2.2.2=0/\b.take (trD b).2.2.2.1=hdB (colsL cs) ++ (trW cs 0 0 [] es).1/\(trD b).2.2.2.1<=b.length:=by
 by_cases h0:b.length < 4∨b.take 4≠magicL
 ·unfold trD at h;rw [if_pos h0] at h;simp at h
 by_cases h1:(nxF (b.drop 4)).2.2.2=0
 ·by_cases h2:(nxF (b.drop 4)).1=0
  ·by_cases h3:readE (nxF (b.drop 4)).2.1=0
   ·obtain ⟨x1,x2,x3,x4,x5⟩:=zcN h1;obtain ⟨y1,y2,_⟩:=ziG h3;rw [h2] at x1 x2;rw [List.length_drop] at x3;obtain ⟨cols,hc⟩:=nm_ (readC (nxF (b.drop 4)).2.1);obtain ⟨m,hm⟩:=nm_ ((nxF (b.drop 4)).2.2.1);have e:(trD b).2.2.2.1=(trR (colsB cols) b b.length (4 + m) 0 0 []).2.2.1:=by
     unfold trD;rw [if_neg h0,if_neg (fun h=>h h1),if_neg (fun h=>h h2),if_neg (fun h=>h h3),<- hc,<- hm];split <;> rfl
    rw [e];rw [<- hc] at y1 y2;rw [<- y2] at x1 x2;rw [<- hm] at x1 x2 x3;have hm2:m<=b.length - 4:=x3;have h44:4<=b.length:=(by omega);obtain ⟨es,i1,i2,i3,i4,i5⟩:=zmQ (cs:=colsB cols) (b:=b) b.length (4 + m) 0 0 [] (by omega) (by omega);obtain ⟨q,hq⟩:=nm_ ((trR (colsB cols) b b.length (4 + m) 0 0 []).2.2.1);rw [<- hq] at i3 i4 i5 ⊢;refine ⟨colsB cols,es,by rw [zc1];exact y1,i1,i2,?_,i5⟩;have hmg:magicL=b.take 4:=by
     apply Decidable.of_not_not;intro h9;exact h0 (.inr (fun e=>h9 e.symm))
    rw [i3,zc1];unfold hdB;rw [<- x1,hmg,show q=4 + (m + (q - (4 + m))) from by omega,List.take_add,List.take_add,List.drop_drop,show 4 + (m + (q - (4 + m))) - (4 + m)=q - (4 + m) from by omega,List.append_assoc]
   unfold trD at h;rw [if_neg h0,if_neg (fun h=>h h1),if_neg (fun h=>h h2),if_pos h3] at h;simp at h
  unfold trD at h;rw [if_neg h0,if_neg (fun h=>h h1),if_pos h2] at h;simp at h
 unfold trD at h;rw [if_neg h0,if_pos h1] at h;simp at h
theorem zsN {cs:List ColB} {b:Bs}:∀ (es:List EntB) (f at_ n:Nat) (s:Int) (v:List PairB) (r:Bs),(∀ x ∈ es,EnO x)->(trW cs n s v es).2.2.2.2=0->at_<=b.length->b.drop at_=(trW cs n s v es).1 ++ r->b.length<=at_ + f ->
  at_ + (trW cs n s v es).1.length<=(trR cs b f at_ n s v).2.2.1
 | [],f,at_,n,s,v,r,_,_,ha,_,hf=>by
  obtain ⟨_,_,_,_,h,_⟩:=zmQ (cs:=cs) (b:=b) f at_ n s v ha hf
  rw [trW]
  exact h
 | x :: t,f,at_,n,s,v,r,hO,h,ha,hd,hf=>by
  obtain ⟨h1,h2,h3,h4,h5⟩:=zfV h
  obtain ⟨k,p,e1,e2,e3,e4,e5⟩:=ze9 (hO x (by simp)) h3
  rw [h5] at hd ⊢
  dsimp only at hd ⊢
  rw [List.append_assoc] at hd
  have hn:=zgV k e2 p ((trW cs (n + 1) (apN cs s v x) (apV cs s v x) t).1 ++ r) e3
  rw [<- e1,<- hd] at hn
  have hpos:=zb8 k p
  rw [<- e1] at hpos
  have hlen:=congrArg List.length hd
  rw [List.length_drop,List.length_append] at hlen
  have hd2:b.drop (at_ + (entW cs x).1.length)=(trW cs (n + 1) (apN cs s v x) (apV cs s v x) t).1 ++ r:=by
   rw [<- List.drop_drop,hd,List.drop_left]
  match f,hf with
  | 0,hf=>omega
  | f + 1,hf =>
   have ih:=zsN t f (at_ + (entW cs x).1.length) (n + 1) (apN cs s v x) (apV cs s v x) r (fun y hy=>hO y (by simp [hy])) h4 (by omega) hd2 (by omega)
   have hpl:(trR cs b (f + 1) at_ n s v).2.2.1=(trR cs b f (at_ + (entW cs x).1.length) (n + 1) (apN cs s v x) (apV cs s v x)).2.2.1:=by
    rw [trR,if_neg (by omega),if_neg (by omega),hn]
    dsimp only
    rw [if_neg (by simp),if_neg (fun h=>h e4),e5,if_neg (fun h=>h h2)]
    split <;> rfl
   rw [hpl,List.length_append]
   omega
theorem zAI {cs:List ColB} {es:List EntB} {r:Bs} (hS:errS (colsL cs)=0) (hO:∀ x ∈ es,EnO x) (h:(trW cs 0 0 [] es).2.2.2.2=0) :
  (hdB (colsL cs) ++ (trW cs 0 0 [] es).1).length<=(trD ((hdB (colsL cs) ++ (trW cs 0 0 [] es).1) ++ r)).2.2.2.1:=by
 have hsm:=zbU hS;have hl:=zbI (colsL cs);obtain ⟨r1,r2,_⟩:=zmY hS;obtain ⟨b,hb⟩:=nm_ ((hdB (colsL cs) ++ (trW cs 0 0 [] es).1) ++ r);rw [<- hb];have hlb:=congrArg List.length hb;rw [List.length_append,List.length_append] at hlb;have h4:b.take 4=magicL:=by rw [hb];unfold hdB;rw [List.append_assoc,List.append_assoc];exact List.take_left' rfl
 have hd4:b.drop 4=frB 0 (wrS (colsL cs)) ++ ((trW cs 0 0 [] es).1 ++ r):=by rw [hb];unfold hdB;rw [List.append_assoc,List.append_assoc,List.drop_left' (show magicL.length=4 from rfl)]
 have hn:=zgV 0 (by omega) (wrS (colsL cs)) ((trW cs 0 0 [] es).1 ++ r) hsm;rw [<- hd4] at hn;have hd:b.drop (hdB (colsL cs)).length=(trW cs 0 0 [] es).1 ++ r:=by rw [hb,List.append_assoc,List.drop_left]
 have hr:=zsN es b.length (hdB (colsL cs)).length 0 0 [] r hO h (by omega) hd (by omega);have e:(trD b).2.2.2.1=(trR cs b b.length (hdB (colsL cs)).length 0 0 []).2.2.1:=by
  unfold trD;rw [if_neg (by rw [h4];simp;omega),hn];dsimp only;rw [if_neg (by simp),if_neg (by simp),if_neg (fun h=>h r1),r2,zcR,<- hl];split <;> rfl
 rw [e,List.length_append];exact hr
theorem zwO {cs:List ColB} {es:List EntB} {r:Bs} (hS:errS (colsL cs)=0) (hO:∀ x ∈ es,EnO x) (h:(trW cs 0 0 [] es).2.2.2.2=0) {b:Bs} (hb:b=(hdB (colsL cs) ++ (trW cs 0 0 [] es).1) ++ r) :
  ∃ es',(∀ x ∈ es',EnO x)/\(trW cs 0 0 [] es').2.2.2.2=0/\b.take (trD b).2.2.2.1=hdB (colsL cs) ++ (trW cs 0 0 [] es').1/\(trD b).2.2.2.1<=b.length/\es.length<=es'.length/\es'.take es.length=es/\(hdB (colsL cs) ++ (trW cs 0 0 [] es).1).length<=(trD b).2.2.2.1:=by
 have hm:=zAI (r:=r) hS hO h;rw [<- hb] at hm;have h4:4 < (hdB (colsL cs) ++ (trW cs 0 0 [] es).1).length:=by
  rw [List.length_append,zbI];have:=zb8 0 (wrS (colsL cs));omega
 obtain ⟨cs',es',hS',hO',h',ht,hle⟩:=zsS (b:=b) (by omega);have hta:(hdB (colsL cs') ++ (trW cs' 0 0 [] es').1).take (hdB (colsL cs) ++ (trW cs 0 0 [] es).1).length=hdB (colsL cs) ++ (trW cs 0 0 [] es).1:=by
  rw [<- ht,List.take_take,Nat.min_eq_left hm,hb];exact List.take_left' rfl
 have hlen:=congrArg List.length ht;rw [List.length_take,Nat.min_eq_left hle] at hlen;have hbk:=ziC hS hO h;rcases trD_cut hS' hO' h' (i:=(hdB (colsL cs) ++ (trW cs 0 0 [] es).1).length) (by omega) with ⟨h9,_⟩ | ⟨k,hk,he,_⟩
 ·rw [hta,hbk] at h9;exact absurd rfl h9
 rw [hta,hbk] at he;injection he with e1 he
 injection he with e2 he
 subst e1;have hkl:es.length=k:=by rw [e2,List.length_take];omega
 exact ⟨es',hO',h',ht,hle,by omega,by rw [hkl];exact e2.symm,hm⟩
def rvD (b:Bs):Nat × List ColB × List EntB × Nat :=
 if (trD b).2.2.2.2≠0/\(trD b).2.2.2.1<=4 then (0,[],[],(trD b).2.2.2.2)
 else ((trD b).2.2.2.1,(trD (b.take (trD b).2.2.2.1)).1,(trD (b.take (trD b).2.2.2.1)).2.1,0)
/- -/
def RvO (w:World) (b:Bs) (e:Ending) (w':World):Prop :=
 ∃ v,e=.returned (.tuple #[.int .i64 ((rvD b).1:Nat),v,.int .i64 ((rvD b).2.2.2:Nat)])/\RdT13 w' v (rvD b).2.1 (rvD b).2.2.1/\CS (rvD b).2.1/\Below w.heap.size w w'
theorem zx5 {b:Bs} (h:(trD b).2.2.2.2=0):rvD b=((trD b).2.2.2.1,(trD b).1,(trD b).2.1,0):=by
 obtain ⟨_,_,_,_,h5,_⟩:=zr1 h;unfold rvD;rw [if_neg (fun k=>k.1 h)];rw [show b.take (trD b).2.2.2.1=b from by rw [h5];exact List.take_length]
theorem zt1 {b:Bs} (h:(trD b).2.2.2.2≠0) (h4:(trD b).2.2.2.1<=4):rvD b=(0,[],[],(trD b).2.2.2.2):=if_pos ⟨h,h4⟩
theorem zt0 {b:Bs} (h4:¬ (trD b).2.2.2.1<=4):rvD b=((trD b).2.2.2.1,(trD (b.take (trD b).2.2.2.1)).1,(trD (b.take (trD b).2.2.2.1)).2.1,0):=if_neg fun k=>h4 k.2
theorem zx4 (w:World):RdT13 w (.agg #[.slice none 0 0,.slice none 0 0]) [] []:=⟨_,_,rfl,RdG.nil colE w,[],rfl,RdG.nil zcB w,fun _ h=>absurd h (by simp)⟩
theorem zlH {w w0 w1 w2 w8 w9:World} {rb:Nat} {sv ev:Value} {cs:List ColB} {es:List EntB} (hB0:Below w.heap.size w w0) (hrb:rb=w.heap.size) (hlt:rb < w0.heap.size) (hb:Below w0.heap.size w0 w1)
  (h2:Below w1.heap.size w1 w2) (hT:∀ wz,Only (fun j=>j < w0.heap.size) w1 wz->RdT13 wz (.agg #[sv,ev]) cs es) (h8:w8=w2∨w8=w2.drew) (hR:Tbox w8 rb (.slice none 0 0) (.slice none 0 0))
  (h9:w9=((w8.setCell ⟨rb,0,none⟩ sv).setCell ⟨rb,1,none⟩ ev)∨w9=((w8.setCell ⟨rb,0,none⟩ sv).setCell ⟨rb,1,none⟩ ev).drew) :
  w9.cell? ⟨rb,0,none⟩=some sv/\w9.cell? ⟨rb,1,none⟩=some ev/\RdT13 w9 (.agg #[sv,ev]) cs es/\Below w.heap.size w w9:=by
 have b8:Below w1.heap.size w1 w8:=by
  rcases h8 with rfl | rfl
  ·exact h2
  exact h2.drew
 have hz:w.heap.size<=rb:=by omega
 have bw8:Below w.heap.size w w8:=hB0.trans ((hb.trans (b8.mono hb.size)).mono hB0.size);have k1:=(hR.both sv ev).cells;have k2:Below w.heap.size w ((w8.setCell ⟨rb,0,none⟩ sv).setCell ⟨rb,1,none⟩ ev):=(bw8.setCell (p:=⟨rb,0,none⟩) hz _).setCell (p:=⟨rb,1,none⟩) hz _;have k3:Only (fun j=>j < w0.heap.size) w1 ((w8.setCell ⟨rb,0,none⟩ sv).setCell ⟨rb,1,none⟩ ev):=(((Only.refl _ _).below b8 l_).setCell (p:=⟨rb,0,none⟩) hlt _).setCell (p:=⟨rb,1,none⟩) hlt _;rcases h9 with rfl | rfl
 ·exact ⟨k1.1,k1.2,hT _ k3,k2⟩
 exact ⟨k1.1,k1.2,hT _ k3.drew,k2.drew⟩
/- -/
theorem TrS.bytes {cs:List ColB} {es:List EntB} (h:TrS cs es):(trE cs es).1=hdB (colsL cs) ++ (trW cs 0 0 [] es).1:=by rw [h.parts.2.2]
theorem zCE {cs:List ColB} {es:List EntB} (hC:CS cs) (hS:errS (colsL cs)=0) (hO:∀ x ∈ es,EnO x) (h:(trW cs 0 0 [] es).2.2.2.2=0):TrS cs es :=
 ⟨hC,hO,by rw [trE,if_neg (by rw [hS];simp),if_neg (by rw [h];simp)];exact h⟩
theorem zF4 {cs:List ColB} {es:List EntB} {r b:Bs} (ht:TrS cs es) (hb:b=(trE cs es).1 ++ r) :
  ∃ es',TrS cs es'/\rvD b=((trE cs es').1.length,cs,es',0)/\b.take (trE cs es').1.length=(trE cs es').1/\(trE cs es').1.length<=b.length/\es.length<=es'.length/\es'.take es.length=es/\(trE cs es).1.length<=(trE cs es').1.length:=by
 obtain ⟨hS,hW,_⟩:=ht.parts;rw [ht.bytes] at hb;obtain ⟨es',hO',h',ht',hle,hl,htk,hm⟩:=zwO hS ht.en hW hb;have hs':=zCE ht.sch hS hO' h';have hp:(trD b).2.2.2.1=(trE cs es').1.length:=by
  rw [hs'.bytes,<- ht',List.length_take,Nat.min_eq_left hle]
 have h4:4 < (hdB (colsL cs) ++ (trW cs 0 0 [] es).1).length:=by
  rw [List.length_append,zbI];have:=zb8 0 (wrS (colsL cs));omega
 have hk:=ziC hS hO' h';rw [<- ht'] at hk;refine ⟨es',hs',?_,?_,by omega,hl,htk,by rw [ht.bytes];omega⟩
 ·unfold rvD;rw [if_neg (fun h=>by omega),hk,hp]
 rw [<- hp,hs'.bytes];exact ht'
theorem zj2 {cs:List ColB} {es:List EntB} (h:TrS cs es) (k:Nat):TrS cs (es.take k)/\(trE cs (es.take k)).1=(trE cs es).1.take (trE cs (es.take k)).1.length/\(trE cs (es.take k)).1.length<=(trE cs es).1.length:=by
 obtain ⟨hS,hW,_⟩:=h.parts;have hj:es.take k=es.take (min k es.length):=by
  by_cases hk:k<=es.length
  ·rw [Nat.min_eq_left hk]
  rw [Nat.min_eq_right (by omega),List.take_of_length_le (by omega),List.take_of_length_le l_]
 rw [hj];obtain ⟨t1,_,t3⟩:=zsM es (min k es.length) 0 0 [] hW (Nat.min_le_right _ _);have ht:=zCE h.sch hS (fun x hx=>h.en x (List.mem_of_mem_take hx)) t1;have hlen:(trW cs 0 0 [] (es.take (min k es.length))).1.length<=(trW cs 0 0 [] es).1.length:=by
  have:=congrArg List.length t3;rw [List.length_take] at this;omega
 refine ⟨ht,?_,by rw [ht.bytes,h.bytes,List.length_append,List.length_append];omega⟩;rw [ht.bytes,h.bytes,List.length_append,List.take_length_add_append,<- t3]
theorem zAG {cs:List ColB} {es:List EntB} (h:TrS cs es) (k n:Nat) (j:Bs) :
  (trE cs es).1.take ((trE cs (es.take k)).1.length + n) ++ j=(trE cs (es.take k)).1 ++ (((trE cs es).1.drop (trE cs (es.take k)).1.length).take n ++ j):=by
 obtain ⟨_,t2,_⟩:=zj2 h k;rw [<- List.append_assoc];congr 1;rw [List.take_add,<- t2]
theorem zsP {cs:List ColB} {es:List EntB} (h:TrS cs es) {k:Nat} (hk:k < es.length):(trE cs (es.take k)).1.length + 6<=(trE cs es).1.length:=by
 obtain ⟨hS,hW,_⟩:=h.parts;obtain ⟨t1,_,_⟩:=zj2 h k;obtain ⟨_,hW1,_⟩:=t1.parts;have hd:es=es.take k ++ (es[k] :: es.drop (k + 1)):=by rw [<- List.drop_eq_getElem_cons hk,List.take_append_drop]
 have ha:=zmP (es.take k) (es[k] :: es.drop (k + 1)) 0 0 [] hW1;rw [<- hd] at ha;split at ha
 ·rename_i hne;rw [ha] at hW;exact absurd hW hne
 rename_i hok;obtain ⟨_,_,h3,_,h5⟩:=zfV (Decidable.not_not.1 hok);obtain ⟨i,p,h6,_⟩:=ze9 (h.en _ (List.getElem_mem hk)) h3;have h7:=zb8 i p;rw [h5] at ha;dsimp only at ha;rw [h.bytes,t1.bytes,ha];simp only [List.length_append];rw [h6];omega
theorem zCB (cs:List ColB) {es:List EntB} (a:ActB) {k:Nat} (hk:k<=es.length):(actS cs es a).take k=es.take k:=by
 unfold actS;split
 ·exact List.take_append_of_le_length hk
 rfl
def LgS (gl gw gd:Nat) (bv dv:Value) (j:Nat):Prop:=j=gl∨(j=gw∨bv.ownBlock=some j)∨DskQ gd dv j
def Lbx (w:World) (gl gw gd k:Nat):Prop:=w.heap[gl]?=some (.cells #[.pointer (some ⟨gw,0,none⟩),.pointer (some ⟨gd,0,none⟩),.int .i64 (k:Int)] 100 (0,0))
theorem Lbx.cells {w:World} {gl gw gd k:Nat} (h:Lbx w gl gw gd k):w.cell? ⟨gl,0,none⟩=some (.pointer (some ⟨gw,0,none⟩))/\w.cell? ⟨gl,1,none⟩=some (.pointer (some ⟨gd,0,none⟩))/\w.cell? ⟨gl,2,none⟩=some (.int .i64 (k:Int)) :=
 ⟨cell_of_row _ _ 0 _ _ _ h,cell_of_row _ _ 1 _ _ _ h,cell_of_row _ _ 2 _ _ _ h⟩
theorem Lbx.free {w:World} {gl gw gd k:Nat} (h:Lbx w gl gw gd k) (i:Nat):w.frozen? ⟨gl,i,none⟩=false:=frozen_of_row _ _ _ _ _ h
theorem Lbx.later {w w':World} {gl gw gd k:Nat} (h:Lbx w gl gw gd k) (hb:Below w.heap.size w w'):Lbx w' gl gw gd k:=(hb.block gl (Array.getElem?_eq_some_iff.1 h).1).trans h
structure Lgp (w:World) (N gl gw gd:Nat) (bv dv:Value) (cs:List ColB) (es:List EntB) (k:Nat) (Q:Nat->Prop):Prop where
 from_:N<=gl
 le:k<=es.length
 box:Lbx w gl gw gd k
 dsk:Dsk w N gd dv (trE cs es).1 (trE cs (es.take k)).1.length 0
 wrt:Wr w N gw bv cs es (fun j=>Q j∨j=gl∨DskQ gd dv j)
 apart:∀ j,Q j->j≠gl/\¬ DskQ gd dv j
 off:¬ DskQ gd dv gl
section
variable {w w':World} {N gl gw gd k:Nat} {bv dv:Value} {cs:List ColB} {es es':List EntB} {Q Q' S:Nat->Prop}
theorem Lgp.lt (h:Lgp w N gl gw gd bv dv cs es k Q):gl < w.heap.size:=(Array.getElem?_eq_some_iff.1 h.box).1
theorem Lgp.ne (h:Lgp w N gl gw gd bv dv cs es k Q):∀ j,(j=gw∨bv.ownBlock=some j)->¬ Q j/\j≠gl/\¬ DskQ gd dv j:=fun j hj =>
 have f:(Q j∨j=gl∨DskQ gd dv j)->False:=fun hq=>hj.elim (h.wrt.free j hq).1 (h.wrt.free j hq).2
 ⟨fun hq=>f (.inl hq),fun hq=>f (.inr (.inl hq)),fun hq=>f (.inr (.inr hq))⟩
theorem Lgp.at_ (h:Lgp w N gl gw gd bv dv cs es k Q) {j:Nat} (hj:LgS gl gw gd bv dv j):N<=j/\j < w.heap.size/\¬ Q j:=by
 rcases hj with rfl | hj | hj
 ·exact ⟨h.from_,h.lt,fun hq=>(h.apart _ hq).1 rfl⟩
 ·refine ⟨?_,?_,(h.ne _ hj).1⟩
  ·rcases hj with rfl | hj
   ·exact h.wrt.from_
   exact (h.wrt.own.lt14 hj).1
  rcases hj with rfl | hj
  ·exact h.wrt.lt
  exact (h.wrt.own.lt14 hj).2
 exact ⟨(h.dsk.q hj).1,(h.dsk.q hj).2,fun hq=>(h.apart _ hq).2 hj⟩
theorem Lgp.only (h:Lgp w N gl gw gd bv dv cs es k Q) (hO:Only S w w') (hS:∀ j,S j->Q j):Lgp w' N gl gw gd bv dv cs es k Q :=
 ⟨h.from_,h.le,hO.keep h.box fun hs=>(h.apart _ (hS _ hs)).1 rfl,h.dsk.only hO fun q hq hs=>(h.apart _ (hS _ hs)).2 hq,h.wrt.only hO fun j _ hs=>.inl (hS j hs),h.apart,h.off⟩
theorem Lgp.later (h:Lgp w N gl gw gd bv dv cs es k Q) (hb:Below w.heap.size w w'):Lgp w' N gl gw gd bv dv cs es k Q:=h.only (S:=fun _=>False) (Only.later15 hb) fun _ h=>h.elim
theorem Lgp.more (h:Lgp w N gl gw gd bv dv cs es k Q) (hk:∀ j,j < w.heap.size->Q' j->Q j):Lgp w N gl gw gd bv dv cs es k Q':=by
 refine ⟨h.from_,h.le,h.box,h.dsk,h.wrt.fresh.less fun j hj=>?_,fun j hj=>?_,h.off⟩
 ·rcases Nat.lt_or_ge j w.heap.size with hl | hl
  ·exact .inl (hj.imp_left (hk j hl))
  exact .inr hl
 rcases Nat.lt_or_ge j w.heap.size with hl | hl
 ·exact h.apart j (hk j hl hj)
 refine ⟨fun e=>?_,fun hd=>?_⟩
 ·have:=h.lt;omega
 have:=(h.dsk.q hd).2;omega
theorem Lgp.below (h:Lgp w N gl gw gd bv dv cs es k Q) (hO:Only (LgS gl gw gd bv dv) w w'):Below N w w' :=
 hO.toBelow (fun j hj=>(h.at_ hj).1) (Nat.le_trans h.from_ (Nat.le_of_lt h.lt))
end
theorem zES {w w':World} {N gl gw gd k:Nat} {bv dv:Value} {cs:List ColB} {es:List EntB} {Q Q' S:Nat->Prop} (h:Lgp w N gl gw gd bv dv cs es k Q) (hO:Only S w w') (hS:∀ j,S j->Q j) (hQ:∀ j,Q' j->Q j∨w.heap.size<=j):Lgp w' N gl gw gd bv dv cs es k Q' :=
 ((h.more (Q':=fun j=>Q j∨Q' j) fun j hj hq=>hq.elim id fun q=>(hQ j q).elim id fun e=>absurd hj (by omega)).only hO fun j hj=>.inl (hS j hj)).more fun j _ hq=>.inr hq
def Lgx (w:World) (N gl:Nat) (cs:List ColB) (es:List EntB) (k:Nat) (Q T:Nat->Prop):Prop:=∃ gw gd bv dv,Lgp w N gl gw gd bv dv cs es k Q/\T=LgS gl gw gd bv dv
def LpO (w:World) (N gl:Nat) (cs:List ColB) (Q T:Nat->Prop) (E:Nat) (es':List EntB) (k':Nat) (e:Ending) (w':World):Prop :=
 e=.returned (.int .i64 (E:Int))/\∃ T',Lgx w' N gl cs es' k' Q T'/\Only T w w'/\∀ j,T' j->T j∨w.heap.size<=j
section
variable {w w1 w2 w3:World} {N gl gw gd k:Nat} {bv bn dv dn xv:Value} {cs:List ColB} {es es':List EntB} {Q:Nat->Prop}
theorem zyL {B:Bs} {E:Nat} (h:Lgp w N gl gw gd bv dv cs es k Q) (hQ:∀ j,Q j->j < w.heap.size) (hb1:Below w.heap.size w w1)
  (hW:Wr w2 N gw bn cs es' (fun j=>(Q j∨j=gl∨DskQ gd dv j)∨xv.ownBlock=some j)) (h12:Only (fun j=>j=gw∨bv.ownBlock=some j) w1 w2) (hp:Place w1 bv bn)
  (hD:Dsk w3 N gd dn ((trE cs es).1 ++ B) (trE cs (es.take k)).1.length 0) (h23:Only (DskQ gd dv) w2 w3) (hq:Plc w2 dv dn) (hB:(trE cs es').1=(trE cs es).1 ++ B) (hk:k<=es'.length) (htk:es'.take k=es.take k) :
  LpO w N gl cs Q (LgS gl gw gd bv dv) E es' k (.returned (.int .i64 (E:Int))) w3:=by
 have h1:=h.later hb1;have s1:=hb1.size;have s2:=h12.size;have hlt:=h.lt;have hdn:∀ j,DskQ gd dn j->DskQ gd dv j∨w2.heap.size<=j:=fun j hj=>hj.elim (fun e=>.inl (.inl e)) fun e=>(hq j e).imp_left .inr;have hgl:¬ DskQ gd dn gl:=fun hj=>(hdn _ hj).elim h.off fun e=>by omega
 have hO1:Only (LgS gl gw gd bv dv) w w1:=Only.later15 hb1;have hO2:Only (LgS gl gw gd bv dv) w w2:=hO1.trans (h12.mono fun j hj=>.inr (.inl hj));have hO3:Only (LgS gl gw gd bv dv) w w3:=hO2.trans (h23.mono fun j hj=>.inr (.inr hj));refine ⟨rfl,_,⟨gw,gd,bn,dn,⟨h.from_,hk,?_,by rw [hB,htk];exact hD,?_,fun j hj=>⟨(h.apart j hj).1,fun hd=>?_⟩,hgl⟩,rfl⟩,hO3,fun j hj=>?_⟩
 ·exact h23.keep (h12.keep h1.box fun hj=>(h1.ne _ hj).2.1 rfl) h.off
 ·refine (hW.fresh.only h23 fun j _ hj=>.inl (.inl (.inr (.inr hj)))).less fun j hj=>?_;rcases hj with hj | hj | hj
  ·exact .inl (.inl (.inl hj))
  ·exact .inl (.inl (.inr (.inl hj)))
  exact (hdn j hj).imp_left fun h=>.inl (.inr (.inr h))
 ·have:=hQ j hj;exact (hdn j hd).elim (h.apart j hj).2 fun e=>by omega
 rcases hj with hj | (hj | hj) | hj
 ·exact .inl (.inl hj)
 ·exact .inl (.inr (.inl (.inl hj)))
 ·rcases hp with e | e
  ·exact .inl (.inr (.inl (.inr (by rw [<- e];exact hj))))
  exact .inr (Nat.le_trans s1 (e _ hj))
 exact (hdn j hj).imp (fun h=>.inr (.inr h)) fun e=>Nat.le_trans (Nat.le_trans s1 s2) e
theorem ztE (h:Lgp w N gl gw gd bv dv cs es k Q) (hQ:∀ j,Q j->j < w.heap.size) (hO:Only (DskQ gd dv) w w1) (hq:Plc w dv dn) :
  Wr w1 N gw bv cs es (fun j=>Q j∨j=gl∨DskQ gd dn j)/\Lbx w1 gl gw gd k/\(∀ j,Q j->j≠gl/\¬ DskQ gd dn j)/\¬ DskQ gd dn gl/\∀ j,LgS gl gw gd bv dn j->LgS gl gw gd bv dv j∨w.heap.size<=j:=by
 have hlt:=h.lt;have hdn:∀ j,DskQ gd dn j->DskQ gd dv j∨w.heap.size<=j:=fun j hj=>hj.elim (fun e=>.inl (.inl e)) fun e=>(hq j e).imp_left .inr;refine ⟨(h.wrt.fresh.only hO fun j _ hj=>.inl (.inr (.inr hj))).less fun j hj=>?_,hO.keep h.box h.off,fun j hj=>⟨(h.apart j hj).1,fun hd=>?_⟩,fun hj=>(hdn _ hj).elim h.off fun e=>by omega,fun j hj=>?_⟩
 ·rcases hj with hj | hj | hj
  ·exact .inl (.inl hj)
  ·exact .inl (.inr (.inl hj))
  exact (hdn j hj).imp_left fun h=>.inr (.inr h)
 ·have:=hQ j hj;exact (hdn j hd).elim (h.apart j hj).2 fun e=>by omega
 rcases hj with hj | hj | hj
 ·exact .inl (.inl hj)
 ·exact .inl (.inr (.inl hj))
 exact (hdn j hj).imp_left fun h=>.inr (.inr h)
end
/- -/
section
variable {w:World} {N gl gw gd k:Nat} {bv dv:Value} {cs:List ColB} {es:List EntB} {Q:Nat->Prop}
theorem zbE (h:Lbx w gl gw gd k):Calls prog 52 #[.pointer (some ⟨gl,0,none⟩)] w fun e w'=>e=.returned (.agg #[.pointer (some ⟨gw,0,none⟩),.pointer (some ⟨gd,0,none⟩),.int .i64 (k:Int)])/\Below w.heap.size w w':=by
 obtain ⟨N1,N2⟩:=za7 w (.cells #[.pointer none,.pointer none,.int .i64 0] 98);obtain ⟨c0,c1,c2⟩:=(h.later N2).cells;have f0:(w.alloc (.cells #[.pointer none,.pointer none,.int .i64 0] 98)).frozen? ⟨w.heap.size,0,none⟩=false:=frozen_of_row _ _ _ _ _ N1;have f1:(w.alloc (.cells #[.pointer none,.pointer none,.int .i64 0] 98)).frozen? ⟨w.heap.size,1,none⟩=false:=frozen_of_row _ _ _ _ _ N1;have f2:(w.alloc (.cells #[.pointer none,.pointer none,.int .i64 0] 98)).frozen? ⟨w.heap.size,2,none⟩=false:=frozen_of_row _ _ _ _ _ N1;have HN1:=h_ N1;have HB:=h_ N2;clear h N1 N2;go_enter func52,ntmps52;go_wp2;obtain ⟨hx,hB9⟩:=za7 w (.cells #[.pointer (some ⟨gw,0,none⟩),.pointer (some ⟨gd,0,none⟩),.int .i64 (k:Int)] 98);obtain ⟨w9,hw9⟩:=nm_ (w.alloc (.cells #[.pointer (some ⟨gw,0,none⟩),.pointer (some ⟨gd,0,none⟩),.int .i64 (k:Int)] 98));obtain ⟨b,hbb⟩:=nm_ w.heap.size;rw [<- hw9] at hx hB9;rw [<- hbb] at hx;rw [<- hw9,<- hbb];have e0:w9.cell? ⟨b,0,none⟩=some (.pointer (some ⟨gw,0,none⟩)):=cell_of_row _ _ 0 _ _ _ hx;have e1:w9.cell? ⟨b,1,none⟩=some (.pointer (some ⟨gd,0,none⟩)):=cell_of_row _ _ 1 _ _ _ hx;have e2:w9.cell? ⟨b,2,none⟩=some (.int .i64 (k:Int)):=cell_of_row _ _ 2 _ _ _ hx;refine bodyPost_ret (by simp [results,results52,go_sem,e0,e1,e2];try rfl) rfl ?_;exact ⟨rfl,by rw [hbb];exact hB9⟩
theorem zuD (h:Lgp w N gl gw gd bv dv cs es k Q):Calls prog 29 #[.pointer (some ⟨gl,0,none⟩)] w fun e w'=>e=.returned (.int .i64 (trE cs es).2.1)/\Below w.heap.size w w':=by
 have HL:=h_ h;have HH:=h_ (zbE h.box);obtain ⟨x,hx⟩:=nm_ ((trE cs es).2.1);rw [<- hx];have HX:=h_ hx;clear h hx;have hfd:∀ u,(Instr.field 98 (.agg #[.pointer (some ⟨gw,0,none⟩),.pointer (some ⟨gd,0,none⟩),.int .i64 (k:Int)]) 0).run prog u=.ok (.pointer (some ⟨gw,0,none⟩)) u:=fun _=>by kernel_rfl
 go_enter func29,ntmps29;go_wp2_with fail;refine HH.mono ?_;rintro e w1 ⟨rfl,hb⟩;have W:=h_ (ztX (HL.later hb).wrt);rw [<- HX.o] at W;have HB:=h_ hb;clear hb HH;go_wp2_with fail;refine W.mono ?_;rintro e w2 ⟨rfl,rfl⟩;go_wp2;go_ret;exact ⟨rfl,HB.o⟩
theorem zdI (h:Lbx w gl gw gd k) (hW:Wr w N gw bv cs es Q):Calls prog 32 #[.pointer (some ⟨gl,0,none⟩)] w fun e w'=>e=.returned (.int .i64 (es.length:Int))/\Below w.heap.size w w':=by
 have HL:=h_ hW;have HH:=h_ (zbE h);obtain ⟨x,hx⟩:=nm_ es.length;rw [<- hx];have HX:=h_ hx;clear h hW hx;have hfd:∀ u,(Instr.field 98 (.agg #[.pointer (some ⟨gw,0,none⟩),.pointer (some ⟨gd,0,none⟩),.int .i64 (k:Int)]) 0).run prog u=.ok (.pointer (some ⟨gw,0,none⟩)) u:=fun _=>by kernel_rfl
 go_enter func32,ntmps32;go_wp2_with fail;refine HH.mono ?_;rintro e w1 ⟨rfl,hb⟩;have W:=h_ (zqQ (HL.later hb));rw [<- HX.o] at W;have HB:=h_ hb;clear hb HH;go_wp2_with fail;refine W.mono ?_;rintro e w2 ⟨rfl,rfl⟩;go_wp2;go_ret;exact ⟨rfl,HB.o⟩
theorem zr7 (h:Lgp w N gl gw gd bv dv cs es k Q):Calls prog 33 #[.pointer (some ⟨gl,0,none⟩)] w fun e w'=>e=.returned (.int .i64 (k:Int))/\Below w.heap.size w w':=by
 have HH:=h_ (zbE h.box);clear h;have hfd:∀ u,(Instr.field 98 (.agg #[.pointer (some ⟨gw,0,none⟩),.pointer (some ⟨gd,0,none⟩),.int .i64 (k:Int)]) 2).run prog u=.ok (.int .i64 (k:Int)) u:=fun _=>by kernel_rfl
 go_enter func33,ntmps33;go_wp2_with fail;refine HH.mono ?_;rintro e w1 ⟨rfl,hb⟩;have HB:=h_ hb;clear hb HH;go_wp2;go_ret;exact ⟨rfl,HB.o⟩
theorem zr5 (h:Lgp w N gl gw gd bv dv cs es k Q):Calls prog 31 #[.pointer (some ⟨gl,0,none⟩)] w fun e w'=>∃ v,e=.returned v/\NewP w' w.heap.size v (trE cs es).2.2.1/\Below w.heap.size w w':=by
 have HL:=h_ h;have HH:=h_ (zbE h.box);have hlen:=h.wrt.trs.pso;obtain ⟨l,hl⟩:=nm_ ((trE cs es).2.2.1);rw [<- hl];have HX:=h_ hl;clear h hl hlen;have hfd:∀ u,(Instr.field 98 (.agg #[.pointer (some ⟨gw,0,none⟩),.pointer (some ⟨gd,0,none⟩),.int .i64 (k:Int)]) 0).run prog u=.ok (.pointer (some ⟨gw,0,none⟩)) u:=fun _=>by kernel_rfl
 go_enter func31,ntmps31;go_wp2_with fail;refine HH.mono ?_;rintro e w1 ⟨rfl,hb⟩;have W:=h_ (zqP (HL.later hb).wrt);rw [<- HX.o] at W;have HB:=h_ hb;clear hb HH;go_wp2_with fail;refine W.mono ?_;rintro e w2 ⟨v,rfl,ho,hb⟩;have hn:=(ho.new (by rw [HX.o];obtain ⟨_,_,_,_,hV⟩:=HL.wrt.box;exact hV.rd.small)).lower HB.size;obtain ⟨a1,n1,k1,rfl⟩:=hn.rd.lit12;have HO:=h_ (And.intro hn (HB.trans (hb.mono HB.size)));clear ho hn hb W;go_wp2;go_ret;exact ⟨_,rfl,HO.o⟩
end
def NlP (w:World) (cs:List ColB) (e:Ending) (w':World):Prop :=
 ∃ v,e=.returned (.tuple #[v,.int .i64 (errS (colsL cs):Nat)])/\Below w.heap.size w w' /\
  ((errS (colsL cs)≠0/\v=.pointer none)∨(errS (colsL cs)=0/\∃ gl gw gd bv dv,v=.pointer (some ⟨gl,0,none⟩)/\∀ Q:Nat->Prop,(∀ j,Q j->j < w.heap.size)->Lgp w' w.heap.size gl gw gd bv dv cs [] 0 Q))
theorem zuE (v:Value) (cs:List ColB) (w:World) (hR:RdC w v cs) (hC:CS cs) (hT:Tabs w):Calls prog 16 #[v] w (NlP w cs):=by
 obtain ⟨ac,nc,cc,rfl⟩:=hR.lit12;have NW:=h_ (ztY (.slice ac nc cc) cs w hR hC hT);unfold NwO at NW;have HC:=h_ hC;obtain ⟨x,hx⟩:=nm_ (errS (colsL cs));rw [<- hx] at NW;have HX:=h_ hx;clear hR hC hT hx;go_enter func16,ntmps16;go_wp2_with fail;refine NW.mono ?_;rintro e w1 ⟨wv,rfl,hb1,hw⟩;have HB1:=h_ hb1;clear hb1 NW;rcases hw with ⟨h0,rfl⟩ | ⟨rfl,gw,bv,rfl,hw⟩
 ·have q:((x:Int) != 0)=true:=by rw [bne_iff_ne];omega
  have HN:=h_ h0;clear h0;go_wp2;go_ret2;unfold NlP;rw [<- HX.o];exact ⟨_,rfl,HB1.o,.inl ⟨HN.o,rfl⟩⟩
 have HW:=h_ hw;have ht:=TrS.nil HC.o HX.symm;have BY:=h_ (zo0 (hw (fun _=>False) (fun j h=>h.elim)));have HH:=h_ ht;have hsm:=ze4 HX.symm;rw [ht.2] at BY;dsimp only at BY;obtain ⟨H,hH⟩:=nm_ (hdB (colsL cs));rw [<- hH] at BY hsm;have HHH:=h_ hH;clear hw ht hH;go_wp2_with fail;refine BY.mono ?_;rintro e w2 ⟨yv,rfl,ho,hb2⟩;have hr:=ho.rd (by omega);obtain ⟨ay,ny,cy,rfl⟩:=ho.lit13;have DN:=h_ (ztP _ H w2 hr (by omega));have HB2:=h_ hb2;clear ho hb2 hr BY hsm;go_wp2_with fail;refine DN.mono ?_;rintro e w3 ⟨gd,dv,rfl,hd,hb3⟩;have HD:=h_ hd;have HB3:=h_ hb3;clear hd hb3 DN;go_wp2;go_ret2;obtain ⟨N1,N2⟩:=za7 w3 (.cells #[.pointer (some ⟨gw,0,none⟩),.pointer (some ⟨gd,0,none⟩),.int .i64 0] 100);have s1:=HB1.size;have s2:=HB2.size;have s3:=HB3.size;have hb13:=HB2.trans (HB3.mono s2);unfold NlP;rw [<- HX.o];refine ⟨_,rfl,(HB1.trans (hb13.mono s1)).trans (N2.mono (by omega)),.inr ⟨rfl,w3.heap.size,gw,gd,bv,dv,rfl,fun Q hQ=>⟨by omega,Nat.zero_le _,N1,?_,?_,fun j hj=>?_,fun hq=>?_⟩⟩⟩
 ·rw [List.take_nil,HH.2];dsimp only;rw [<- HHH.o];exact (HD.later N2).base_le15 (by omega)
 ·refine (((HW.o Q hQ).fresh.later hb13).later N2).less fun j hj=>?_;rcases hj with hj | hj | hj
  ·exact .inl hj
  ·exact .inr (by omega)
  exact .inr (by have:=(HD.q hj).1;omega)
 ·have:=hQ j hj;exact ⟨by omega,fun hq=>by have:=(HD.q hq).1;omega⟩
 have:=(HD.q hq).2;omega
theorem zg2 (N gl gw gd:Nat) (bv dv lv:Value) (cs:List ColB) (es:List EntB) (ps:List PairB) (k:Nat) (Q:Nat->Prop) (w:World) (h:Lgp w N gl gw gd bv dv cs es k Q) (hQ:∀ j,Q j->j < w.heap.size) (hL:RdP w lv ps) (hP:PSO ps) (hl:ps.length<=4000) (hT:Tabs w) (hF:Frs w)
  (hsm:(trE cs es).1.length + (actB cs es (0,ps)).length<=100000000) :
  Calls prog 18 #[.pointer (some ⟨gl,0,none⟩),lv] w (LpO w N gl cs Q (LgS gl gw gd bv dv) (actE cs es (0,ps)) (actS cs es (0,ps)) k):=by
 have HL:=h_ h;have HH:=h_ (zbE h.box);have HQ:=h_ hQ;have HPS:=h_ (And.intro hL (And.intro hP hl));have HT:=h_ hT;have HF:=h_ hF;have HB:=h_ (zqJ (a:=(0,ps)) h.wrt.trs hP);have HK:=h_ (zCB cs (0,ps) h.le);have HKL:=h_ (show k<=(actS cs es (0,ps)).length from Nat.le_trans h.le zEO.2);obtain ⟨al,nl,cl,rfl⟩:=hL.lit12;obtain ⟨E,hE⟩:=nm_ (actE cs es (0,ps));obtain ⟨B,hBB⟩:=nm_ (actB cs es (0,ps));obtain ⟨S,hS⟩:=nm_ (actS cs es (0,ps));have HB0:=h_ (show E≠0->B=[] from fun h=>by rw [hBB];unfold actB;rw [if_neg (by rw [<- hE];exact h)]);have HE:=h_ hE;have HBB:=h_ hBB;have HS:=h_ hS;rw [<- hBB] at hsm HB;rw [<- hS] at HB HK HKL;rw [<- hE,<- hS];have HSM:=h_ hsm;clear h hQ hL hP hl hT hF hE hBB hS hsm;have hfd:∀ u,(Instr.field 98 (.agg #[.pointer (some ⟨gw,0,none⟩),.pointer (some ⟨gd,0,none⟩),.int .i64 (k:Int)]) 0).run prog u=.ok (.pointer (some ⟨gw,0,none⟩)) u:=fun _=>by kernel_rfl
 go_enter func18,ntmps18;go_wp2_with fail;refine HH.mono ?_;rintro e w1 ⟨rfl,hb⟩;have h1:=HL.later hb
 have W:=h_ (zmJ N gw bv (.slice al nl cl) cs es ps _ w1 h1.wrt (fun j hj=>by
  rcases hj with hj | hj | hj
  ·exact Nat.lt_of_lt_of_le (HQ.o j hj) hb.size
  ·rw [hj];exact h1.lt
  ·exact (h1.dsk.q hj).2) (HPS.1.later hb l_) HPS.2.1 HPS.2.2 (HT.later hb) (HF.later hb))
 rw [<- HE.o,<- HBB.o,<- HS.o] at W;have HL1:=h_ h1;have HB1:=h_ hb;clear h1 hb HH;go_wp2_with fail;refine W.mono ?_;rintro e w2 ⟨xv,bn,rfl,hx,hw,hO,hp⟩;have hxr:=hx.rd (by have:=HSM.o;omega);obtain ⟨ax,nx,cx,rfl⟩:=hx.lit13;have h2:=hO.keep HL1.box fun hj=>(HL1.ne _ hj).2.1 rfl;have hd2:=HL1.dsk.only hO fun q hq hj=>(HL1.ne _ hj).2.2 hq;have DA:=h_ (zrV N gd dv _ _ 0 _ B w2 hd2 hxr HSM.o);have g0:w2.cell? ⟨gl,1,none⟩=some (.pointer (some ⟨gd,0,none⟩)):=(show Lbx w2 gl gw gd k from h2).cells.2.1;have HW:=h_ (And.intro hw (And.intro hO hp));have HD2:=h_ hd2;clear hx hw hO hp hxr h2 hd2 W;by_cases h0:E=0
 ·subst h0;go_wp2_with fail;refine DA.mono ?_;rintro e w3 ⟨rfl,dn,hd,hO3,hq⟩;have HD:=h_ (And.intro hd (And.intro hO3 hq));clear hd hO3 hq DA g0;go_wp2;go_ret;exact zyL HL.o HQ.o HB1.o HW.1 HW.2.1 HW.2.2 HD.1 HD.2.1 HD.2.2 HB.o HKL.o HK.o
 have q:((E:Int) != 0)=true:=by rw [bne_iff_ne];omega
 have HN:=h_ h0;clear h0 DA;go_wp2;go_ret;exact zyL HL.o HQ.o HB1.o HW.1 HW.2.1 HW.2.2 (by rw [HB0.o HN.o,List.append_nil];exact HD2.o) (Only.refl _ _) (Plc.refl _ _) HB.o HKL.o HK.o
theorem zr6 (N gl gw gd:Nat) (bv dv:Value) (cs:List ColB) (es:List EntB) (k:Nat) (Q:Nat->Prop) (w:World) (h:Lgp w N gl gw gd bv dv cs es k Q) (hQ:∀ j,Q j->j < w.heap.size) :
  Calls prog 22 #[.pointer (some ⟨gl,0,none⟩)] w (LpO w N gl cs Q (LgS gl gw gd bv dv) 0 es es.length):=by
 have HL:=h_ h;have HH:=h_ (zbE h.box);have HQ:=h_ hQ;have HE:=h_ (h.wrt.trs.few);obtain ⟨m,hm⟩:=nm_ es.length;have HM:=h_ hm;clear h hQ hm;have hfd:∀ u,(Instr.field 98 (.agg #[.pointer (some ⟨gw,0,none⟩),.pointer (some ⟨gd,0,none⟩),.int .i64 (k:Int)]) 1).run prog u=.ok (.pointer (some ⟨gd,0,none⟩)) u:=fun _=>by kernel_rfl
 go_enter func22,ntmps22;go_wp2_with fail;refine HH.mono ?_;rintro e w1 ⟨rfl,hb⟩;have h1:=HL.later hb;have W:=h_ (zz9 _ _ _ _ _ _ w1 h1.dsk);have HL1:=h_ h1;have HB1:=h_ hb;clear h1 hb HH;go_wp2_with fail;refine W.mono ?_;rintro e w2 ⟨rfl,dn,hd,hO,hq⟩;have HS:=h_ (ztE HL1.o (fun j hj=>Nat.lt_of_lt_of_le (HQ.o j hj) HB1.size) hO hq);have HO2:=h_ hO;have HD2:=h_ hd;clear hd hq hO W;have MN:=h_ (zdI HS.2.1 HS.1);rw [<- HM.o] at MN;go_wp2_with fail;refine MN.mono ?_;rintro e w3 ⟨rfl,hb⟩;have h3:=HS.2.1.later hb;have f2:=h3.free 2;have c2:=h3.cells.2.2;have HX3:=h_ h3;have HB3:=h_ hb;clear h3 hb MN;go_wp2;go_ret;obtain ⟨x1,x2,x3,x4,x5⟩:=HS.o;have hbx:=block_setCell (k:=2) HX3.o (.int .i64 (m:Int));have hO3:Only (fun j=>j=gl) w3 (w3.setCell ⟨gl,2,none⟩ (.int .i64 (m:Int))):=(Only.refl (fun j=>j=gl) _).setCell (p:=⟨gl,2,none⟩) rfl _;refine ⟨rfl,_,⟨gw,gd,bv,dn,⟨HL1.from_,l_,?_,?_,(x1.later HB3.o).only hO3 fun j _ hj=>.inr (.inl hj),x3,x4⟩,rfl⟩,?_,fun j hj=>(x5 j hj).imp_right fun e=>Nat.le_trans HB1.size e⟩
 ·rw [<- HM.o];unfold Lbx;simpa using hbx
 ·rw [List.take_of_length_le l_];exact (HD2.later HB3.o).only hO3 fun q hq hj=>x4 (by rw [<- hj];exact hq)
 have a1:Only (LgS gl gw gd bv dv) w w1:=Only.later15 HB1.o;have a2:Only (LgS gl gw gd bv dv) w w2:=a1.trans (HO2.mono fun j hj=>.inr (.inr hj));have a3:Only (LgS gl gw gd bv dv) w w3:=a2.trans (Only.later15 HB3.o);exact a3.trans (hO3.mono fun j hj=>.inl hj)
