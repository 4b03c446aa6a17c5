/- -/
import Derived.Test.YtlapgdocpndfiaaGreatDoorWColSh
set_option linter.unusedVariables false
set_option linter.unusedSimpArgs false
set_option maxRecDepth 1000000
namespace Go.Proofs.YtlapgdocpndfiaaGreatDoor
open Go.RowKit
abbrev Bp:=List Ce × Int
def btCol (k:Nat) (a:List (List Ce)):List Ce:=a.map fun r=>r.getD k (0,[])
def zaQ:List Int->Nat->List (List Ce)->Bs
 | [],_,_=>[]
 | kd :: r,k,a=>wrC kd (btCol k a) ++ zaQ r (k + 1) a
def btWs:List Int->Bs
 | []=>[]
 | x :: r=>encU (zig x) ++ btWs r
def btWr (kinds:List Int) (a:List Bp):Bs:=encU a.length ++ (zaQ kinds 0 (a.map fun p=>p.1) ++ btWs (a.map fun p=>p.2))
def za2 (l:Bs) (n:Int):List Int->Nat->List (List Ce) × Nat × Nat
 | [],k=>([],k,0)
 | kd :: r,k =>
  if (rdK l kd n k).2.2≠0 then ([],(rdK l kd n k).2.1,(rdK l kd n k).2.2)
  else if (za2 l n r (rdK l kd n k).2.1).2.2≠0 then ([],(za2 l n r (rdK l kd n k).2.1).2.1,(za2 l n r (rdK l kd n k).2.1).2.2)
  else ((rdK l kd n k).1 :: (za2 l n r (rdK l kd n k).2.1).1,(za2 l n r (rdK l kd n k).2.1).2.1,0)
def za9 (l:Bs):Nat->Nat->List Int × Nat × Nat
 | 0,k=>([],k,0)
 | m + 1,k =>
  if (rdU l k 18446744073709551615).2.2≠0 then ([],(rdU l k 18446744073709551615).2.1,(rdU l k 18446744073709551615).2.2)
  else if zag (rdU l k 18446744073709551615).1=0 then ([],(rdU l k 18446744073709551615).2.1,2)
  else if (za9 l m (rdU l k 18446744073709551615).2.1).2.2≠0 then ([],(za9 l m (rdU l k 18446744073709551615).2.1).2.1,(za9 l m (rdU l k 18446744073709551615).2.1).2.2)
  else (zag (rdU l k 18446744073709551615).1 :: (za9 l m (rdU l k 18446744073709551615).2.1).1,(za9 l m (rdU l k 18446744073709551615).2.1).2.1,0)
def btRows (n:Nat) (cols:List (List Ce)):List (List Ce):=(List.range n).map fun i=>cols.map fun c=>c.getD i (0,[])
def btAsc (lt:List Ce->List Ce->Bool):List (List Ce)->Bool
 | []=>true
 | [_]=>true
 | a :: b :: r=>lt a b && btAsc lt (b :: r)
def btRd (lt:List Ce->List Ce->Bool) (l:Bs) (kinds:List Int) (k:Nat):List Bp × Nat × Nat :=
 if (rdU l k 1024).2.2≠0 then ([],(rdU l k 1024).2.1,(rdU l k 1024).2.2)
 else if (za2 l (rdU l k 1024).1 kinds (rdU l k 1024).2.1).2.2≠0 then ([],(za2 l (rdU l k 1024).1 kinds (rdU l k 1024).2.1).2.1,(za2 l (rdU l k 1024).1 kinds (rdU l k 1024).2.1).2.2)
 else if (za9 l (rdU l k 1024).1 (za2 l (rdU l k 1024).1 kinds (rdU l k 1024).2.1).2.1).2.2≠0 then ([],(za9 l (rdU l k 1024).1 (za2 l (rdU l k 1024).1 kinds (rdU l k 1024).2.1).2.1).2.1,(za9 l (rdU l k 1024).1 (za2 l (rdU l k 1024).1 kinds (rdU l k 1024).2.1).2.1).2.2)
 else if btAsc lt (btRows (rdU l k 1024).1 (za2 l (rdU l k 1024).1 kinds (rdU l k 1024).2.1).1)=false then ([],(za9 l (rdU l k 1024).1 (za2 l (rdU l k 1024).1 kinds (rdU l k 1024).2.1).2.1).2.1,9)
 else ((btRows (rdU l k 1024).1 (za2 l (rdU l k 1024).1 kinds (rdU l k 1024).2.1).1).zip (za9 l (rdU l k 1024).1 (za2 l (rdU l k 1024).1 kinds (rdU l k 1024).2.1).2.1).1,(za9 l (rdU l k 1024).1 (za2 l (rdU l k 1024).1 kinds (rdU l k 1024).2.1).2.1).2.1,0)
theorem zcP (k:Nat) (a:List (List Ce)):(btCol k a).length=a.length:=by unfold btCol;rw [List.length_map]
def zq4 (kinds:List Int) (k:Nat) (a:List (List Ce)):Prop:=∀ i kd,kinds[i]?=some kd->(0<=kd/\kd<=5)/\∀ c ∈ btCol (k + i) a,Fit kd c
theorem zq4.cons {kd:Int} {r:List Int} {k:Nat} {a:List (List Ce)} (h:zq4 (kd :: r) k a):((0<=kd/\kd<=5)/\∀ c ∈ btCol k a,Fit kd c)/\zq4 r (k + 1) a:=by
 refine ⟨by simpa using h 0 kd rfl,fun i x hx=>?_⟩;have:=h (i + 1) x (by simpa using hx);rw [show k + 1 + i=k + (i + 1) from by omega];exact this
theorem zhK (l m:Bs) (a:List (List Ce)) (hn:a.length<=1024):∀ (kinds:List Int) (j k:Nat),zq4 kinds j a->l.drop k=zaQ kinds j a ++ m ->
  za2 l a.length kinds k=((List.range kinds.length).map (fun i=>btCol (j + i) a),k + (zaQ kinds j a).length,0)
 | [],j,k,h,hd=>by simp [za2,zaQ]
 | kd :: r,j,k,h,hd=>by
  obtain ⟨⟨h1,h2⟩,h3⟩:=h.cons
  rw [zaQ,List.append_assoc] at hd
  have hp:=zC5 (l:=l) (m:=zaQ r (j + 1) a ++ m) (k:=k) h1 h2 (by rw [zcP];exact hn) hd
  rw [zcP] at hp
  have hd2:=zeG hd
  have ih:=zhK l m a hn r (j + 1) _ h3 hd2
  rw [za2,hp]
  dsimp only
  rw [ih,if_neg (by simp),if_neg (by simp)]
  rw [List.length_cons,List.range_succ_eq_map,List.map_cons,List.map_map,zaQ,List.length_append]
  refine Prod.ext ?_ (Prod.ext (by dsimp only;omega) rfl)
  dsimp only
  rw [Nat.add_zero]
  congr 1
  refine List.map_congr_left fun i _=>?_
  simp only [Function.comp]
  rw [show j + 1 + i=j + (i + 1) from by omega]
theorem zeS (l:Bs) (n:Int):∀ (kinds:List Int) (k:Nat),k<=l.length->(za2 l n kinds k).2.1<=l.length
 | [],k,h=>h
 | kd :: r,k,h=>by
  have h1:=zwB (l:=l) (kind:=kd) (n:=n) h
  have ih:=zeS l n r _ h1
  rw [za2]
  split
  ·exact h1
  ·split
   ·exact ih
   ·exact ih
theorem zhN (l:Bs) (n:Nat) (a:List (List Ce)):∀ (kinds:List Int) (j k:Nat),k<=l.length->(za2 l n kinds k).2.2=0->(∀ i c,(za2 l n kinds k).1[i]?=some c->btCol (j + i) a=c) ->
  l.take (za2 l n kinds k).2.1=l.take k ++ zaQ kinds j a/\(za2 l n kinds k).2.1<=l.length/\(za2 l n kinds k).1.length=kinds.length
 | [],j,k,hk,h,ha=>by simp [za2,zaQ,hk]
 | kd :: r,j,k,hk,h,ha=>by
  rw [za2] at h ha ⊢
  by_cases h1:(rdK l kd n k).2.2=0
  ·rw [if_neg (fun hh=>hh h1)] at h ha ⊢
   obtain ⟨e1,e2,_,_,_,_⟩:=zqR hk h1
   by_cases h2:(za2 l n r (rdK l kd n k).2.1).2.2=0
   ·rw [if_neg (fun hh=>hh h2)] at ha ⊢
    have hc:=ha 0 _ rfl
    rw [Nat.add_zero] at hc
    obtain ⟨i1,i2,i3⟩:=zhN l n a r (j + 1) _ e2 h2 (fun i c hi=>by
     have:=ha (i + 1) c (by simpa using hi)
     rw [show j + 1 + i=j + (i + 1) from by omega]
     exact this)
    refine ⟨?_,i2,by simp [i3]⟩
    dsimp only
    rw [i1,e1,zaQ,hc,List.append_assoc]
   ·rw [if_pos h2] at h;exact absurd h h2
  ·rw [if_pos h1] at h;exact absurd h h1
theorem zhL (l:Bs) (n:Int):∀ (kinds:List Int) (k:Nat),(za2 l n kinds k).2.2=0->(za2 l n kinds k).1.length=kinds.length
 | [],k,h=>rfl
 | kd :: r,k,h=>by
  rw [za2] at h ⊢
  by_cases h1:(rdK l kd n k).2.2=0
  ·rw [if_neg (fun hh=>hh h1)] at h ⊢
   by_cases h2:(za2 l n r (rdK l kd n k).2.1).2.2=0
   ·rw [if_neg (fun hh=>hh h2)]
    simp [zhL l n r _ h2]
   ·rw [if_pos h2] at h;exact absurd h h2
  ·rw [if_pos h1] at h;exact absurd h h1
theorem zhM (l:Bs) (n:Nat):∀ (kinds:List Int) (k:Nat),k<=l.length->(za2 l n kinds k).2.2=0 ->
  ∀ (i:Nat) (kd:Int),kinds[i]?=some kd->(0<=kd/\kd<=5)/\∃ c:List Ce,(za2 l n kinds k).1[i]?=some c/\c.length=n/\∀ x ∈ c,Fit kd x
 | [],k,hk,h,i,kd,hi=>by simp at hi
 | kd :: r,k,hk,h,i,kx,hi=>by
  rw [za2] at h ⊢
  by_cases h1:(rdK l kd n k).2.2=0
  ·rw [if_neg (fun hh=>hh h1)] at h ⊢
   obtain ⟨_,e2,e3,e4,e5,_⟩:=zqR hk h1
   by_cases h2:(za2 l n r (rdK l kd n k).2.1).2.2=0
   ·rw [if_neg (fun hh=>hh h2)]
    cases i with
    | zero =>
     obtain rfl:kd=kx:=by simpa using hi
     exact ⟨e3,_,rfl,by omega,e4⟩
    | succ i =>
     obtain ⟨f1,c,f2,f3⟩:=zhM l n r _ e2 h2 i kx (by simpa using hi)
     exact ⟨f1,c,by simpa using f2,f3⟩
   ·rw [if_pos h2] at h;exact absurd h h2
  ·rw [if_pos h1] at h;exact absurd h h1
def WtOk (x:Int):Prop:=x≠0/\-9223372036854775808<=x/\x<=9223372036854775807
theorem zmE (l m:Bs):∀ (ws:List Int) (k:Nat),(∀ x ∈ ws,WtOk x)->l.drop k=btWs ws ++ m->za9 l ws.length k=(ws,k + (btWs ws).length,0)
 | [],k,h,hd=>by simp [za9,btWs]
 | x :: r,k,h,hd=>by
  obtain ⟨h0,h1,h2⟩:=h x (by simp)
  rw [btWs,List.append_assoc] at hd
  have hz:=ziK x h1 h2
  have hp:=zgU (most:=18446744073709551615) hd (by omega) (by omega)
  have ih:=zmE l m r _ (fun y hy=>h y (by simp [hy])) (zeG hd)
  rw [List.length_cons,za9,hp]
  dsimp only
  rw [ih,if_neg (by simp),zuR,if_neg h0,if_neg (by simp),btWs,List.length_append]
  refine Prod.ext rfl (Prod.ext (by dsimp only;omega) rfl)
theorem zhJ (l:Bs):∀ (m k:Nat),k<=l.length->(za9 l m k).2.1<=l.length
 | 0,k,h=>h
 | m + 1,k,h=>by
  have h1:=zgT (most:=18446744073709551615) h
  have ih:=zhJ l m _ h1
  rw [za9]
  split
  ·exact h1
  ·split
   ·exact h1
   ·split
    ·exact ih
    ·exact ih
theorem znY {y:Nat} (h:y < 18446744073709551616):-9223372036854775808<=zag y/\zag y<=9223372036854775807:=by
 unfold zag;split <;> omega
theorem zmF (l:Bs):∀ (m k:Nat),k<=l.length->(za9 l m k).2.2=0 ->
  l.take (za9 l m k).2.1=l.take k ++ btWs (za9 l m k).1/\(za9 l m k).2.1<=l.length/\(za9 l m k).1.length=m/\∀ x ∈ (za9 l m k).1,WtOk x
 | 0,k,hk,h=>by simp [za9,btWs,hk]
 | m + 1,k,hk,h=>by
  rw [za9] at h ⊢
  by_cases h1:(rdU l k 18446744073709551615).2.2=0
  ·rw [if_neg (fun hh=>hh h1)] at h ⊢
   obtain ⟨a1,a2,a3⟩:=zc6 hk h1
   by_cases h0:zag (rdU l k 18446744073709551615).1=0
   ·rw [if_pos h0] at h;cases h
   ·rw [if_neg h0] at h ⊢
    by_cases h2:(za9 l m (rdU l k 18446744073709551615).2.1).2.2=0
    ·rw [if_neg (fun hh=>hh h2)]
     obtain ⟨i1,i2,i3,i4⟩:=zmF l m _ a2 h2
     refine ⟨?_,i2,by simp [i3],fun x hx=>?_⟩
     ·dsimp only
      rw [i1,a1,btWs,zuQ _ ,List.append_assoc]
     ·rcases List.mem_cons.1 hx with rfl | hx
      ·exact ⟨h0,znY (by omega)⟩
      ·exact i4 x hx
    ·rw [if_pos h2] at h;exact absurd h h2
  ·rw [if_pos h1] at h;exact absurd h h1
theorem zp2 (r:List Ce):(List.range r.length).map (fun j=>r.getD j (0,[]))=r:=by
 apply List.ext_getElem
 ·simp
 intro i h1 h2;simp [List.getD,h2]
theorem zdG (n:Nat) (cols:List (List Ce)):(btRows n cols).length=n:=by unfold btRows;simp
theorem zrO (n:Nat) (cols:List (List Ce)):∀ r ∈ btRows n cols,r.length=cols.length:=by
 intro r hr;unfold btRows at hr;obtain ⟨i,_,rfl⟩:=List.mem_map.1 hr;simp
theorem zrP (K:Nat) (rows:List (List Ce)) (h:∀ r ∈ rows,r.length=K):btRows rows.length ((List.range K).map fun i=>btCol (0 + i) rows)=rows:=by
 unfold btRows;apply List.ext_getElem
 ·simp
 intro i h1 h2;rw [List.getElem_map,List.getElem_range,List.map_map];have hk:=h _ (List.getElem_mem h2)
 rw [show (List.range K).map ((fun c=>List.getD c i (0,[])) ∘ fun j=>btCol (0 + j) rows)=(List.range K).map (fun j=>(rows[i]).getD j (0,[])) from by
  refine List.map_congr_left fun j _=>?_
  simp only [Function.comp,Nat.zero_add]
  unfold btCol
  simp [List.getD,h2]]
 rw [<- hk];exact zp2 _
theorem zmG {n i:Nat} {cols:List (List Ce)} {c:List Ce} (h:cols[i]?=some c) (hc:c.length=n):btCol i (btRows n cols)=c:=by
 unfold btCol btRows;rw [List.map_map];subst hc
 rw [show (List.range c.length).map ((fun r=>List.getD r i (0,[])) ∘ fun q=>cols.map fun x=>List.getD x q (0,[]))=(List.range c.length).map (fun q=>c.getD q (0,[])) from by
  refine List.map_congr_left fun q _=>?_
  simp [Function.comp,List.getD,h]]
 exact zp2 c
theorem zrY:∀ (a:List Bp),(a.map fun p=>p.1).zip (a.map fun p=>p.2)=a
 | []=>rfl
 | p :: r=>by rw [List.map_cons,List.map_cons,List.zip_cons_cons,zrY r]
theorem zip_fst:∀ (a:List (List Ce)) (b:List Int),a.length=b.length->(a.zip b).map (fun p=>p.1)=a
 | [],[],_=>rfl
 | [],_ :: _,h=>by simp at h
 | _ :: _,[],h=>by simp at h
 | x :: r,y :: s,h=>by rw [List.zip_cons_cons,List.map_cons,zip_fst r s (by simpa using h)]
theorem zuO:∀ (a:List (List Ce)) (b:List Int),a.length=b.length->(a.zip b).map (fun p=>p.2)=b
 | [],[],_=>rfl
 | [],_ :: _,h=>by simp at h
 | _ :: _,[],h=>by simp at h
 | x :: r,y :: s,h=>by rw [List.zip_cons_cons,List.map_cons,zuO r s (by simpa using h)]
structure BtOk (lt:List Ce->List Ce->Bool) (kinds:List Int) (a:List Bp):Prop where
 fit:zq4 kinds 0 (a.map fun p=>p.1)
 wide:∀ p ∈ a,p.1.length=kinds.length
 wts:∀ p ∈ a,WtOk p.2
 few:a.length<=1024
 asc:btAsc lt (a.map fun p=>p.1)=true
theorem zAQ {lt:List Ce->List Ce->Bool} {l m:Bs} {kinds:List Int} {a:List Bp} {k:Nat} (h:BtOk lt kinds a) (hd:l.drop k=btWr kinds a ++ m):btRd lt l kinds k=(a,k + (btWr kinds a).length,0):=by
 have hfew:=h.few;unfold btWr at hd ⊢;rw [List.append_assoc,List.append_assoc] at hd;have h1:=zgU (most:=1024) hd (by omega) h.few;have hd2:=zeG hd;have hlf:(a.map fun p=>p.1).length=a.length:=List.length_map ..;have hls:(a.map fun p=>p.2).length=a.length:=List.length_map ..;have h2:=zhK l (btWs (a.map fun p=>p.2) ++ m) (a.map fun p=>p.1) (by rw [hlf];exact h.few) kinds 0 _ h.fit hd2;have hd3:=zeG hd2;have h3:=zmE l m (a.map fun p=>p.2) _ (fun x hx=>by obtain ⟨p,hp,rfl⟩:=List.mem_map.1 hx;exact h.wts p hp) hd3;have h4:=zrP kinds.length (a.map fun p=>p.1) (fun r hr=>by obtain ⟨p,hp,rfl⟩:=List.mem_map.1 hr;exact h.wide p hp);rw [hlf] at h2 h4;rw [hls] at h3;unfold btRd;rw [h1];dsimp only;rw [h2];dsimp only;rw [h3];dsimp only;rw [h4,if_neg (by simp),if_neg (by simp),if_neg (by simp),h.asc,if_neg (by decide),zrY];rw [List.length_append,List.length_append];refine Prod.ext rfl (Prod.ext (by dsimp only;omega) rfl)
theorem zuE {lt:List Ce->List Ce->Bool} {l:Bs} {kinds:List Int} {k:Nat} (hk:k<=l.length):(btRd lt l kinds k).2.1<=l.length:=by
 have h1:=zgT (most:=1024) hk;have h2:=zeS l (rdU l k 1024).1 kinds _ h1;have h3:=zhJ l (rdU l k 1024).1 _ h2;unfold btRd;split
 ·exact h1
 split
 ·exact h2
 split
 ·exact h3
 split
 ·exact h3
 exact h3
theorem zsZ {lt:List Ce->List Ce->Bool} {l:Bs} {kinds:List Int} {k:Nat} (hk:k<=l.length) (h:(btRd lt l kinds k).2.2=0) :
  l.take (btRd lt l kinds k).2.1=l.take k ++ btWr kinds (btRd lt l kinds k).1/\(btRd lt l kinds k).2.1<=l.length/\BtOk lt kinds (btRd lt l kinds k).1:=by
 have hpl:=zuE (lt:=lt) (kinds:=kinds) hk;unfold btRd at h ⊢;by_cases h1:(rdU l k 1024).2.2=0
 ·obtain ⟨a1,a2,a3⟩:=zc6 hk h1;rw [if_neg (fun hh=>hh h1)] at h ⊢;generalize hn:(rdU l k 1024).1=n at *;generalize hk1:(rdU l k 1024).2.1=k1 at *;by_cases h2:(za2 l n kinds k1).2.2=0
  ·rw [if_neg (fun hh=>hh h2)] at h ⊢;have hfit:=zhM l n kinds k1 a2 h2
   have henc:=zhN l n (btRows n (za2 l n kinds k1).1) kinds 0 k1 a2 h2 (fun i c hi=>by
    rw [Nat.zero_add]
    have hlen:i < kinds.length:=by
     have hl:=(List.getElem?_eq_some_iff.1 hi).1
     have:=(zhL l n kinds k1 h2)
     omega
    obtain ⟨_,c',hc',hcl,_⟩:=hfit i kinds[i] (by simp [hlen])
    rw [hi] at hc'
    injection hc' with hc'
    subst hc'
    exact zmG hi hcl)
   obtain ⟨b1,b2,b3⟩:=henc;by_cases h3:(za9 l n (za2 l n kinds k1).2.1).2.2=0
   ·rw [if_neg (fun hh=>hh h3)] at h ⊢;obtain ⟨c1,c2,c3,c4⟩:=zmF l n _ b2 h3;cases has:btAsc lt (btRows n (za2 l n kinds k1).1) with
    | false=>rw [if_pos has] at h;cases h
    | true =>
     rw [if_neg (by simp)];have hzl:(btRows n (za2 l n kinds k1).1).length=(za9 l n (za2 l n kinds k1).2.1).1.length:=(by rw [zdG,c3]);have hf:=zip_fst _ _ hzl;have hs:=zuO _ _ hzl;have hal:((btRows n (za2 l n kinds k1).1).zip (za9 l n (za2 l n kinds k1).2.1).1).length=n:=by
      rw [List.length_zip,zdG,c3];omega
     refine ⟨?_,c2,⟨?_,?_,?_,by rw [hal];exact a3,by rw [hf];exact has⟩⟩
     ·unfold btWr;dsimp only;rw [hf,hs,hal,c1,b1,a1];simp only [List.append_assoc]
     ·rw [hf];intro i kd hi;obtain ⟨g1,c,g2,g3,g4⟩:=hfit i kd hi;refine ⟨g1,?_⟩;rw [Nat.zero_add,zmG g2 g3];exact g4
     ·intro p hp;have hm:p.1 ∈ btRows n (za2 l n kinds k1).1:=(by rw [<- hf];exact List.mem_map.2 ⟨p,hp,rfl⟩);rw [zrO _ _ _ hm,b3]
     intro p hp;have hm:p.2 ∈ (za9 l n (za2 l n kinds k1).2.1).1:=by
      have:p.2 ∈ ((btRows n (za2 l n kinds k1).1).zip (za9 l n (za2 l n kinds k1).2.1).1).map (fun p=>p.2):=List.mem_map.2 ⟨p,hp,rfl⟩;rw [hs] at this;exact this
     exact c4 _ hm
   rw [if_pos h3] at h;exact absurd h h3
  rw [if_pos h2] at h;exact absurd h h2
 rw [if_pos h1] at h;exact absurd h h1
def zkR (rows:List (List Ce)):Nat:=match rows with
 | []=>0
 | r :: t=>sumT r + zkR t
def zcS:Nat->Nat->List (List Ce)->Nat
 | 0,_,_=>0
 | K + 1,j,rows=>sumT (btCol j rows) + zcS K (j + 1) rows
def zmD:Nat->Nat->List Ce->Nat
 | 0,_,_=>0
 | K + 1,j,r=>(r.getD j (0,[])).2.length + zmD K (j + 1) r
theorem zkT:∀ (K j:Nat),zcS K j []=0
 | 0,j=>rfl
 | K + 1,j=>by rw [zcS,zkT K (j + 1)];rfl
theorem zhP:∀ (K j:Nat) (r:List Ce) (t:List (List Ce)),zcS K j (r :: t)=zmD K j r + zcS K j t
 | 0,j,r,t=>rfl
 | K + 1,j,r,t=>by
  rw [zcS,zhP K (j + 1) r t,zmD,zcS]
  show (r.getD j (0,[])).2.length + sumT (btCol j t) + _=_
  omega
theorem zkS:∀ (K j:Nat) (r:List Ce),r.length=j + K->zmD K j r=sumT (r.drop j)
 | 0,j,r,h=>by rw [zmD,List.drop_of_length_le (by omega)];rfl
 | K + 1,j,r,h=>by
  have hj:j < r.length:=by omega
  rw [zmD,zkS K (j + 1) r (by omega),List.drop_eq_getElem_cons hj,sumT]
  simp [List.getD,hj]
theorem zhO:∀ (K:Nat) (rows:List (List Ce)),(∀ r ∈ rows,r.length=K)->zcS K 0 rows=zkR rows
 | K,[],h=>by rw [zkT];rfl
 | K,r :: t,h=>by
  rw [zhP,zhO K t (fun x hx=>h x (by simp [hx])),zkS K 0 r (by rw [h r (by simp)];omega),List.drop_zero]
  rfl
theorem zpY:∀ (kinds:List Int) (j:Nat) (rows:List (List Ce)),zq4 kinds j rows->(zaQ kinds j rows).length<=10 * rows.length * kinds.length + zcS kinds.length j rows
 | [],j,rows,h=>by simp [zaQ]
 | kd :: r,j,rows,h=>by
  obtain ⟨⟨_,h2⟩,h3⟩:=h.cons
  have h1:=zuV h2
  have ih:=zpY r (j + 1) rows h3
  rw [zcP] at h1
  rw [zaQ,List.length_append,List.length_cons,zcS,Nat.mul_add]
  omega
theorem zy0:∀ (ws:List Int),(∀ x ∈ ws,WtOk x)->(btWs ws).length<=10 * ws.length
 | [],_=>by simp [btWs]
 | x :: r,h=>by
  obtain ⟨_,h1,h2⟩:=h x (by simp)
  have:=zaL (zig x) (ziK x h1 h2)
  have ih:=zy0 r (fun y hy=>h y (by simp [hy]))
  rw [btWs,List.length_append,List.length_cons];omega
theorem zD9 {lt:List Ce->List Ce->Bool} {kinds:List Int} {a:List Bp} (h:BtOk lt kinds a):(btWr kinds a).length<=12 + 10 * a.length * (kinds.length + 1) + zkR (a.map fun p=>p.1):=by
 have hfew:=h.few;have h1:=zaL a.length (by omega);have h2:=zpY kinds 0 (a.map fun p=>p.1) h.fit;have h3:=zy0 (a.map fun p=>p.2) (fun x hx=>by obtain ⟨p,hp,rfl⟩:=List.mem_map.1 hx;exact h.wts p hp);rw [zhO kinds.length (a.map fun p=>p.1) (fun r hr=>by obtain ⟨p,hp,rfl⟩:=List.mem_map.1 hr;exact h.wide p hp)] at h2;rw [List.length_map] at h2 h3;unfold btWr;rw [List.length_append,List.length_append,Nat.mul_add,Nat.mul_one];omega
/- -/
def kindsL (cs:List ColB):List Int:=cs.map fun c=>c.2
def zbD (ps:List PairB):List (List Ce):=ps.map fun p=>cesL p.1
def psL (ps:List PairB):List Bp:=ps.map fun p=>(cesL p.1,p.2)
theorem ze9 (ps:List PairB):(psL ps).map (fun p=>p.1)=zbD ps:=by unfold psL zbD;rw [List.map_map];rfl
theorem zCB (ps:List PairB):(psL ps).map (fun p=>p.2)=ps.map (fun p=>p.2):=by unfold psL;rw [List.map_map];rfl
theorem zeA (ps:List PairB):(psL ps).length=ps.length:=by unfold psL;rw [List.length_map]
theorem zoI (ps:List PairB):(zbD ps).length=ps.length:=by unfold zbD;rw [List.length_map]
def colB (k:Nat) (ps:List PairB):List CellB:=ps.map fun p=>p.1.getD k default
theorem zdF (k:Nat) (ps:List PairB):(colB k ps).length=ps.length:=by unfold colB;rw [List.length_map]
theorem zxO {k i:Nat} {ps:List PairB} (hi:i < ps.length):colB k (ps.take (i + 1))=colB k (ps.take i) ++ [(ps.getD i default).1.getD k default]:=by
 unfold colB;rw [zaI hi default,List.map_append];rfl
theorem zxU {k:Nat} {ps:List PairB} (h:∀ p ∈ ps,k < p.1.length):cesL (colB k ps)=btCol k (zbD ps):=by
 unfold cesL colB btCol zbD;rw [List.map_map,List.map_map];refine List.map_congr_left fun p hp=>?_;have hk:=h p hp;simp only [Function.comp];unfold cesL;simp [List.getD,hk]
theorem zAI {k:Nat} {ps:List PairB} (hP:PSO ps) (h:∀ p ∈ ps,k < p.1.length):CES (colB k ps):=by
 intro c hc;obtain ⟨p,hp,rfl⟩:=List.mem_map.1 hc;exact (hP p hp).1.get (h p hp)
theorem zfC (a:List (List Ce)):∀ (ks:List Int) (j:Nat) (kd:Int),zaQ (ks ++ [kd]) j a=zaQ ks j a ++ wrC kd (btCol (j + ks.length) a)
 | [],j,kd=>by simp [zaQ]
 | x :: r,j,kd=>by
  rw [List.cons_append,zaQ,zfC a r (j + 1) kd,zaQ,List.length_cons,List.append_assoc]
  rw [show j + 1 + r.length=j + (r.length + 1) from by omega]
theorem zkQ:∀ (ws:List Int) (x:Int),btWs (ws ++ [x])=btWs ws ++ encU (zig x)
 | [],x=>by simp [btWs]
 | y :: r,x=>by rw [List.cons_append,btWs,zkQ r x,btWs,List.append_assoc]
structure PsOk (cs:List ColB) (ps:List PairB):Prop where
 cols:cs.length<=8
 few:ps.length<=1024
 wide:∀ p ∈ ps,p.1.length=cs.length
 fit:zq4 (kindsL cs) 0 (zbD ps)
theorem PsOk.col {cs:List ColB} {ps:List PairB} (h:PsOk cs ps) {k:Nat} (hk:k < cs.length):(0<=(cs.getD k default).2/\(cs.getD k default).2<=5)/\(∀ c ∈ btCol k (zbD ps),Fit (cs.getD k default).2 c)/\(wrC (cs.getD k default).2 (btCol k (zbD ps))).length<=272384:=by
 have e:(kindsL cs)[k]?=some (cs.getD k default).2:=by unfold kindsL;simp [List.getD,hk]
 obtain ⟨h1,h2⟩:=h.fit k _ e;rw [Nat.zero_add] at h2;refine ⟨h1,h2,?_⟩;have h3:=zuV h2;have h4:sumT (btCol k (zbD ps))<=256 * (btCol k (zbD ps)).length:=by
  generalize btCol k (zbD ps)=l at h2;clear h3
  induction l with
  | nil=>simp [sumT]
  | cons c r ih =>
   have i1:=ih (fun x hx=>h2 x (by simp [hx]));have i2:=h2 c (by simp);have i3:c.2.length<=256:=by
    by_cases ht:(cs.getD k default).2=3∨(cs.getD k default).2=4
    ·exact (i2.text ht).2.1
    rw [(i2.num ht).1];simp
   rw [sumT,List.length_cons];omega
 rw [zcP,zoI] at h3 h4;have:=h.few;omega
/- -/
open Go.Shelf
def ceB (c:Ce):CellB:=(c.1,⟨c.2.toArray⟩)
theorem zD8 (c:CellB):ceB (ceL c)=c:=by
 obtain ⟨x,t⟩:=c;simp [ceB,ceL]
def cesB (r:List Ce):List CellB:=r.map ceB
theorem zkI (r:List CellB):cesB (cesL r)=r:=by
 unfold cesB cesL;rw [List.map_map]
 conv=>rhs;rw [<- List.map_id r]
 exact List.map_congr_left fun c _=>zD8 c
def psB (a:List Bp):List PairB:=a.map fun p=>(cesB p.1,p.2)
theorem zwH (ps:List PairB):psB (psL ps)=ps:=by
 unfold psB psL;rw [List.map_map]
 conv=>rhs;rw [<- List.map_id ps]
 exact List.map_congr_left fun p _=>by simp only [Function.comp,zkI];rfl
def cmpE (cs:List ColB) (a b:List Ce):Int:=cmpR cs (cesB a) (cesB b)
abbrev ltE (cs:List ColB):List Ce->List Ce->Bool:=fun a b=>decide (cmpE cs a b < 0)
theorem zCG (cs:List ColB) (a b:List CellB):ltE cs (cesL a) (cesL b)=decide (cmpR cs a b < 0):=by
 show decide (cmpR cs (cesB (cesL a)) (cesB (cesL b)) < 0)=_;rw [zkI,zkI]
theorem zp0 {cs:List ColB} {i:Nat} {kd:Int} (h:(kindsL cs)[i]?=some kd):∃ hi:i < cs.length,(cs[i]).2=kd:=by
 unfold kindsL at h;rw [List.getElem?_map] at h;obtain ⟨c,hc,rfl⟩:=Option.map_eq_some_iff.1 h;obtain ⟨hi,e⟩:=List.getElem?_eq_some_iff.1 hc;exact ⟨hi,by rw [e]⟩
theorem zw2 {cs:List ColB} {r:List CellB} (h:errRow cs r=0) (hE:CES r) {i:Nat} {kd:Int} (hi:(kindsL cs)[i]?=some kd):Fit kd ((cesL r).getD i (0,[])):=by
 obtain ⟨_,hl,hp⟩:=zbC h;obtain ⟨hic,rfl⟩:=zp0 hi;have hir:i < r.length:=by omega
 have hz:=zpE hp (cs[i],r[i]) (by
  have hlz:i < (cs.zip r).length:=by rw [List.length_zip];omega
  have e:(cs.zip r)[i]=(cs[i],r[i]):=List.getElem_zip ..
  rw [<- e];exact List.getElem_mem hlz)
 have e:(cesL r).getD i (0,[])=ceL r[i]:=by unfold cesL;simp [List.getD,hir]
 rw [e];exact ⟨hz,(hE _ (List.getElem_mem hir)).1⟩
theorem zCR {cs:List ColB} {r:List CellB} (hS:errS (colsL cs)=0) (hl:r.length=cs.length) (h:∀ i kd,(kindsL cs)[i]?=some kd->Fit kd ((cesL r).getD i (0,[]))):errRow cs r=0:=by
 unfold errRow errC;rw [if_pos hS,if_pos hl];apply zxH;intro x hx;obtain ⟨i,hi⟩:=List.getElem?_of_mem hx;obtain ⟨h1,h2⟩:=List.getElem?_eq_some_iff.1 hi;have h3:=h1;rw [List.length_zip] at h3;have hic:i < cs.length:=by omega
 have hir:i < r.length:=by omega
 rw [List.getElem_zip] at h2;have hf:=h i (cs[i]).2 (by unfold kindsL;simp [hic]);have e:(cesL r).getD i (0,[])=ceL r[i]:=by unfold cesL;simp [List.getD,hir]
 rw [e] at hf;subst h2;exact hf.ok
theorem zzZ {cs:List ColB} (hS:errS (colsL cs)=0) {i:Nat} {kd:Int} (h:(kindsL cs)[i]?=some kd):0<=kd/\kd<=5:=by
 obtain ⟨hi,rfl⟩:=zp0 h;have:=(zb1 hS).2.2.2 (colL cs[i]) (List.mem_map.2 ⟨_,List.getElem_mem hi,rfl⟩);exact this.2
theorem zcW (p:PairB) (t:List PairB):zbD (p :: t)=cesL p.1 :: zbD t:=rfl
theorem zy9 {cs:List ColB}:∀ {ps:List PairB},(∀ p ∈ ps,Vr cs p.1)->btAsc (ltE cs) (zbD ps)=true->Z.srt (cmpR cs) ps
 | [],_,_=>List.Pairwise.nil
 | [p],_,_=>List.Pairwise.cons (fun x hx=>absurd hx (by simp)) List.Pairwise.nil
 | p :: q :: t,hV,h=>by
  rw [zcW,zcW,btAsc,Bool.and_eq_true,zCG] at h
  obtain ⟨h1,h2⟩:=h
  have h1:=of_decide_eq_true h1
  have ih:=zy9 (ps:=q :: t) (fun x hx=>hV x (List.mem_cons_of_mem _ hx)) h2
  refine List.Pairwise.cons (fun x hx=>?_) ih
  rcases List.mem_cons.1 hx with rfl | hx
  ·exact h1
  ·exact (zbN cs).trans (hV p (by simp)) (hV q (by simp)) (hV x (by simp [hx])) h1 ((List.pairwise_cons.1 ih).1 x hx)
theorem zvV {cs:List ColB}:∀ {ps:List PairB},Z.srt (cmpR cs) ps->btAsc (ltE cs) (zbD ps)=true
 | [],_=>rfl
 | [p],_=>rfl
 | p :: q :: t,h=>by
  obtain ⟨h1,h2⟩:=List.pairwise_cons.1 h
  rw [zcW,zcW,btAsc,Bool.and_eq_true,zCG]
  exact ⟨decide_eq_true (h1 q (by simp)),zvV (ps:=q :: t) h2⟩
theorem zy3 {k:Nat} {ps:List PairB} {c:Ce} (h:c ∈ btCol k (zbD ps)):∃ p ∈ ps,c=(cesL p.1).getD k (0,[]):=by
 unfold btCol zbD at h;rw [List.map_map] at h;obtain ⟨p,hp,rfl⟩:=List.mem_map.1 h;exact ⟨p,hp,rfl⟩
theorem zx1 {k:Nat} {ps:List PairB} {p:PairB} (h:p ∈ ps):(cesL p.1).getD k (0,[]) ∈ btCol k (zbD ps):=by
 unfold btCol zbD;rw [List.map_map];exact List.mem_map.2 ⟨p,h,rfl⟩
theorem zvW {cs:List ColB} {ps:List PairB} (hP:PSO ps) (h:chkZ cs ps=0):PsOk cs ps/\BtOk (ltE cs) (kindsL cs) (psL ps):=by
 obtain ⟨hS,hn,hs⟩:=(zbH hP).1 h;have hw:∀ p ∈ ps,p.1.length=cs.length:=fun p hp=>(zbC (hs.all p hp).1).2.1
 have hf:zq4 (kindsL cs) 0 (zbD ps):=fun i kd hi=>⟨zzZ hS hi,fun c hc=>by
  rw [Nat.zero_add] at hc
  obtain ⟨p,hp,rfl⟩:=zy3 hc
  exact zw2 (hs.all p hp).1 (hs.all p hp).2 hi⟩
 have hc8:cs.length<=8:=by have:=(zb1 hS).2.1;rw [za3] at this;exact this
 refine ⟨⟨hc8,hn,hw,hf⟩,⟨?_,?_,?_,?_,?_⟩⟩
 ·rw [ze9];exact hf
 ·intro q hq;obtain ⟨p,hp,rfl⟩:=List.mem_map.1 hq;show (cesL p.1).length=_;rw [za6,hw p hp];unfold kindsL;rw [List.length_map]
 ·intro q hq;obtain ⟨p,hp,rfl⟩:=List.mem_map.1 hq;exact ⟨hs.nz p hp,(hP p hp).2⟩
 ·rw [zeA];exact hn
 rw [ze9];exact zvV hs.srt
theorem zDY {cs:List ColB} {ps:List PairB} (hP:PSO ps) (hS:errS (colsL cs)=0) (h:BtOk (ltE cs) (kindsL cs) (psL ps)):chkZ cs ps=0:=by
 have hV:∀ p ∈ ps,Vr cs p.1:=fun p hp=>by
  have hq:(cesL p.1,p.2) ∈ psL ps:=List.mem_map.2 ⟨p,hp,rfl⟩;refine ⟨zCR hS ?_ (fun i kd hi=>?_),(hP p hp).1⟩
  ·have:=h.wide _ hq;rw [za6] at this;rw [this];unfold kindsL;rw [List.length_map]
  have:=(h.fit i kd hi).2;rw [ze9,Nat.zero_add] at this;exact this _ (zx1 hp)
 refine (zbH hP).2 ⟨hS,by have:=h.few;rw [zeA] at this;exact this,?_,hV,fun p hp=>?_⟩
 ·have:=h.asc;rw [ze9] at this;exact zy9 hV this
 have hq:(cesL p.1,p.2) ∈ psL ps:=List.mem_map.2 ⟨p,hp,rfl⟩;exact (h.wts _ hq).1
