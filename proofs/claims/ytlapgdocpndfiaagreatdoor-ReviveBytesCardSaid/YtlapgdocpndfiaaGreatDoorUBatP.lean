/- -/
import Derived.Test.YtlapgdocpndfiaaGreatDoorUColSh
set_option linter.unusedVariables false
set_option linter.unusedSimpArgs false
set_option maxRecDepth 1000000
namespace Go.Proofs.YtlapgdocpndfiaaGreatDoor
open Go.RowKit
abbrev Bp:=List Ce × Int
def btCol (k:Nat) (a:List (List Ce)):List Ce:=a.map fun r=>r.getD k (0,[])
def zaQ:List Int->Nat->List (List Ce)->Bs
 | [],_,_=>[]
 | kd :: r,k,a=>wrC kd (btCol k a) ++ zaQ r (k + 1) a
def btWs:List Int->Bs
 | []=>[]
 | x :: r=>encU (zig x) ++ btWs r
def btWr (kinds:List Int) (a:List Bp):Bs:=encU a.length ++ (zaQ kinds 0 (a.map fun p=>p.1) ++ btWs (a.map fun p=>p.2))
def za3 (l:Bs) (n:Int):List Int->Nat->List (List Ce) × Nat × Nat
 | [],k=>([],k,0)
 | kd :: r,k =>
  if (rdK l kd n k).2.2≠0 then ([],(rdK l kd n k).2.1,(rdK l kd n k).2.2)
  else if (za3 l n r (rdK l kd n k).2.1).2.2≠0 then ([],(za3 l n r (rdK l kd n k).2.1).2.1,(za3 l n r (rdK l kd n k).2.1).2.2)
  else ((rdK l kd n k).1 :: (za3 l n r (rdK l kd n k).2.1).1,(za3 l n r (rdK l kd n k).2.1).2.1,0)
def zaA (l:Bs):Nat->Nat->List Int × Nat × Nat
 | 0,k=>([],k,0)
 | m + 1,k =>
  if (rdU l k 18446744073709551615).2.2≠0 then ([],(rdU l k 18446744073709551615).2.1,(rdU l k 18446744073709551615).2.2)
  else if zag (rdU l k 18446744073709551615).1=0 then ([],(rdU l k 18446744073709551615).2.1,2)
  else if (zaA l m (rdU l k 18446744073709551615).2.1).2.2≠0 then ([],(zaA l m (rdU l k 18446744073709551615).2.1).2.1,(zaA l m (rdU l k 18446744073709551615).2.1).2.2)
  else (zag (rdU l k 18446744073709551615).1 :: (zaA l m (rdU l k 18446744073709551615).2.1).1,(zaA l m (rdU l k 18446744073709551615).2.1).2.1,0)
def btRows (n:Nat) (cols:List (List Ce)):List (List Ce):=(List.range n).map fun i=>cols.map fun c=>c.getD i (0,[])
def btAsc (lt:List Ce->List Ce->Bool):List (List Ce)->Bool
 | []=>true
 | [_]=>true
 | a :: b :: r=>lt a b && btAsc lt (b :: r)
def btRd (lt:List Ce->List Ce->Bool) (l:Bs) (kinds:List Int) (k:Nat):List Bp × Nat × Nat :=
 if (rdU l k 1024).2.2≠0 then ([],(rdU l k 1024).2.1,(rdU l k 1024).2.2)
 else if (za3 l (rdU l k 1024).1 kinds (rdU l k 1024).2.1).2.2≠0 then ([],(za3 l (rdU l k 1024).1 kinds (rdU l k 1024).2.1).2.1,(za3 l (rdU l k 1024).1 kinds (rdU l k 1024).2.1).2.2)
 else if (zaA l (rdU l k 1024).1 (za3 l (rdU l k 1024).1 kinds (rdU l k 1024).2.1).2.1).2.2≠0 then ([],(zaA l (rdU l k 1024).1 (za3 l (rdU l k 1024).1 kinds (rdU l k 1024).2.1).2.1).2.1,(zaA l (rdU l k 1024).1 (za3 l (rdU l k 1024).1 kinds (rdU l k 1024).2.1).2.1).2.2)
 else if btAsc lt (btRows (rdU l k 1024).1 (za3 l (rdU l k 1024).1 kinds (rdU l k 1024).2.1).1)=false then ([],(zaA l (rdU l k 1024).1 (za3 l (rdU l k 1024).1 kinds (rdU l k 1024).2.1).2.1).2.1,9)
 else ((btRows (rdU l k 1024).1 (za3 l (rdU l k 1024).1 kinds (rdU l k 1024).2.1).1).zip (zaA l (rdU l k 1024).1 (za3 l (rdU l k 1024).1 kinds (rdU l k 1024).2.1).2.1).1,(zaA l (rdU l k 1024).1 (za3 l (rdU l k 1024).1 kinds (rdU l k 1024).2.1).2.1).2.1,0)
theorem zcY (k:Nat) (a:List (List Ce)):(btCol k a).length=a.length:=by unfold btCol;rw [List.length_map]
def zqL (kinds:List Int) (k:Nat) (a:List (List Ce)):Prop:=∀ i kd,kinds[i]?=some kd->(0<=kd/\kd<=5)/\∀ c ∈ btCol (k + i) a,Fit kd c
theorem zqL.cons {kd:Int} {r:List Int} {k:Nat} {a:List (List Ce)} (h:zqL (kd :: r) k a):((0<=kd/\kd<=5)/\∀ c ∈ btCol k a,Fit kd c)/\zqL r (k + 1) a:=by
 refine ⟨by simpa using h 0 kd rfl,fun i x hx=>?_⟩;have:=h (i + 1) x (by simpa using hx);rw [show k + 1 + i=k + (i + 1) from by omega];exact this
theorem zhT (l m:Bs) (a:List (List Ce)) (hn:a.length<=1024):∀ (kinds:List Int) (j k:Nat),zqL kinds j a->l.drop k=zaQ kinds j a ++ m ->
  za3 l a.length kinds k=((List.range kinds.length).map (fun i=>btCol (j + i) a),k + (zaQ kinds j a).length,0)
 | [],j,k,h,hd=>by simp [za3,zaQ]
 | kd :: r,j,k,h,hd=>by
  obtain ⟨⟨h1,h2⟩,h3⟩:=h.cons
  rw [zaQ,List.append_assoc] at hd
  have hp:=zDJ (l:=l) (m:=zaQ r (j + 1) a ++ m) (k:=k) h1 h2 (by rw [zcY];exact hn) hd
  rw [zcY] at hp
  have hd2:=zeP hd
  have ih:=zhT l m a hn r (j + 1) _ h3 hd2
  rw [za3,hp]
  dsimp only
  rw [ih,if_neg (by simp),if_neg (by simp)]
  rw [List.length_cons,List.range_succ_eq_map,List.map_cons,List.map_map,zaQ,List.length_append]
  refine Prod.ext ?_ (Prod.ext (by dsimp only;omega) rfl)
  dsimp only
  rw [Nat.add_zero]
  congr 1
  refine List.map_congr_left fun i _=>?_
  simp only [Function.comp]
  rw [show j + 1 + i=j + (i + 1) from by omega]
theorem zf2 (l:Bs) (n:Int):∀ (kinds:List Int) (k:Nat),k<=l.length->(za3 l n kinds k).2.1<=l.length
 | [],k,h=>h
 | kd :: r,k,h=>by
  have h1:=zxN (l:=l) (kind:=kd) (n:=n) h
  have ih:=zf2 l n r _ h1
  rw [za3]
  split
  ·exact h1
  ·split
   ·exact ih
   ·exact ih
theorem zhW (l:Bs) (n:Nat) (a:List (List Ce)):∀ (kinds:List Int) (j k:Nat),k<=l.length->(za3 l n kinds k).2.2=0->(∀ i c,(za3 l n kinds k).1[i]?=some c->btCol (j + i) a=c) ->
  l.take (za3 l n kinds k).2.1=l.take k ++ zaQ kinds j a/\(za3 l n kinds k).2.1<=l.length/\(za3 l n kinds k).1.length=kinds.length
 | [],j,k,hk,h,ha=>by simp [za3,zaQ,hk]
 | kd :: r,j,k,hk,h,ha=>by
  rw [za3] at h ha ⊢
  by_cases h1:(rdK l kd n k).2.2=0
  ·rw [if_neg (fun hh=>hh h1)] at h ha ⊢
   obtain ⟨e1,e2,_,_,_,_⟩:=zn1 hk h1
   by_cases h2:(za3 l n r (rdK l kd n k).2.1).2.2=0
   ·rw [if_neg (fun hh=>hh h2)] at ha ⊢
    have hc:=ha 0 _ rfl
    rw [Nat.add_zero] at hc
    obtain ⟨i1,i2,i3⟩:=zhW l n a r (j + 1) _ e2 h2 (fun i c hi=>by
     have:=ha (i + 1) c (by simpa using hi)
     rw [show j + 1 + i=j + (i + 1) from by omega]
     exact this)
    refine ⟨?_,i2,by simp [i3]⟩
    dsimp only
    rw [i1,e1,zaQ,hc,List.append_assoc]
   ·rw [if_pos h2] at h;exact absurd h h2
  ·rw [if_pos h1] at h;exact absurd h h1
theorem zhU (l:Bs) (n:Int):∀ (kinds:List Int) (k:Nat),(za3 l n kinds k).2.2=0->(za3 l n kinds k).1.length=kinds.length
 | [],k,h=>rfl
 | kd :: r,k,h=>by
  rw [za3] at h ⊢
  by_cases h1:(rdK l kd n k).2.2=0
  ·rw [if_neg (fun hh=>hh h1)] at h ⊢
   by_cases h2:(za3 l n r (rdK l kd n k).2.1).2.2=0
   ·rw [if_neg (fun hh=>hh h2)]
    simp [zhU l n r _ h2]
   ·rw [if_pos h2] at h;exact absurd h h2
  ·rw [if_pos h1] at h;exact absurd h h1
theorem zhV (l:Bs) (n:Nat):∀ (kinds:List Int) (k:Nat),k<=l.length->(za3 l n kinds k).2.2=0 ->
  ∀ (i:Nat) (kd:Int),kinds[i]?=some kd->(0<=kd/\kd<=5)/\∃ c:List Ce,(za3 l n kinds k).1[i]?=some c/\c.length=n/\∀ x ∈ c,Fit kd x
 | [],k,hk,h,i,kd,hi=>by simp at hi
 | kd :: r,k,hk,h,i,kx,hi=>by
  rw [za3] at h ⊢
  by_cases h1:(rdK l kd n k).2.2=0
  ·rw [if_neg (fun hh=>hh h1)] at h ⊢
   obtain ⟨_,e2,e3,e4,e5,_⟩:=zn1 hk h1
   by_cases h2:(za3 l n r (rdK l kd n k).2.1).2.2=0
   ·rw [if_neg (fun hh=>hh h2)]
    cases i with
    | zero =>
     obtain rfl:kd=kx:=by simpa using hi
     exact ⟨e3,_,rfl,by omega,e4⟩
    | succ i =>
     obtain ⟨f1,c,f2,f3⟩:=zhV l n r _ e2 h2 i kx (by simpa using hi)
     exact ⟨f1,c,by simpa using f2,f3⟩
   ·rw [if_pos h2] at h;exact absurd h h2
  ·rw [if_pos h1] at h;exact absurd h h1
def WtOk (x:Int):Prop:=x≠0/\-9223372036854775808<=x/\x<=9223372036854775807
theorem zm9 (l m:Bs):∀ (ws:List Int) (k:Nat),(∀ x ∈ ws,WtOk x)->l.drop k=btWs ws ++ m->zaA l ws.length k=(ws,k + (btWs ws).length,0)
 | [],k,h,hd=>by simp [zaA,btWs]
 | x :: r,k,h,hd=>by
  obtain ⟨h0,h1,h2⟩:=h x (by simp)
  rw [btWs,List.append_assoc] at hd
  have hz:=ziQ x h1 h2
  have hp:=zh3 (most:=18446744073709551615) hd (by omega) (by omega)
  have ih:=zm9 l m r _ (fun y hy=>h y (by simp [hy])) (zeP hd)
  rw [List.length_cons,zaA,hp]
  dsimp only
  rw [ih,if_neg (by simp),zvV,if_neg h0,if_neg (by simp),btWs,List.length_append]
  refine Prod.ext rfl (Prod.ext (by dsimp only;omega) rfl)
theorem zhS (l:Bs):∀ (m k:Nat),k<=l.length->(zaA l m k).2.1<=l.length
 | 0,k,h=>h
 | m + 1,k,h=>by
  have h1:=zh2 (most:=18446744073709551615) h
  have ih:=zhS l m _ h1
  rw [zaA]
  split
  ·exact h1
  ·split
   ·exact h1
   ·split
    ·exact ih
    ·exact ih
theorem ziR {y:Nat} (h:y < 18446744073709551616):-9223372036854775808<=zag y/\zag y<=9223372036854775807:=by
 unfold zag;split <;> omega
theorem zmA (l:Bs):∀ (m k:Nat),k<=l.length->(zaA l m k).2.2=0 ->
  l.take (zaA l m k).2.1=l.take k ++ btWs (zaA l m k).1/\(zaA l m k).2.1<=l.length/\(zaA l m k).1.length=m/\∀ x ∈ (zaA l m k).1,WtOk x
 | 0,k,hk,h=>by simp [zaA,btWs,hk]
 | m + 1,k,hk,h=>by
  rw [zaA] at h ⊢
  by_cases h1:(rdU l k 18446744073709551615).2.2=0
  ·rw [if_neg (fun hh=>hh h1)] at h ⊢
   obtain ⟨a1,a2,a3⟩:=zc3 hk h1
   by_cases h0:zag (rdU l k 18446744073709551615).1=0
   ·rw [if_pos h0] at h;cases h
   ·rw [if_neg h0] at h ⊢
    by_cases h2:(zaA l m (rdU l k 18446744073709551615).2.1).2.2=0
    ·rw [if_neg (fun hh=>hh h2)]
     obtain ⟨i1,i2,i3,i4⟩:=zmA l m _ a2 h2
     refine ⟨?_,i2,by simp [i3],fun x hx=>?_⟩
     ·dsimp only
      rw [i1,a1,btWs,zvU _ ,List.append_assoc]
     ·rcases List.mem_cons.1 hx with rfl | hx
      ·exact ⟨h0,ziR (by omega)⟩
      ·exact i4 x hx
    ·rw [if_pos h2] at h;exact absurd h h2
  ·rw [if_pos h1] at h;exact absurd h h1
theorem zpH (r:List Ce):(List.range r.length).map (fun j=>r.getD j (0,[]))=r:=by
 apply List.ext_getElem
 ·simp
 intro i h1 h2;simp [List.getD,h2]
theorem zcE (n:Nat) (cols:List (List Ce)):(btRows n cols).length=n:=by unfold btRows;simp
theorem zs7 (n:Nat) (cols:List (List Ce)):∀ r ∈ btRows n cols,r.length=cols.length:=by
 intro r hr;unfold btRows at hr;obtain ⟨i,_,rfl⟩:=List.mem_map.1 hr;simp
theorem zs8 (K:Nat) (rows:List (List Ce)) (h:∀ r ∈ rows,r.length=K):btRows rows.length ((List.range K).map fun i=>btCol (0 + i) rows)=rows:=by
 unfold btRows;apply List.ext_getElem
 ·simp
 intro i h1 h2;rw [List.getElem_map,List.getElem_range,List.map_map];have hk:=h _ (List.getElem_mem h2)
 rw [show (List.range K).map ((fun c=>List.getD c i (0,[])) ∘ fun j=>btCol (0 + j) rows)=(List.range K).map (fun j=>(rows[i]).getD j (0,[])) from by
  refine List.map_congr_left fun j _=>?_
  simp only [Function.comp,Nat.zero_add]
  unfold btCol
  simp [List.getD,h2]]
 rw [<- hk];exact zpH _
theorem zmF {n i:Nat} {cols:List (List Ce)} {c:List Ce} (h:cols[i]?=some c) (hc:c.length=n):btCol i (btRows n cols)=c:=by
 unfold btCol btRows;rw [List.map_map];subst hc
 rw [show (List.range c.length).map ((fun r=>List.getD r i (0,[])) ∘ fun q=>cols.map fun x=>List.getD x q (0,[]))=(List.range c.length).map (fun q=>c.getD q (0,[])) from by
  refine List.map_congr_left fun q _=>?_
  simp [Function.comp,List.getD,h]]
 exact zpH c
theorem zsF:∀ (a:List Bp),(a.map fun p=>p.1).zip (a.map fun p=>p.2)=a
 | []=>rfl
 | p :: r=>by rw [List.map_cons,List.map_cons,List.zip_cons_cons,zsF r]
theorem zip_fst:∀ (a:List (List Ce)) (b:List Int),a.length=b.length->(a.zip b).map (fun p=>p.1)=a
 | [],[],_=>rfl
 | [],_ :: _,h=>by simp at h
 | _ :: _,[],h=>by simp at h
 | x :: r,y :: s,h=>by rw [List.zip_cons_cons,List.map_cons,zip_fst r s (by simpa using h)]
theorem zvS:∀ (a:List (List Ce)) (b:List Int),a.length=b.length->(a.zip b).map (fun p=>p.2)=b
 | [],[],_=>rfl
 | [],_ :: _,h=>by simp at h
 | _ :: _,[],h=>by simp at h
 | x :: r,y :: s,h=>by rw [List.zip_cons_cons,List.map_cons,zvS r s (by simpa using h)]
structure BtOk (lt:List Ce->List Ce->Bool) (kinds:List Int) (a:List Bp):Prop where
 fit:zqL kinds 0 (a.map fun p=>p.1)
 wide:∀ p ∈ a,p.1.length=kinds.length
 wts:∀ p ∈ a,WtOk p.2
 few:a.length<=1024
 asc:btAsc lt (a.map fun p=>p.1)=true
theorem zC4 {lt:List Ce->List Ce->Bool} {l m:Bs} {kinds:List Int} {a:List Bp} {k:Nat} (h:BtOk lt kinds a) (hd:l.drop k=btWr kinds a ++ m):btRd lt l kinds k=(a,k + (btWr kinds a).length,0):=by
 have hfew:=h.few;unfold btWr at hd ⊢;rw [List.append_assoc,List.append_assoc] at hd;have h1:=zh3 (most:=1024) hd (by omega) h.few;have hd2:=zeP hd;have hlf:(a.map fun p=>p.1).length=a.length:=List.length_map ..;have hls:(a.map fun p=>p.2).length=a.length:=List.length_map ..;have h2:=zhT l (btWs (a.map fun p=>p.2) ++ m) (a.map fun p=>p.1) (by rw [hlf];exact h.few) kinds 0 _ h.fit hd2;have hd3:=zeP hd2;have h3:=zm9 l m (a.map fun p=>p.2) _ (fun x hx=>by obtain ⟨p,hp,rfl⟩:=List.mem_map.1 hx;exact h.wts p hp) hd3;have h4:=zs8 kinds.length (a.map fun p=>p.1) (fun r hr=>by obtain ⟨p,hp,rfl⟩:=List.mem_map.1 hr;exact h.wide p hp);rw [hlf] at h2 h4;rw [hls] at h3;unfold btRd;rw [h1];dsimp only;rw [h2];dsimp only;rw [h3];dsimp only;rw [h4,if_neg (by simp),if_neg (by simp),if_neg (by simp),h.asc,if_neg (by decide),zsF];rw [List.length_append,List.length_append];refine Prod.ext rfl (Prod.ext (by dsimp only;omega) rfl)
theorem zvN {lt:List Ce->List Ce->Bool} {l:Bs} {kinds:List Int} {k:Nat} (hk:k<=l.length):(btRd lt l kinds k).2.1<=l.length:=by
 have h1:=zh2 (most:=1024) hk;have h2:=zf2 l (rdU l k 1024).1 kinds _ h1;have h3:=zhS l (rdU l k 1024).1 _ h2;unfold btRd;split
 ·exact h1
 split
 ·exact h2
 split
 ·exact h3
 split
 ·exact h3
 exact h3
theorem ztR {lt:List Ce->List Ce->Bool} {l:Bs} {kinds:List Int} {k:Nat} (hk:k<=l.length) (h:(btRd lt l kinds k).2.2=0) :
  l.take (btRd lt l kinds k).2.1=l.take k ++ btWr kinds (btRd lt l kinds k).1/\(btRd lt l kinds k).2.1<=l.length/\BtOk lt kinds (btRd lt l kinds k).1:=by
 have hpl:=zvN (lt:=lt) (kinds:=kinds) hk;unfold btRd at h ⊢;by_cases h1:(rdU l k 1024).2.2=0
 ·obtain ⟨a1,a2,a3⟩:=zc3 hk h1;rw [if_neg (fun hh=>hh h1)] at h ⊢;generalize hn:(rdU l k 1024).1=n at *;generalize hk1:(rdU l k 1024).2.1=k1 at *;by_cases h2:(za3 l n kinds k1).2.2=0
  ·rw [if_neg (fun hh=>hh h2)] at h ⊢;have hfit:=zhV l n kinds k1 a2 h2
   have henc:=zhW l n (btRows n (za3 l n kinds k1).1) kinds 0 k1 a2 h2 (fun i c hi=>by
    rw [Nat.zero_add]
    have hlen:i < kinds.length:=by
     have hl:=(List.getElem?_eq_some_iff.1 hi).1
     have:=(zhU l n kinds k1 h2)
     omega
    obtain ⟨_,c',hc',hcl,_⟩:=hfit i kinds[i] (by simp [hlen])
    rw [hi] at hc'
    injection hc' with hc'
    subst hc'
    exact zmF hi hcl)
   obtain ⟨b1,b2,b3⟩:=henc;by_cases h3:(zaA l n (za3 l n kinds k1).2.1).2.2=0
   ·rw [if_neg (fun hh=>hh h3)] at h ⊢;obtain ⟨c1,c2,c3,c4⟩:=zmA l n _ b2 h3;cases has:btAsc lt (btRows n (za3 l n kinds k1).1) with
    | false=>rw [if_pos has] at h;cases h
    | true =>
     rw [if_neg (by simp)];have hzl:(btRows n (za3 l n kinds k1).1).length=(zaA l n (za3 l n kinds k1).2.1).1.length:=(by rw [zcE,c3]);have hf:=zip_fst _ _ hzl;have hs:=zvS _ _ hzl;have hal:((btRows n (za3 l n kinds k1).1).zip (zaA l n (za3 l n kinds k1).2.1).1).length=n:=by
      rw [List.length_zip,zcE,c3];omega
     refine ⟨?_,c2,⟨?_,?_,?_,by rw [hal];exact a3,by rw [hf];exact has⟩⟩
     ·unfold btWr;dsimp only;rw [hf,hs,hal,c1,b1,a1];simp only [List.append_assoc]
     ·rw [hf];intro i kd hi;obtain ⟨g1,c,g2,g3,g4⟩:=hfit i kd hi;refine ⟨g1,?_⟩;rw [Nat.zero_add,zmF g2 g3];exact g4
     ·intro p hp;have hm:p.1 ∈ btRows n (za3 l n kinds k1).1:=(by rw [<- hf];exact List.mem_map.2 ⟨p,hp,rfl⟩);rw [zs7 _ _ _ hm,b3]
     intro p hp;have hm:p.2 ∈ (zaA l n (za3 l n kinds k1).2.1).1:=by
      have:p.2 ∈ ((btRows n (za3 l n kinds k1).1).zip (zaA l n (za3 l n kinds k1).2.1).1).map (fun p=>p.2):=List.mem_map.2 ⟨p,hp,rfl⟩;rw [hs] at this;exact this
     exact c4 _ hm
   rw [if_pos h3] at h;exact absurd h h3
  rw [if_pos h2] at h;exact absurd h h2
 rw [if_pos h1] at h;exact absurd h h1
def zkN (rows:List (List Ce)):Nat:=match rows with
 | []=>0
 | r :: t=>sumT r + zkN t
def zd1:Nat->Nat->List (List Ce)->Nat
 | 0,_,_=>0
 | K + 1,j,rows=>sumT (btCol j rows) + zd1 K (j + 1) rows
def zm8:Nat->Nat->List Ce->Nat
 | 0,_,_=>0
 | K + 1,j,r=>(r.getD j (0,[])).2.length + zm8 K (j + 1) r
theorem zkR:∀ (K j:Nat),zd1 K j []=0
 | 0,j=>rfl
 | K + 1,j=>by rw [zd1,zkR K (j + 1)];rfl
theorem zhY:∀ (K j:Nat) (r:List Ce) (t:List (List Ce)),zd1 K j (r :: t)=zm8 K j r + zd1 K j t
 | 0,j,r,t=>rfl
 | K + 1,j,r,t=>by
  rw [zd1,zhY K (j + 1) r t,zm8,zd1]
  show (r.getD j (0,[])).2.length + sumT (btCol j t) + _=_
  omega
theorem zkO:∀ (K j:Nat) (r:List Ce),r.length=j + K->zm8 K j r=sumT (r.drop j)
 | 0,j,r,h=>by rw [zm8,List.drop_of_length_le (by omega)];rfl
 | K + 1,j,r,h=>by
  have hj:j < r.length:=by omega
  rw [zm8,zkO K (j + 1) r (by omega),List.drop_eq_getElem_cons hj,sumT]
  simp [List.getD,hj]
theorem zhX:∀ (K:Nat) (rows:List (List Ce)),(∀ r ∈ rows,r.length=K)->zd1 K 0 rows=zkN rows
 | K,[],h=>by rw [zkR];rfl
 | K,r :: t,h=>by
  rw [zhY,zhX K t (fun x hx=>h x (by simp [hx])),zkO K 0 r (by rw [h r (by simp)];omega),List.drop_zero]
  rfl
theorem zqF:∀ (kinds:List Int) (j:Nat) (rows:List (List Ce)),zqL kinds j rows->(zaQ kinds j rows).length<=10 * rows.length * kinds.length + zd1 kinds.length j rows
 | [],j,rows,h=>by simp [zaQ]
 | kd :: r,j,rows,h=>by
  obtain ⟨⟨_,h2⟩,h3⟩:=h.cons
  have h1:=zw1 h2
  have ih:=zqF r (j + 1) rows h3
  rw [zcY] at h1
  rw [zaQ,List.length_append,List.length_cons,zd1,Nat.mul_add]
  omega
theorem zzJ:∀ (ws:List Int),(∀ x ∈ ws,WtOk x)->(btWs ws).length<=10 * ws.length
 | [],_=>by simp [btWs]
 | x :: r,h=>by
  obtain ⟨_,h1,h2⟩:=h x (by simp)
  have:=zaC (zig x) (ziQ x h1 h2)
  have ih:=zzJ r (fun y hy=>h y (by simp [hy]))
  rw [btWs,List.length_append,List.length_cons];omega
theorem zEK {lt:List Ce->List Ce->Bool} {kinds:List Int} {a:List Bp} (h:BtOk lt kinds a):(btWr kinds a).length<=12 + 10 * a.length * (kinds.length + 1) + zkN (a.map fun p=>p.1):=by
 have hfew:=h.few;have h1:=zaC a.length (by omega);have h2:=zqF kinds 0 (a.map fun p=>p.1) h.fit;have h3:=zzJ (a.map fun p=>p.2) (fun x hx=>by obtain ⟨p,hp,rfl⟩:=List.mem_map.1 hx;exact h.wts p hp);rw [zhX kinds.length (a.map fun p=>p.1) (fun r hr=>by obtain ⟨p,hp,rfl⟩:=List.mem_map.1 hr;exact h.wide p hp)] at h2;rw [List.length_map] at h2 h3;unfold btWr;rw [List.length_append,List.length_append,Nat.mul_add,Nat.mul_one];omega
/- -/
def kindsL (cs:List ColB):List Int:=cs.map fun c=>c.2
def zbC (ps:List PairB):List (List Ce):=ps.map fun p=>cesL p.1
def psL (ps:List PairB):List Bp:=ps.map fun p=>(cesL p.1,p.2)
theorem zeJ (ps:List PairB):(psL ps).map (fun p=>p.1)=zbC ps:=by unfold psL zbC;rw [List.map_map];rfl
theorem zDN (ps:List PairB):(psL ps).map (fun p=>p.2)=ps.map (fun p=>p.2):=by unfold psL;rw [List.map_map];rfl
theorem zeK (ps:List PairB):(psL ps).length=ps.length:=by unfold psL;rw [List.length_map]
theorem zoR (ps:List PairB):(zbC ps).length=ps.length:=by unfold zbC;rw [List.length_map]
def colB (k:Nat) (ps:List PairB):List CellB:=ps.map fun p=>p.1.getD k default
theorem zdT (k:Nat) (ps:List PairB):(colB k ps).length=ps.length:=by unfold colB;rw [List.length_map]
theorem zzA {k i:Nat} {ps:List PairB} (hi:i < ps.length):colB k (ps.take (i + 1))=colB k (ps.take i) ++ [(ps.getD i default).1.getD k default]:=by
 unfold colB;rw [zaE hi default,List.map_append];rfl
theorem zzE {k:Nat} {ps:List PairB} (h:∀ p ∈ ps,k < p.1.length):cesL (colB k ps)=btCol k (zbC ps):=by
 unfold cesL colB btCol zbC;rw [List.map_map,List.map_map];refine List.map_congr_left fun p hp=>?_;have hk:=h p hp;simp only [Function.comp];unfold cesL;simp [List.getD,hk]
theorem zBX {k:Nat} {ps:List PairB} (hP:PSO ps) (h:∀ p ∈ ps,k < p.1.length):CES (colB k ps):=by
 intro c hc;obtain ⟨p,hp,rfl⟩:=List.mem_map.1 hc;exact (hP p hp).1.get (h p hp)
theorem zfM (a:List (List Ce)):∀ (ks:List Int) (j:Nat) (kd:Int),zaQ (ks ++ [kd]) j a=zaQ ks j a ++ wrC kd (btCol (j + ks.length) a)
 | [],j,kd=>by simp [zaQ]
 | x :: r,j,kd=>by
  rw [List.cons_append,zaQ,zfM a r (j + 1) kd,zaQ,List.length_cons,List.append_assoc]
  rw [show j + 1 + r.length=j + (r.length + 1) from by omega]
theorem zkM:∀ (ws:List Int) (x:Int),btWs (ws ++ [x])=btWs ws ++ encU (zig x)
 | [],x=>by simp [btWs]
 | y :: r,x=>by rw [List.cons_append,btWs,zkM r x,btWs,List.append_assoc]
structure PsOk (cs:List ColB) (ps:List PairB):Prop where
 cols:cs.length<=8
 few:ps.length<=1024
 wide:∀ p ∈ ps,p.1.length=cs.length
 fit:zqL (kindsL cs) 0 (zbC ps)
theorem PsOk.col {cs:List ColB} {ps:List PairB} (h:PsOk cs ps) {k:Nat} (hk:k < cs.length):(0<=(cs.getD k default).2/\(cs.getD k default).2<=5)/\(∀ c ∈ btCol k (zbC ps),Fit (cs.getD k default).2 c)/\(wrC (cs.getD k default).2 (btCol k (zbC ps))).length<=272384:=by
 have e:(kindsL cs)[k]?=some (cs.getD k default).2:=by unfold kindsL;simp [List.getD,hk]
 obtain ⟨h1,h2⟩:=h.fit k _ e;rw [Nat.zero_add] at h2;refine ⟨h1,h2,?_⟩;have h3:=zw1 h2;have h4:sumT (btCol k (zbC ps))<=256 * (btCol k (zbC ps)).length:=by
  generalize btCol k (zbC ps)=l at h2;clear h3
  induction l with
  | nil=>simp [sumT]
  | cons c r ih =>
   have i1:=ih (fun x hx=>h2 x (by simp [hx]));have i2:=h2 c (by simp);have i3:c.2.length<=256:=by
    by_cases ht:(cs.getD k default).2=3∨(cs.getD k default).2=4
    ·exact (i2.text ht).2.1
    rw [(i2.num ht).1];simp
   rw [sumT,List.length_cons];omega
 rw [zcY,zoR] at h3 h4;have:=h.few;omega
/- -/
open Go.Shelf
def ceB (c:Ce):CellB:=(c.1,⟨c.2.toArray⟩)
theorem zEJ (c:CellB):ceB (ceL c)=c:=by
 obtain ⟨x,t⟩:=c;simp [ceB,ceL]
def cesB (r:List Ce):List CellB:=r.map ceB
theorem zeD (r:List CellB):cesB (cesL r)=r:=by
 unfold cesB cesL;rw [List.map_map]
 conv=>rhs;rw [<- List.map_id r]
 exact List.map_congr_left fun c _=>zEJ c
def psB (a:List Bp):List PairB:=a.map fun p=>(cesB p.1,p.2)
theorem zxV (ps:List PairB):psB (psL ps)=ps:=by
 unfold psB psL;rw [List.map_map]
 conv=>rhs;rw [<- List.map_id ps]
 exact List.map_congr_left fun p _=>by simp only [Function.comp,zeD];rfl
def cmpE (cs:List ColB) (a b:List Ce):Int:=cmpR cs (cesB a) (cesB b)
abbrev ltE (cs:List ColB):List Ce->List Ce->Bool:=fun a b=>decide (cmpE cs a b < 0)
theorem zDS (cs:List ColB) (a b:List CellB):ltE cs (cesL a) (cesL b)=decide (cmpR cs a b < 0):=by
 show decide (cmpR cs (cesB (cesL a)) (cesB (cesL b)) < 0)=_;rw [zeD,zeD]
theorem zpD {cs:List ColB} {i:Nat} {kd:Int} (h:(kindsL cs)[i]?=some kd):∃ hi:i < cs.length,(cs[i]).2=kd:=by
 unfold kindsL at h;rw [List.getElem?_map] at h;obtain ⟨c,hc,rfl⟩:=Option.map_eq_some_iff.1 h;obtain ⟨hi,e⟩:=List.getElem?_eq_some_iff.1 hc;exact ⟨hi,by rw [e]⟩
theorem zx8 {cs:List ColB} {r:List CellB} (h:errRow cs r=0) (hE:CES r) {i:Nat} {kd:Int} (hi:(kindsL cs)[i]?=some kd):Fit kd ((cesL r).getD i (0,[])):=by
 obtain ⟨_,hl,hp⟩:=zaO h;obtain ⟨hic,rfl⟩:=zpD hi;have hir:i < r.length:=by omega
 have hz:=zpQ hp (cs[i],r[i]) (by
  have hlz:i < (cs.zip r).length:=by rw [List.length_zip];omega
  have e:(cs.zip r)[i]=(cs[i],r[i]):=List.getElem_zip ..
  rw [<- e];exact List.getElem_mem hlz)
 have e:(cesL r).getD i (0,[])=ceL r[i]:=by unfold cesL;simp [List.getD,hir]
 rw [e];exact ⟨hz,(hE _ (List.getElem_mem hir)).1⟩
theorem zE4 {cs:List ColB} {r:List CellB} (hS:errS (colsL cs)=0) (hl:r.length=cs.length) (h:∀ i kd,(kindsL cs)[i]?=some kd->Fit kd ((cesL r).getD i (0,[]))):errRow cs r=0:=by
 unfold errRow errC;rw [if_pos hS,if_pos hl];apply zz1;intro x hx;obtain ⟨i,hi⟩:=List.getElem?_of_mem hx;obtain ⟨h1,h2⟩:=List.getElem?_eq_some_iff.1 hi;have h3:=h1;rw [List.length_zip] at h3;have hic:i < cs.length:=by omega
 have hir:i < r.length:=by omega
 rw [List.getElem_zip] at h2;have hf:=h i (cs[i]).2 (by unfold kindsL;simp [hic]);have e:(cesL r).getD i (0,[])=ceL r[i]:=by unfold cesL;simp [List.getD,hir]
 rw [e] at hf;subst h2;exact hf.ok
theorem zBC {cs:List ColB} (hS:errS (colsL cs)=0) {i:Nat} {kd:Int} (h:(kindsL cs)[i]?=some kd):0<=kd/\kd<=5:=by
 obtain ⟨hi,rfl⟩:=zpD h;have:=(zaM hS).2.2.2 (colL cs[i]) (List.mem_map.2 ⟨_,List.getElem_mem hi,rfl⟩);exact this.2
theorem zd5 (p:PairB) (t:List PairB):zbC (p :: t)=cesL p.1 :: zbC t:=rfl
theorem zzR {cs:List ColB}:∀ {ps:List PairB},(∀ p ∈ ps,Vr cs p.1)->btAsc (ltE cs) (zbC ps)=true->Z.srt (cmpR cs) ps
 | [],_,_=>List.Pairwise.nil
 | [p],_,_=>List.Pairwise.cons (fun x hx=>absurd hx (by simp)) List.Pairwise.nil
 | p :: q :: t,hV,h=>by
  rw [zd5,zd5,btAsc,Bool.and_eq_true,zDS] at h
  obtain ⟨h1,h2⟩:=h
  have h1:=of_decide_eq_true h1
  have ih:=zzR (ps:=q :: t) (fun x hx=>hV x (List.mem_cons_of_mem _ hx)) h2
  refine List.Pairwise.cons (fun x hx=>?_) ih
  rcases List.mem_cons.1 hx with rfl | hx
  ·exact h1
  ·exact (zbF cs).trans (hV p (by simp)) (hV q (by simp)) (hV x (by simp [hx])) h1 ((List.pairwise_cons.1 ih).1 x hx)
theorem zx0 {cs:List ColB}:∀ {ps:List PairB},Z.srt (cmpR cs) ps->btAsc (ltE cs) (zbC ps)=true
 | [],_=>rfl
 | [p],_=>rfl
 | p :: q :: t,h=>by
  obtain ⟨h1,h2⟩:=List.pairwise_cons.1 h
  rw [zd5,zd5,btAsc,Bool.and_eq_true,zDS]
  exact ⟨decide_eq_true (h1 q (by simp)),zx0 (ps:=q :: t) h2⟩
theorem zzK {k:Nat} {ps:List PairB} {c:Ce} (h:c ∈ btCol k (zbC ps)):∃ p ∈ ps,c=(cesL p.1).getD k (0,[]):=by
 unfold btCol zbC at h;rw [List.map_map] at h;obtain ⟨p,hp,rfl⟩:=List.mem_map.1 h;exact ⟨p,hp,rfl⟩
theorem zyI {k:Nat} {ps:List PairB} {p:PairB} (h:p ∈ ps):(cesL p.1).getD k (0,[]) ∈ btCol k (zbC ps):=by
 unfold btCol zbC;rw [List.map_map];exact List.mem_map.2 ⟨p,h,rfl⟩
theorem zx1 {cs:List ColB} {ps:List PairB} (hP:PSO ps) (h:chkZ cs ps=0):PsOk cs ps/\BtOk (ltE cs) (kindsL cs) (psL ps):=by
 obtain ⟨hS,hn,hs⟩:=(zb2 hP).1 h;have hw:∀ p ∈ ps,p.1.length=cs.length:=fun p hp=>(zaO (hs.all p hp).1).2.1
 have hf:zqL (kindsL cs) 0 (zbC ps):=fun i kd hi=>⟨zBC hS hi,fun c hc=>by
  rw [Nat.zero_add] at hc
  obtain ⟨p,hp,rfl⟩:=zzK hc
  exact zx8 (hs.all p hp).1 (hs.all p hp).2 hi⟩
 have hc8:cs.length<=8:=by have:=(zaM hS).2.1;rw [za4] at this;exact this
 refine ⟨⟨hc8,hn,hw,hf⟩,⟨?_,?_,?_,?_,?_⟩⟩
 ·rw [zeJ];exact hf
 ·intro q hq;obtain ⟨p,hp,rfl⟩:=List.mem_map.1 hq;show (cesL p.1).length=_;rw [za8,hw p hp];unfold kindsL;rw [List.length_map]
 ·intro q hq;obtain ⟨p,hp,rfl⟩:=List.mem_map.1 hq;exact ⟨hs.nz p hp,(hP p hp).2⟩
 ·rw [zeK];exact hn
 rw [zeJ];exact zx0 hs.srt
theorem zFB {cs:List ColB} {ps:List PairB} (hP:PSO ps) (hS:errS (colsL cs)=0) (h:BtOk (ltE cs) (kindsL cs) (psL ps)):chkZ cs ps=0:=by
 have hV:∀ p ∈ ps,Vr cs p.1:=fun p hp=>by
  have hq:(cesL p.1,p.2) ∈ psL ps:=List.mem_map.2 ⟨p,hp,rfl⟩;refine ⟨zE4 hS ?_ (fun i kd hi=>?_),(hP p hp).1⟩
  ·have:=h.wide _ hq;rw [za8] at this;rw [this];unfold kindsL;rw [List.length_map]
  have:=(h.fit i kd hi).2;rw [zeJ,Nat.zero_add] at this;exact this _ (zyI hp)
 refine (zb2 hP).2 ⟨hS,by have:=h.few;rw [zeK] at this;exact this,?_,hV,fun p hp=>?_⟩
 ·have:=h.asc;rw [zeJ] at this;exact zzR hV this
 have hq:(cesL p.1,p.2) ∈ psL ps:=List.mem_map.2 ⟨p,hp,rfl⟩;exact (h.wts _ hq).1
