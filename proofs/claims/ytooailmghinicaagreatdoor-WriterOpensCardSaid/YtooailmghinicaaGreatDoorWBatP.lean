/- -/
import Derived.Test.YtooailmghinicaaGreatDoorWColSh
set_option maxHeartbeats 16000000
set_option linter.unusedVariables false
set_option linter.unusedSimpArgs false
set_option maxRecDepth 1000000
namespace Go.Proofs.YtooailmghinicaaGreatDoor
open _root_.Go.Proofs.Tryz
open Go.RowKit
abbrev Bp:=List Ce × Int
def btCol (k:Nat) (a:List (List Ce)):List Ce:=a.map fun r=>r.getD k (0,[])
def zaH:List Int->Nat->List (List Ce)->Bs
 | [],_,_=>[]
 | kd :: r,k,a=>wrC kd (btCol k a) ++ zaH r (k + 1) a
def btWs:List Int->Bs
 | []=>[]
 | x :: r=>encU (zig x) ++ btWs r
def btWr (kinds:List Int) (a:List Bp):Bs:=encU a.length ++ (zaH kinds 0 (a.map fun p=>p.1) ++ btWs (a.map fun p=>p.2))
def za3 (l:Bs) (n:Int):List Int->Nat->List (List Ce) × Nat × Nat
 | [],k=>([],k,0)
 | kd :: r,k =>
  if (rdK l kd n k).2.2≠0 then ([],(rdK l kd n k).2.1,(rdK l kd n k).2.2)
  else if (za3 l n r (rdK l kd n k).2.1).2.2≠0 then ([],(za3 l n r (rdK l kd n k).2.1).2.1,(za3 l n r (rdK l kd n k).2.1).2.2)
  else ((rdK l kd n k).1 :: (za3 l n r (rdK l kd n k).2.1).1,(za3 l n r (rdK l kd n k).2.1).2.1,0)
def zaB (l:Bs):Nat->Nat->List Int × Nat × Nat
 | 0,k=>([],k,0)
 | m + 1,k =>
  if (rdU l k 18446744073709551615).2.2≠0 then ([],(rdU l k 18446744073709551615).2.1,(rdU l k 18446744073709551615).2.2)
  else if zag (rdU l k 18446744073709551615).1=0 then ([],(rdU l k 18446744073709551615).2.1,2)
  else if (zaB l m (rdU l k 18446744073709551615).2.1).2.2≠0 then ([],(zaB l m (rdU l k 18446744073709551615).2.1).2.1,(zaB l m (rdU l k 18446744073709551615).2.1).2.2)
  else (zag (rdU l k 18446744073709551615).1 :: (zaB l m (rdU l k 18446744073709551615).2.1).1,(zaB l m (rdU l k 18446744073709551615).2.1).2.1,0)
def btRows (n:Nat) (cols:List (List Ce)):List (List Ce):=(List.range n).map fun i=>cols.map fun c=>c.getD i (0,[])
def btAsc (lt:List Ce->List Ce->Bool):List (List Ce)->Bool
 | []=>true
 | [_]=>true
 | a :: b :: r=>lt a b && btAsc lt (b :: r)
def btRd (lt:List Ce->List Ce->Bool) (l:Bs) (kinds:List Int) (k:Nat):List Bp × Nat × Nat :=
 if (rdU l k 1024).2.2≠0 then ([],(rdU l k 1024).2.1,(rdU l k 1024).2.2)
 else if (za3 l (rdU l k 1024).1 kinds (rdU l k 1024).2.1).2.2≠0 then ([],(za3 l (rdU l k 1024).1 kinds (rdU l k 1024).2.1).2.1,(za3 l (rdU l k 1024).1 kinds (rdU l k 1024).2.1).2.2)
 else if (zaB l (rdU l k 1024).1 (za3 l (rdU l k 1024).1 kinds (rdU l k 1024).2.1).2.1).2.2≠0 then ([],(zaB l (rdU l k 1024).1 (za3 l (rdU l k 1024).1 kinds (rdU l k 1024).2.1).2.1).2.1,(zaB l (rdU l k 1024).1 (za3 l (rdU l k 1024).1 kinds (rdU l k 1024).2.1).2.1).2.2)
 else if btAsc lt (btRows (rdU l k 1024).1 (za3 l (rdU l k 1024).1 kinds (rdU l k 1024).2.1).1)=false then ([],(zaB l (rdU l k 1024).1 (za3 l (rdU l k 1024).1 kinds (rdU l k 1024).2.1).2.1).2.1,9)
 else ((btRows (rdU l k 1024).1 (za3 l (rdU l k 1024).1 kinds (rdU l k 1024).2.1).1).zip (zaB l (rdU l k 1024).1 (za3 l (rdU l k 1024).1 kinds (rdU l k 1024).2.1).2.1).1,(zaB l (rdU l k 1024).1 (za3 l (rdU l k 1024).1 kinds (rdU l k 1024).2.1).2.1).2.1,0)
theorem zd4 (k:Nat) (a:List (List Ce)):(btCol k a).length=a.length:=by unfold btCol;rw [List.length_map]
def BtFit (kinds:List Int) (k:Nat) (a:List (List Ce)):Prop:=∀ i kd,kinds[i]?=some kd->(0<=kd/\kd<=5)/\∀ c ∈ btCol (k + i) a,Fit kd c
theorem BtFit.cons {kd:Int} {r:List Int} {k:Nat} {a:List (List Ce)} (h:BtFit (kd :: r) k a):((0<=kd/\kd<=5)/\∀ c ∈ btCol k a,Fit kd c)/\BtFit r (k + 1) a:=by
 refine ⟨by simpa using h 0 kd rfl,fun i x hx=>?_⟩;have:=h (i + 1) x (by simpa using hx);rw [show k + 1 + i=k + (i + 1) from by omega];exact this
theorem zhU (l m:Bs) (a:List (List Ce)) (hn:a.length<=1024):∀ (kinds:List Int) (j k:Nat),BtFit kinds j a->l.drop k=zaH kinds j a ++ m ->
  za3 l a.length kinds k=((List.range kinds.length).map (fun i=>btCol (j + i) a),k + (zaH kinds j a).length,0)
 | [],j,k,h,hd=>by simp [za3,zaH]
 | kd :: r,j,k,h,hd=>by
  obtain ⟨⟨h1,h2⟩,h3⟩:=h.cons
  rw [zaH,List.append_assoc] at hd
  have hp:=rdK_put (l:=l) (m:=zaH r (j + 1) a ++ m) (k:=k) h1 h2 (by rw [zd4];exact hn) hd
  rw [zd4] at hp
  have hd2:=zf1 hd
  have ih:=zhU l m a hn r (j + 1) _ h3 hd2
  rw [za3,hp]
  dsimp only
  rw [ih,if_neg (by simp),if_neg (by simp)]
  rw [List.length_cons,List.range_succ_eq_map,List.map_cons,List.map_map,zaH,List.length_append]
  refine Prod.ext ?_ (Prod.ext (by dsimp only;omega) rfl)
  dsimp only
  rw [Nat.add_zero]
  congr 1
  refine List.map_congr_left fun i _=>?_
  simp only [Function.comp]
  rw [show j + 1 + i=j + (i + 1) from by omega]
theorem zfD (l:Bs) (n:Int):∀ (kinds:List Int) (k:Nat),k<=l.length->(za3 l n kinds k).2.1<=l.length
 | [],k,h=>h
 | kd :: r,k,h=>by
  have h1:=rdK_place (l:=l) (kind:=kd) (n:=n) h
  have ih:=zfD l n r _ h1
  rw [za3]
  split
  ·exact h1
  ·split
   ·exact ih
   ·exact ih
theorem zhX (l:Bs) (n:Nat) (a:List (List Ce)):∀ (kinds:List Int) (j k:Nat),k<=l.length->(za3 l n kinds k).2.2=0->(∀ i c,(za3 l n kinds k).1[i]?=some c->btCol (j + i) a=c) ->
  l.take (za3 l n kinds k).2.1=l.take k ++ zaH kinds j a/\(za3 l n kinds k).2.1<=l.length/\(za3 l n kinds k).1.length=kinds.length
 | [],j,k,hk,h,ha=>by simp [za3,zaH,hk]
 | kd :: r,j,k,hk,h,ha=>by
  rw [za3] at h ha ⊢
  by_cases h1:(rdK l kd n k).2.2=0
  ·rw [if_neg (fun hh=>hh h1)] at h ha ⊢
   obtain ⟨e1,e2,_,_,_,_⟩:=rdK_enc hk h1
   by_cases h2:(za3 l n r (rdK l kd n k).2.1).2.2=0
   ·rw [if_neg (fun hh=>hh h2)] at ha ⊢
    have hc:=ha 0 _ rfl
    rw [Nat.add_zero] at hc
    obtain ⟨i1,i2,i3⟩:=zhX l n a r (j + 1) _ e2 h2 (fun i c hi=>by
     have:=ha (i + 1) c (by simpa using hi)
     rw [show j + 1 + i=j + (i + 1) from by omega]
     exact this)
    refine ⟨?_,i2,by simp [i3]⟩
    dsimp only
    rw [i1,e1,zaH,hc,List.append_assoc]
   ·rw [if_pos h2] at h;exact absurd h h2
  ·rw [if_pos h1] at h;exact absurd h h1
theorem zhV (l:Bs) (n:Int):∀ (kinds:List Int) (k:Nat),(za3 l n kinds k).2.2=0->(za3 l n kinds k).1.length=kinds.length
 | [],k,h=>rfl
 | kd :: r,k,h=>by
  rw [za3] at h ⊢
  by_cases h1:(rdK l kd n k).2.2=0
  ·rw [if_neg (fun hh=>hh h1)] at h ⊢
   by_cases h2:(za3 l n r (rdK l kd n k).2.1).2.2=0
   ·rw [if_neg (fun hh=>hh h2)]
    simp [zhV l n r _ h2]
   ·rw [if_pos h2] at h;exact absurd h h2
  ·rw [if_pos h1] at h;exact absurd h h1
theorem zhW (l:Bs) (n:Nat):∀ (kinds:List Int) (k:Nat),k<=l.length->(za3 l n kinds k).2.2=0 ->
  ∀ (i:Nat) (kd:Int),kinds[i]?=some kd->(0<=kd/\kd<=5)/\∃ c:List Ce,(za3 l n kinds k).1[i]?=some c/\c.length=n/\∀ x ∈ c,Fit kd x
 | [],k,hk,h,i,kd,hi=>by simp at hi
 | kd :: r,k,hk,h,i,kx,hi=>by
  rw [za3] at h ⊢
  by_cases h1:(rdK l kd n k).2.2=0
  ·rw [if_neg (fun hh=>hh h1)] at h ⊢
   obtain ⟨_,e2,e3,e4,e5,_⟩:=rdK_enc hk h1
   by_cases h2:(za3 l n r (rdK l kd n k).2.1).2.2=0
   ·rw [if_neg (fun hh=>hh h2)]
    cases i with
    | zero =>
     obtain rfl:kd=kx:=by simpa using hi
     exact ⟨e3,_,rfl,by omega,e4⟩
    | succ i =>
     obtain ⟨f1,c,f2,f3⟩:=zhW l n r _ e2 h2 i kx (by simpa using hi)
     exact ⟨f1,c,by simpa using f2,f3⟩
   ·rw [if_pos h2] at h;exact absurd h h2
  ·rw [if_pos h1] at h;exact absurd h h1
def WtOk (x:Int):Prop:=x≠0/\-9223372036854775808<=x/\x<=9223372036854775807
theorem btRdWs_put (l m:Bs):∀ (ws:List Int) (k:Nat),(∀ x ∈ ws,WtOk x)->l.drop k=btWs ws ++ m->zaB l ws.length k=(ws,k + (btWs ws).length,0)
 | [],k,h,hd=>by simp [zaB,btWs]
 | x :: r,k,h,hd=>by
  obtain ⟨h0,h1,h2⟩:=h x (by simp)
  rw [btWs,List.append_assoc] at hd
  have hz:=zeG x h1 h2
  have hp:=zh5 (most:=18446744073709551615) hd (by omega) (by omega)
  have ih:=btRdWs_put l m r _ (fun y hy=>h y (by simp [hy])) (zf1 hd)
  rw [List.length_cons,zaB,hp]
  dsimp only
  rw [ih,if_neg (by simp),zag_zig,if_neg h0,if_neg (by simp),btWs,List.length_append]
  refine Prod.ext rfl (Prod.ext (by dsimp only;omega) rfl)
theorem zhT (l:Bs):∀ (m k:Nat),k<=l.length->(zaB l m k).2.1<=l.length
 | 0,k,h=>h
 | m + 1,k,h=>by
  have h1:=zh4 (most:=18446744073709551615) h
  have ih:=zhT l m _ h1
  rw [zaB]
  split
  ·exact h1
  ·split
   ·exact h1
   ·split
    ·exact ih
    ·exact ih
theorem ziS {y:Nat} (h:y < 18446744073709551616):-9223372036854775808<=zag y/\zag y<=9223372036854775807:=by
 unfold zag;split <;> omega
theorem btRdWs_enc (l:Bs):∀ (m k:Nat),k<=l.length->(zaB l m k).2.2=0 ->
  l.take (zaB l m k).2.1=l.take k ++ btWs (zaB l m k).1/\(zaB l m k).2.1<=l.length/\(zaB l m k).1.length=m/\∀ x ∈ (zaB l m k).1,WtOk x
 | 0,k,hk,h=>by simp [zaB,btWs,hk]
 | m + 1,k,hk,h=>by
  rw [zaB] at h ⊢
  by_cases h1:(rdU l k 18446744073709551615).2.2=0
  ·rw [if_neg (fun hh=>hh h1)] at h ⊢
   obtain ⟨a1,a2,a3⟩:=zc1 hk h1
   by_cases h0:zag (rdU l k 18446744073709551615).1=0
   ·rw [if_pos h0] at h;cases h
   ·rw [if_neg h0] at h ⊢
    by_cases h2:(zaB l m (rdU l k 18446744073709551615).2.1).2.2=0
    ·rw [if_neg (fun hh=>hh h2)]
     obtain ⟨i1,i2,i3,i4⟩:=btRdWs_enc l m _ a2 h2
     refine ⟨?_,i2,by simp [i3],fun x hx=>?_⟩
     ·dsimp only
      rw [i1,a1,btWs,zig_zag _ ,List.append_assoc]
     ·rcases List.mem_cons.1 hx with rfl | hx
      ·exact ⟨h0,ziS (by omega)⟩
      ·exact i4 x hx
    ·rw [if_pos h2] at h;exact absurd h h2
  ·rw [if_pos h1] at h;exact absurd h h1
theorem getD_self (r:List Ce):(List.range r.length).map (fun j=>r.getD j (0,[]))=r:=by
 apply List.ext_getElem
 ·simp
 intro i h1 h2;simp [List.getD,h2]
theorem zcH (n:Nat) (cols:List (List Ce)):(btRows n cols).length=n:=by unfold btRows;simp
theorem btRows_wide (n:Nat) (cols:List (List Ce)):∀ r ∈ btRows n cols,r.length=cols.length:=by
 intro r hr;unfold btRows at hr;obtain ⟨i,_,rfl⟩:=List.mem_map.1 hr;simp
theorem btRows_cols (K:Nat) (rows:List (List Ce)) (h:∀ r ∈ rows,r.length=K):btRows rows.length ((List.range K).map fun i=>btCol (0 + i) rows)=rows:=by
 unfold btRows;apply List.ext_getElem
 ·simp
 intro i h1 h2;rw [List.getElem_map,List.getElem_range,List.map_map];have hk:=h _ (List.getElem_mem h2)
 rw [show (List.range K).map ((fun c=>List.getD c i (0,[])) ∘ fun j=>btCol (0 + j) rows)=(List.range K).map (fun j=>(rows[i]).getD j (0,[])) from by
  refine List.map_congr_left fun j _=>?_
  simp only [Function.comp,Nat.zero_add]
  unfold btCol
  simp [List.getD,h2]]
 rw [<- hk];exact getD_self _
theorem btCol_rows {n i:Nat} {cols:List (List Ce)} {c:List Ce} (h:cols[i]?=some c) (hc:c.length=n):btCol i (btRows n cols)=c:=by
 unfold btCol btRows;rw [List.map_map];subst hc
 rw [show (List.range c.length).map ((fun r=>List.getD r i (0,[])) ∘ fun q=>cols.map fun x=>List.getD x q (0,[]))=(List.range c.length).map (fun q=>c.getD q (0,[])) from by
  refine List.map_congr_left fun q _=>?_
  simp [Function.comp,List.getD,h]]
 exact getD_self c
theorem zip_back:∀ (a:List Bp),(a.map fun p=>p.1).zip (a.map fun p=>p.2)=a
 | []=>rfl
 | p :: r=>by rw [List.map_cons,List.map_cons,List.zip_cons_cons,zip_back r]
theorem zip_fst:∀ (a:List (List Ce)) (b:List Int),a.length=b.length->(a.zip b).map (fun p=>p.1)=a
 | [],[],_=>rfl
 | [],_ :: _,h=>by simp at h
 | _ :: _,[],h=>by simp at h
 | x :: r,y :: s,h=>by rw [List.zip_cons_cons,List.map_cons,zip_fst r s (by simpa using h)]
theorem zip_snd:∀ (a:List (List Ce)) (b:List Int),a.length=b.length->(a.zip b).map (fun p=>p.2)=b
 | [],[],_=>rfl
 | [],_ :: _,h=>by simp at h
 | _ :: _,[],h=>by simp at h
 | x :: r,y :: s,h=>by rw [List.zip_cons_cons,List.map_cons,zip_snd r s (by simpa using h)]
structure BtOk (lt:List Ce->List Ce->Bool) (kinds:List Int) (a:List Bp):Prop where
 fit:BtFit kinds 0 (a.map fun p=>p.1)
 wide:∀ p ∈ a,p.1.length=kinds.length
 wts:∀ p ∈ a,WtOk p.2
 few:a.length<=1024
 asc:btAsc lt (a.map fun p=>p.1)=true
theorem btRd_put {lt:List Ce->List Ce->Bool} {l m:Bs} {kinds:List Int} {a:List Bp} {k:Nat} (h:BtOk lt kinds a) (hd:l.drop k=btWr kinds a ++ m):btRd lt l kinds k=(a,k + (btWr kinds a).length,0):=by
 have hfew:=h.few;unfold btWr at hd ⊢;rw [List.append_assoc,List.append_assoc] at hd;have h1:=zh5 (most:=1024) hd (by omega) h.few;have hd2:=zf1 hd;have hlf:(a.map fun p=>p.1).length=a.length:=List.length_map ..;have hls:(a.map fun p=>p.2).length=a.length:=List.length_map ..;have h2:=zhU l (btWs (a.map fun p=>p.2) ++ m) (a.map fun p=>p.1) (by rw [hlf];exact h.few) kinds 0 _ h.fit hd2;have hd3:=zf1 hd2;have h3:=btRdWs_put l m (a.map fun p=>p.2) _ (fun x hx=>by obtain ⟨p,hp,rfl⟩:=List.mem_map.1 hx;exact h.wts p hp) hd3;have h4:=btRows_cols kinds.length (a.map fun p=>p.1) (fun r hr=>by obtain ⟨p,hp,rfl⟩:=List.mem_map.1 hr;exact h.wide p hp);rw [hlf] at h2 h4;rw [hls] at h3;unfold btRd;rw [h1];dsimp only;rw [h2];dsimp only;rw [h3];dsimp only;rw [h4,if_neg (by simp),if_neg (by simp),if_neg (by simp),h.asc,if_neg (by decide),zip_back];rw [List.length_append,List.length_append];refine Prod.ext rfl (Prod.ext (by dsimp only;omega) rfl)
theorem btRd_place {lt:List Ce->List Ce->Bool} {l:Bs} {kinds:List Int} {k:Nat} (hk:k<=l.length):(btRd lt l kinds k).2.1<=l.length:=by
 have h1:=zh4 (most:=1024) hk;have h2:=zfD l (rdU l k 1024).1 kinds _ h1;have h3:=zhT l (rdU l k 1024).1 _ h2;unfold btRd;split
 ·exact h1
 split
 ·exact h2
 split
 ·exact h3
 split
 ·exact h3
 exact h3
theorem btRd_enc {lt:List Ce->List Ce->Bool} {l:Bs} {kinds:List Int} {k:Nat} (hk:k<=l.length) (h:(btRd lt l kinds k).2.2=0) :
  l.take (btRd lt l kinds k).2.1=l.take k ++ btWr kinds (btRd lt l kinds k).1/\(btRd lt l kinds k).2.1<=l.length/\BtOk lt kinds (btRd lt l kinds k).1:=by
 have hpl:=btRd_place (lt:=lt) (kinds:=kinds) hk;unfold btRd at h ⊢;by_cases h1:(rdU l k 1024).2.2=0
 ·obtain ⟨a1,a2,a3⟩:=zc1 hk h1;rw [if_neg (fun hh=>hh h1)] at h ⊢;generalize hn:(rdU l k 1024).1=n at *;generalize hk1:(rdU l k 1024).2.1=k1 at *;by_cases h2:(za3 l n kinds k1).2.2=0
  ·rw [if_neg (fun hh=>hh h2)] at h ⊢;have hfit:=zhW l n kinds k1 a2 h2
   have henc:=zhX l n (btRows n (za3 l n kinds k1).1) kinds 0 k1 a2 h2 (fun i c hi=>by
    rw [Nat.zero_add]
    have hlen:i < kinds.length:=by
     have hl:=(List.getElem?_eq_some_iff.1 hi).1
     have:=(zhV l n kinds k1 h2)
     omega
    obtain ⟨_,c',hc',hcl,_⟩:=hfit i kinds[i] (by simp [hlen])
    rw [hi] at hc'
    injection hc' with hc'
    subst hc'
    exact btCol_rows hi hcl)
   obtain ⟨b1,b2,b3⟩:=henc;by_cases h3:(zaB l n (za3 l n kinds k1).2.1).2.2=0
   ·rw [if_neg (fun hh=>hh h3)] at h ⊢;obtain ⟨c1,c2,c3,c4⟩:=btRdWs_enc l n _ b2 h3;cases has:btAsc lt (btRows n (za3 l n kinds k1).1) with
    | false=>rw [if_pos has] at h;cases h
    | true =>
     rw [if_neg (by simp)];have hzl:(btRows n (za3 l n kinds k1).1).length=(zaB l n (za3 l n kinds k1).2.1).1.length:=(by rw [zcH,c3]);have hf:=zip_fst _ _ hzl;have hs:=zip_snd _ _ hzl;have hal:((btRows n (za3 l n kinds k1).1).zip (zaB l n (za3 l n kinds k1).2.1).1).length=n:=by
      rw [List.length_zip,zcH,c3];omega
     refine ⟨?_,c2,⟨?_,?_,?_,by rw [hal];exact a3,by rw [hf];exact has⟩⟩
     ·unfold btWr;dsimp only;rw [hf,hs,hal,c1,b1,a1];simp only [List.append_assoc]
     ·rw [hf];intro i kd hi;obtain ⟨g1,c,g2,g3,g4⟩:=hfit i kd hi;refine ⟨g1,?_⟩;rw [Nat.zero_add,btCol_rows g2 g3];exact g4
     ·intro p hp;have hm:p.1 ∈ btRows n (za3 l n kinds k1).1:=(by rw [<- hf];exact List.mem_map.2 ⟨p,hp,rfl⟩);rw [btRows_wide _ _ _ hm,b3]
     intro p hp;have hm:p.2 ∈ (zaB l n (za3 l n kinds k1).2.1).1:=by
      have:p.2 ∈ ((btRows n (za3 l n kinds k1).1).zip (zaB l n (za3 l n kinds k1).2.1).1).map (fun p=>p.2):=List.mem_map.2 ⟨p,hp,rfl⟩;rw [hs] at this;exact this
     exact c4 _ hm
   rw [if_pos h3] at h;exact absurd h h3
  rw [if_pos h2] at h;exact absurd h h2
 rw [if_pos h1] at h;exact absurd h h1
def zkU (rows:List (List Ce)):Nat:=match rows with
 | []=>0
 | r :: t=>sumT r + zkU t
def zd8:Nat->Nat->List (List Ce)->Nat
 | 0,_,_=>0
 | K + 1,j,rows=>sumT (btCol j rows) + zd8 K (j + 1) rows
def btRowT:Nat->Nat->List Ce->Nat
 | 0,_,_=>0
 | K + 1,j,r=>(r.getD j (0,[])).2.length + btRowT K (j + 1) r
theorem zkY:∀ (K j:Nat),zd8 K j []=0
 | 0,j=>rfl
 | K + 1,j=>by rw [zd8,zkY K (j + 1)];rfl
theorem zhZ:∀ (K j:Nat) (r:List Ce) (t:List (List Ce)),zd8 K j (r :: t)=btRowT K j r + zd8 K j t
 | 0,j,r,t=>rfl
 | K + 1,j,r,t=>by
  rw [zd8,zhZ K (j + 1) r t,btRowT,zd8]
  show (r.getD j (0,[])).2.length + sumT (btCol j t) + _=_
  omega
theorem zkV:∀ (K j:Nat) (r:List Ce),r.length=j + K->btRowT K j r=sumT (r.drop j)
 | 0,j,r,h=>by rw [btRowT,List.drop_of_length_le (by omega)];rfl
 | K + 1,j,r,h=>by
  have hj:j < r.length:=by omega
  rw [btRowT,zkV K (j + 1) r (by omega),List.drop_eq_getElem_cons hj,sumT]
  simp [List.getD,hj]
theorem zhY:∀ (K:Nat) (rows:List (List Ce)),(∀ r ∈ rows,r.length=K)->zd8 K 0 rows=zkU rows
 | K,[],h=>by rw [zkY];rfl
 | K,r :: t,h=>by
  rw [zhZ,zhY K t (fun x hx=>h x (by simp [hx])),zkV K 0 r (by rw [h r (by simp)];omega),List.drop_zero]
  rfl
theorem btCols_le:∀ (kinds:List Int) (j:Nat) (rows:List (List Ce)),BtFit kinds j rows->(zaH kinds j rows).length<=10 * rows.length * kinds.length + zd8 kinds.length j rows
 | [],j,rows,h=>by simp [zaH]
 | kd :: r,j,rows,h=>by
  obtain ⟨⟨_,h2⟩,h3⟩:=h.cons
  have h1:=wrC_le h2
  have ih:=btCols_le r (j + 1) rows h3
  rw [zd4] at h1
  rw [zaH,List.length_append,List.length_cons,zd8,Nat.mul_add]
  omega
theorem btWs_le:∀ (ws:List Int),(∀ x ∈ ws,WtOk x)->(btWs ws).length<=10 * ws.length
 | [],_=>by simp [btWs]
 | x :: r,h=>by
  obtain ⟨_,h1,h2⟩:=h x (by simp)
  have:=zaA (zig x) (zeG x h1 h2)
  have ih:=btWs_le r (fun y hy=>h y (by simp [hy]))
  rw [btWs,List.length_append,List.length_cons];omega
theorem btWr_le {lt:List Ce->List Ce->Bool} {kinds:List Int} {a:List Bp} (h:BtOk lt kinds a):(btWr kinds a).length<=12 + 10 * a.length * (kinds.length + 1) + zkU (a.map fun p=>p.1):=by
 have hfew:=h.few;have h1:=zaA a.length (by omega);have h2:=btCols_le kinds 0 (a.map fun p=>p.1) h.fit;have h3:=btWs_le (a.map fun p=>p.2) (fun x hx=>by obtain ⟨p,hp,rfl⟩:=List.mem_map.1 hx;exact h.wts p hp);rw [zhY kinds.length (a.map fun p=>p.1) (fun r hr=>by obtain ⟨p,hp,rfl⟩:=List.mem_map.1 hr;exact h.wide p hp)] at h2;rw [List.length_map] at h2 h3;unfold btWr;rw [List.length_append,List.length_append,Nat.mul_add,Nat.mul_one];omega
/- -/
def kindsL (cs:List ColB):List Int:=cs.map fun c=>c.2
def zaS (ps:List PairB):List (List Ce):=ps.map fun p=>cesL p.1
def psL (ps:List PairB):List Bp:=ps.map fun p=>(cesL p.1,p.2)
theorem zdX (ps:List PairB):(psL ps).map (fun p=>p.1)=zaS ps:=by unfold psL zaS;rw [List.map_map];rfl
theorem psL_wts (ps:List PairB):(psL ps).map (fun p=>p.2)=ps.map (fun p=>p.2):=by unfold psL;rw [List.map_map];rfl
theorem zdE (ps:List PairB):(psL ps).length=ps.length:=by unfold psL;rw [List.length_map]
theorem rowsL_length (ps:List PairB):(zaS ps).length=ps.length:=by unfold zaS;rw [List.length_map]
def colB (k:Nat) (ps:List PairB):List CellB:=ps.map fun p=>p.1.getD k default
theorem zbJ (k:Nat) (ps:List PairB):(colB k ps).length=ps.length:=by unfold colB;rw [List.length_map]
theorem colB_take {k i:Nat} {ps:List PairB} (hi:i < ps.length):colB k (ps.take (i + 1))=colB k (ps.take i) ++ [(ps.getD i default).1.getD k default]:=by
 unfold colB;rw [zaF hi default,List.map_append];rfl
theorem cesL_colB {k:Nat} {ps:List PairB} (h:∀ p ∈ ps,k < p.1.length):cesL (colB k ps)=btCol k (zaS ps):=by
 unfold cesL colB btCol zaS;rw [List.map_map,List.map_map];refine List.map_congr_left fun p hp=>?_;have hk:=h p hp;simp only [Function.comp];unfold cesL;simp [List.getD,hk]
theorem colB_ces {k:Nat} {ps:List PairB} (hP:PSO ps) (h:∀ p ∈ ps,k < p.1.length):CES (colB k ps):=by
 intro c hc;obtain ⟨p,hp,rfl⟩:=List.mem_map.1 hc;exact (hP p hp).1.get (h p hp)
theorem zcU (a:List (List Ce)):∀ (ks:List Int) (j:Nat) (kd:Int),zaH (ks ++ [kd]) j a=zaH ks j a ++ wrC kd (btCol (j + ks.length) a)
 | [],j,kd=>by simp [zaH]
 | x :: r,j,kd=>by
  rw [List.cons_append,zaH,zcU a r (j + 1) kd,zaH,List.length_cons,List.append_assoc]
  rw [show j + 1 + r.length=j + (r.length + 1) from by omega]
theorem zeV:∀ (ws:List Int) (x:Int),btWs (ws ++ [x])=btWs ws ++ encU (zig x)
 | [],x=>by simp [btWs]
 | y :: r,x=>by rw [List.cons_append,btWs,zeV r x,btWs,List.append_assoc]
structure PsOk (cs:List ColB) (ps:List PairB):Prop where
 cols:cs.length<=8
 few:ps.length<=1024
 wide:∀ p ∈ ps,p.1.length=cs.length
 fit:BtFit (kindsL cs) 0 (zaS ps)
theorem PsOk.col {cs:List ColB} {ps:List PairB} (h:PsOk cs ps) {k:Nat} (hk:k < cs.length):(0<=(cs.getD k default).2/\(cs.getD k default).2<=5)/\(∀ c ∈ btCol k (zaS ps),Fit (cs.getD k default).2 c)/\(wrC (cs.getD k default).2 (btCol k (zaS ps))).length<=272384:=by
 have e:(kindsL cs)[k]?=some (cs.getD k default).2:=by unfold kindsL;simp [List.getD,hk]
 obtain ⟨h1,h2⟩:=h.fit k _ e;rw [Nat.zero_add] at h2;refine ⟨h1,h2,?_⟩;have h3:=wrC_le h2;have h4:sumT (btCol k (zaS ps))<=256 * (btCol k (zaS ps)).length:=by
  generalize btCol k (zaS ps)=l at h2;clear h3
  induction l with
  | nil=>simp [sumT]
  | cons c r ih =>
   have i1:=ih (fun x hx=>h2 x (by simp [hx]));have i2:=h2 c (by simp);have i3:c.2.length<=256:=by
    by_cases ht:(cs.getD k default).2=3∨(cs.getD k default).2=4
    ·exact (i2.text ht).2.1
    rw [(i2.num ht).1];simp
   rw [sumT,List.length_cons];omega
 rw [zd4,rowsL_length] at h3 h4;have:=h.few;omega
theorem ref_Write10 (sv av:Value) (cs:List ColB) (ps:List PairB) (w:World) (hR:RdC w sv cs) (hP:RdP w av ps) (hC:CS cs) (hPS:PSO ps) (ck:Nat)
  (hCk:∀ wz,Below w.heap.size w wz->Calls prog 127 #[sv,av] wz fun e w'=>e=.returned (.int .i64 (ck:Int))/\Below wz.heap.size wz w') (hOk:ck=0->PsOk cs ps) :
  Calls prog 131 #[sv,av] w fun e w'=>∃ b,e=.returned (.tuple #[b,.int .i64 (ck:Int)])/\Own w' w.heap.size b (if ck=0 then btWr (kindsL cs) (psL ps) else [])/\Below w.heap.size w w':=by
 have HCk:=h_ (hCk w (Below.refl _ _));by_cases h0:ck=0
 ·subst h0;rw [if_pos rfl];have hok:=hOk rfl;have hfew:=hok.few;have hcols:=hok.cols;have hln:=hP.len;have hlc:=hR.len;obtain ⟨n,hn⟩:=nm_ ps.length;obtain ⟨K,hK⟩:=nm_ cs.length;rw [<- hn] at hln hfew;rw [<- hK] at hlc hcols;have HN:=h_ hn;have HK:=h_ hK;have HOK:=h_ hok;have HR:=h_ hR;have HP:=h_ hP;have HC:=h_ hC;have HPS:=h_ hPS;clear hR hP hC hPS hCk hOk hok hn hK;go_enter func131,ntmps131;go_wp2_with fail;refine HCk.mono ?_;rintro e w1 ⟨rfl,hb⟩;have HB1:=h_ hb;clear hb HCk;go_wp2_with fail;refine (zcY (n:Int) (by omega) (by omega) w1).mono ?_;rintro e w2 ⟨ov,rfl,hO,hb⟩;rw [Int.toNat_natCast] at hO;have HB2:=bT HB1 hb;have HO2:=h_ (hO.base (base':=w.heap.size) HB1.size);have hle0:=zaA n (by omega);clear hb hO HB1;go_wp2;go_loopw [7,8] (fun b i wr=>∃ k:Nat,k<=K/\i=.int .i64 k/\Hid (Below w.heap.size w wr)/\Hid (Own wr w.heap.size b (encU n ++ zaH ((kindsL cs).take k) 0 (zaS ps)))/\Hid ((encU n ++ zaH ((kindsL cs).take k) 0 (zaS ps)).length<=10 + k * 272384)) (fun _ i _=>K - (intOf i).toNat)
  case atStart=>exact ⟨0,by omega,rfl,HB2,h_ (by rw [List.take_zero,zaH,List.append_nil];exact HO2.o),h_ (by rw [List.take_zero,zaH,List.append_nil];omega)⟩
  clear HB2 HO2;obtain ⟨k,hk,rfl,HB,HO,HL⟩:=hrel;by_cases hlt:k < K
  ·have hkc:k < cs.length:=(by rw [<- HK.o];exact hlt);have d1:decide ((k:Int) < (K:Int))=true:=decide_eq_true (by omega);obtain ⟨bo,hbo⟩:=nm_ wr.heap.size;have HBo:=h_ (show w.heap.size<=bo by rw [hbo];exact HB.size);have HQ7:=h_ (show ∀ q,u7.ownBlock=some q->q < bo from fun q hq=>by rw [hbo];exact (World.ownsRow.lt HO.o q hq).2);have HBs:=h_ (show bo<=wr.heap.size by omega);have HO':=h_ HO.o;have HKn:=h_ (show k < cs.length from hkc);clear hbo;go_wp2;go_loopw [9,10] (fun b i wi=>∃ j:Nat,j<=n/\i=.int .i64 j/\Hid (Below w.heap.size w wi)/\Hid (bo<=wi.heap.size)/\Hid (Own wi w.heap.size u7 (encU n ++ zaH ((kindsL cs).take k) 0 (zaS ps)))/\Hid (OwnE wi bo b (colB k (ps.take j)))) (fun _ i _=>n - (intOf i).toNat)
   case atStart=>exact ⟨0,by omega,rfl,HB,HBs,HO',h_ (OwnE.nil _ _)⟩
   clear HB HO HO' HBs;obtain ⟨j,hj,rfl,HB,HBs,HO,HE⟩:=hrel;by_cases hjn:j < n
   ·have hjp:j < ps.length:=(by rw [<- HN.o];exact hjn);have d2:decide ((j:Int) < (n:Int))=true:=decide_eq_true (by omega);have hr:=HP.later HB.o l_;obtain ⟨b,o,rv,hidx,hc0,hc1,hre,_⟩:=hr.get hjp;have hmem:ps.getD j default ∈ ps:=by
     have e:ps.getD j default=ps[j]:=(by simp [List.getD,hjp]);rw [e];exact List.getElem_mem _
    have hwd:=HOK.wide _ hmem;have hkw:k < (ps.getD j default).1.length:=(by rw [hwd];exact hkc);obtain ⟨b2,o2,hidx2,hcell2,_⟩:=hre.get hkw;obtain ⟨e0,e1⟩:=hcell2 _ hre;have hct:=colB_take (k:=k) hjp;rcases hcg:(ps.getD j default).1.getD k default with ⟨x,t⟩
    rw [hcg] at e0 e1 hct;dsimp only at e0 e1;have HCT:=h_ hct;have HB7:=h_ (show Below w.heap.size w (wr.alloc (.cells #[.int .u64 (x:Int),.string t] 57)) from HB.alloc HB.size _);have HE7:=h_ (HE.alloc (.cells #[.int .u64 (x:Int),.string t] 57));have HO7:=h_ (HO.alloc (.cells #[.int .u64 (x:Int),.string t] 57));have hs7:bo<=(wr.alloc (.cells #[.int .u64 (x:Int),.string t] 57)).heap.size:=(by rw [World.size_alloc];have:=HBs.o;omega);clear hct hcg hcell2 hre hr hwd hkw hmem;go_wp2_with (with_reducible refine zbU bo _ ?hsE HE7.o ⟨wr.heap.size,0,none⟩ (x,t) ?hxE (zc6 wr (x,t)) ?hnE hs7 w.heap.size w HB7.o HBo.o ?_)
    case hsE=>rfl
    case hxE=>rfl
    case hnE=>rw [zbJ,List.length_take];omega
    intro v8 w8 hE8 hB8 hg8;have HE8:=h_ (show OwnE w8 bo v8 (colB k (ps.take (j + 1))) from by rw [HCT.o];exact hE8);have HB8:=h_ hB8;have HO8:=h_ (HO7.grown9 hg8 (fun q h1 h2=>by have h3:=HQ7.o q h1;have h4:=(OwnE.lt HE7.o h2.symm).1;omega));have HBs8:=h_ (Nat.le_trans hs7 hg8.size);clear hE8 hB8 hg8 HB HO HE HBs HB7 HE7 HO7 hs7 hc0 hc1 e0 e1 hidx hidx2;go_wp2;go_roundw
    case rel=>exact ⟨j + 1,by omega,by go_num,HB8,HBs8,HO8,HE8⟩
    simp [intOf];omega
   obtain rfl:j=n:=(by omega);have d2:decide ((j:Int) < (j:Int))=false:=decide_eq_false (by omega);have htk:ps.take j=ps:=List.take_of_length_le (by rw [<- HN.o];exact l_);have hwd:∀ p ∈ ps,k < p.1.length:=fun p hp=>(by rw [HOK.wide p hp];exact hkc);have hcl:=cesL_colB hwd;obtain ⟨f1,f2,f3⟩:=HOK.col hkc;have hrc:=HR.later HB.o l_;obtain ⟨b,o,hidx,hcell,_⟩:=hrc.get hkc;obtain ⟨e0,e1⟩:=hcell _ hrc;rcases hcg:cs.getD k default with ⟨nm,kd⟩
   rw [hcg] at e0 e1 f1 f2 f3;dsimp only at e0 e1 f1 f2 f3;have hWE:wrE kd (cesL (colB k ps))=0:=by
    unfold wrE;rw [if_neg (by omega)];refine fit_errK (fun c hc=>?_);rw [hcl] at hc;exact f2 c hc
   have hsum:10 * (colB k ps).length + sumT (cesL (colB k ps))<=1000000:=by
    have h1:sumT (cesL (colB k ps))<=256 * (cesL (colB k ps)).length:=by
     rw [hcl];generalize btCol k (zaS ps)=l at f2;clear f3 hcl
     induction l with
     | nil=>simp [sumT]
     | cons c r ih =>
      have i1:=ih (fun x hx=>f2 x (by simp [hx]));have i2:=f2 c (by simp);have i3:c.2.length<=256:=by
       by_cases ht:kd=3∨kd=4
       ·exact (i2.text ht).2.1
       rw [(i2.num ht).1];simp
      rw [sumT,List.length_cons];omega
    rw [za6] at h1;rw [zbJ] at h1 ⊢;have:=HOK.few;omega
   have hE9:=HE.o;rw [htk] at hE9;have CW:=h_ (ref_Write09 u9 kd (colB k ps) wr (hE9.rd (by rw [zbJ,<- HN.o];omega)) (colB_ces HPS.o hwd) (by omega) hsum);have HWE:=h_ hWE;have HCL:=h_ hcl;have HF3:=h_ f3;have hkt:(kindsL cs).take (k + 1)=(kindsL cs).take k ++ [kd]:=by
    have hkl:k < (kindsL cs).length:=(by unfold kindsL;rw [List.length_map];exact hkc);rw [zaF hkl 0];unfold kindsL;simp [List.getD,hkc] at hcg ⊢;rw [hcg]
   have hkl2:((kindsL cs).take k).length=k:=(by rw [List.length_take];unfold kindsL;rw [List.length_map];omega);have HKT:=h_ hkt;have HKL:=h_ hkl2;clear hcl f1 f2 f3 hcg hWE hsum hE9 htk hwd hcell hrc hkt hkl2 hjn;go_wp2_with fail;refine CW.mono ?_;rintro e w3 ⟨bv,rfl,hOb,hb⟩;rw [HWE.o];rw [HWE.o,if_pos rfl,HCL.o] at hOb;have HB3:=bT HB hb;have HO3:=h_ (HO.later hb l_);have HRd3:=h_ (hOb.rd (by have:=HF3.o;omega));clear hb hOb CW HB HO HE HBs e0 e1 hidx;go_wp2_with (with_reducible refine wpl_append w.heap.size _ _ ?hsO HO3.o _ _ ?hxO HRd3.o ?hnO HB3.o.size w.heap.size w HB3.o l_ ?_)
   case hsO=>rfl
   case hxO=>rfl
   case hnO=>have:=HL.o;have:=HF3.o;omega
   intro v5 w5 hO5 hB5 hg5;have HB5:=h_ hB5;have HO5:=h_ (show Own w5 w.heap.size v5 (encU j ++ zaH ((kindsL cs).take (k + 1)) 0 (zaS ps)) from by rw [HKT.o,zcU,HKL.o,Nat.zero_add,<- List.append_assoc];exact hO5)
   have HL5:=h_ (show (encU j ++ zaH ((kindsL cs).take (k + 1)) 0 (zaS ps)).length<=10 + (k + 1) * 272384 from by
    have h1:=HL.o
    have h2:=HF3.o
    rw [HKT.o,zcU,HKL.o,Nat.zero_add,<- List.append_assoc,List.length_append]
    omega)
   clear hO5 hB5 hg5 HB3 HO3 HRd3;go_wp2;go_roundw
   case rel=>exact ⟨k + 1,by omega,by go_num,HB5,HO5,HL5⟩
   simp [intOf];omega
  obtain rfl:k=K:=by omega
  have d1:decide ((k:Int) < (k:Int))=false:=decide_eq_false (by omega);have htk:(kindsL cs).take k=kindsL cs:=List.take_of_length_le (by unfold kindsL;rw [List.length_map,<- HK.o];exact l_);have HO2:=h_ (show Own wr w.heap.size u7 ((encU n ++ zaH (kindsL cs) 0 (zaS ps)) ++ btWs ((ps.map fun p=>p.2).take 0)) from by rw [List.take_zero,btWs,List.append_nil];have:=HO.o;rw [htk] at this;exact this);have HL2:=h_ (show (encU n ++ zaH (kindsL cs) 0 (zaS ps)).length<=2500000 from by have:=HL.o;rw [htk] at this;omega);clear htk HO HL hlt;go_wp2;go_loopw [7,13] (fun b i wr=>∃ j:Nat,j<=n/\i=.int .i64 j/\Hid (Below w.heap.size w wr)/\Hid (Own wr w.heap.size b ((encU n ++ zaH (kindsL cs) 0 (zaS ps)) ++ btWs ((ps.map fun p=>p.2).take j)))/\Hid ((btWs ((ps.map fun p=>p.2).take j)).length<=10 * j)) (fun _ i _=>n - (intOf i).toNat)
  case atStart=>exact ⟨0,by omega,rfl,HB,HO2,h_ (by rw [List.take_zero];simp [btWs])⟩
  clear HB HO2;obtain ⟨j,hj,rfl,HB,HO,HL⟩:=hrel;by_cases hjn:j < n
  ·have hjp:j < ps.length:=(by rw [<- HN.o];exact hjn);have d2:decide ((j:Int) < (n:Int))=true:=decide_eq_true (by omega);have hr:=HP.later HB.o l_;obtain ⟨b,o,rv,hidx,hc0,hc1,hre,_⟩:=hr.get hjp;have hin:=(HPS.get hjp).2;have hsn:(ps.map fun p=>p.2).take (j + 1)=(ps.map fun p=>p.2).take j ++ [(ps.getD j default).2]:=by
    rw [zaF (by rw [List.length_map];exact hjp) 0];simp [List.getD,hjp]
   obtain ⟨x,hx⟩:=nm_ ((ps.getD j default).2);rw [<- hx] at hc1 hin hsn;have HSn:=h_ hsn;have HIn:=h_ hin;have hle:=zaA (zig x) (zeG x hin.1 hin.2);clear hx hsn hr hre hin;go_wp2_with fail;refine (ref_Int x HIn.1 HIn.2 wr).mono ?_;rintro e w3 ⟨yv,rfl,hOy,hb⟩;have HB3:=bT HB hb;have HO3:=h_ (HO.later hb l_);have HRd3:=h_ (hOy.rd (by omega));clear hb hOy HB HO hc0 hc1 hidx;go_wp2_with (with_reducible refine wpl_append w.heap.size _ _ ?hsW HO3.o _ _ ?hxW HRd3.o ?hnW HB3.o.size w.heap.size w HB3.o l_ ?_)
   case hsW=>rfl
   case hxW=>rfl
   case hnW=>rw [List.length_append];have:=HL.o;have:=HL2.o;omega
   intro v5 w5 hO5 hB5 hg5;have HB5:=h_ hB5;have HO5:=h_ (show Own w5 w.heap.size v5 ((encU n ++ zaH (kindsL cs) 0 (zaS ps)) ++ btWs ((ps.map fun p=>p.2).take (j + 1))) from by rw [HSn.o,zeV,<- List.append_assoc];exact hO5);have HL5:=h_ (show (btWs ((ps.map fun p=>p.2).take (j + 1))).length<=10 * (j + 1) from by rw [HSn.o,zeV,List.length_append];have:=HL.o;omega);clear hO5 hB5 hg5 HB3 HO3 HRd3;go_wp2;go_roundw
   case rel=>exact ⟨j + 1,by omega,by go_num,HB5,HO5,HL5⟩
   simp [intOf];omega
  obtain rfl:j=n:=by omega
  have d2:decide ((j:Int) < (j:Int))=false:=decide_eq_false (by omega);have htk:(ps.map fun p=>p.2).take j=ps.map fun p=>p.2:=List.take_of_length_le (by rw [List.length_map,<- HN.o];exact l_)
  have HOe:=h_ (show Own wr w.heap.size u7 (btWr (kindsL cs) (psL ps)) from by
   have:=HO.o
   rw [htk] at this
   unfold btWr
   rw [zdE,zdX,psL_wts,<- HN.o,<- List.append_assoc]
   exact this)
  clear htk HO HL hjn;go_wp2;go_ret2;exact ⟨_,rfl,HOe.o,HB.o⟩
 rw [if_neg h0];have hq:((ck:Int) != 0)=true:=by rw [bne_iff_ne];omega
 clear hR hP hC hPS hCk hOk h0;go_enter func131,ntmps131;go_wp2_with fail;refine HCk.mono ?_;rintro e w1 ⟨rfl,hb⟩;have HB1:=h_ hb;clear hb HCk;go_wp2;go_ret2;exact ⟨_,rfl,zaG _ _,HB1.o⟩
/- -/
open Go.Shelf
def ceB (c:Ce):CellB:=(c.1,⟨c.2.toArray⟩)
theorem ceB_ceL (c:CellB):ceB (ceL c)=c:=by
 obtain ⟨x,t⟩:=c;simp [ceB,ceL]
def cesB (r:List Ce):List CellB:=r.map ceB
theorem zeU (r:List CellB):cesB (cesL r)=r:=by
 unfold cesB cesL;rw [List.map_map]
 conv=>rhs;rw [<- List.map_id r]
 exact List.map_congr_left fun c _=>ceB_ceL c
def psB (a:List Bp):List PairB:=a.map fun p=>(cesB p.1,p.2)
theorem psB_psL (ps:List PairB):psB (psL ps)=ps:=by
 unfold psB psL;rw [List.map_map]
 conv=>rhs;rw [<- List.map_id ps]
 exact List.map_congr_left fun p _=>by simp only [Function.comp,zeU];rfl
def cmpE (cs:List ColB) (a b:List Ce):Int:=cmpR cs (cesB a) (cesB b)
abbrev ltE (cs:List ColB):List Ce->List Ce->Bool:=fun a b=>decide (cmpE cs a b < 0)
theorem ltE_L (cs:List ColB) (a b:List CellB):ltE cs (cesL a) (cesL b)=decide (cmpR cs a b < 0):=by
 show decide (cmpR cs (cesB (cesL a)) (cesB (cesL b)) < 0)=_;rw [zeU,zeU]
theorem kindsL_at {cs:List ColB} {i:Nat} {kd:Int} (h:(kindsL cs)[i]?=some kd):∃ hi:i < cs.length,(cs[i]).2=kd:=by
 unfold kindsL at h;rw [List.getElem?_map] at h;obtain ⟨c,hc,rfl⟩:=Option.map_eq_some_iff.1 h;obtain ⟨hi,e⟩:=List.getElem?_eq_some_iff.1 hc;exact ⟨hi,by rw [e]⟩
theorem row_fit {cs:List ColB} {r:List CellB} (h:errRow cs r=0) (hE:CES r) {i:Nat} {kd:Int} (hi:(kindsL cs)[i]?=some kd):Fit kd ((cesL r).getD i (0,[])):=by
 obtain ⟨_,hl,hp⟩:=zaP h;obtain ⟨hic,rfl⟩:=kindsL_at hi;have hir:i < r.length:=by omega
 have hz:=errP_zero hp (cs[i],r[i]) (by
  have hlz:i < (cs.zip r).length:=by rw [List.length_zip];omega
  have e:(cs.zip r)[i]=(cs[i],r[i]):=List.getElem_zip ..
  rw [<- e];exact List.getElem_mem hlz)
 have e:(cesL r).getD i (0,[])=ceL r[i]:=by unfold cesL;simp [List.getD,hir]
 rw [e];exact ⟨hz,(hE _ (List.getElem_mem hir)).1⟩
theorem fit_row {cs:List ColB} {r:List CellB} (hS:errS (colsL cs)=0) (hl:r.length=cs.length) (h:∀ i kd,(kindsL cs)[i]?=some kd->Fit kd ((cesL r).getD i (0,[]))):errRow cs r=0:=by
 unfold errRow errC;rw [if_pos hS,if_pos hl];apply errP_of;intro x hx;obtain ⟨i,hi⟩:=List.getElem?_of_mem hx;obtain ⟨h1,h2⟩:=List.getElem?_eq_some_iff.1 hi;have h3:=h1;rw [List.length_zip] at h3;have hic:i < cs.length:=by omega
 have hir:i < r.length:=by omega
 rw [List.getElem_zip] at h2;have hf:=h i (cs[i]).2 (by unfold kindsL;simp [hic]);have e:(cesL r).getD i (0,[])=ceL r[i]:=by unfold cesL;simp [List.getD,hir]
 rw [e] at hf;subst h2;exact hf.ok
theorem kinds_ok {cs:List ColB} (hS:errS (colsL cs)=0) {i:Nat} {kd:Int} (h:(kindsL cs)[i]?=some kd):0<=kd/\kd<=5:=by
 obtain ⟨hi,rfl⟩:=kindsL_at h;have:=(zaO hS).2.2.2 (colL cs[i]) (List.mem_map.2 ⟨_,List.getElem_mem hi,rfl⟩);exact this.2
theorem zdC (p:PairB) (t:List PairB):zaS (p :: t)=cesL p.1 :: zaS t:=rfl
theorem asc_srt {cs:List ColB}:∀ {ps:List PairB},(∀ p ∈ ps,Vr cs p.1)->btAsc (ltE cs) (zaS ps)=true->Z.srt (cmpR cs) ps
 | [],_,_=>List.Pairwise.nil
 | [p],_,_=>List.Pairwise.cons (fun x hx=>absurd hx (by simp)) List.Pairwise.nil
 | p :: q :: t,hV,h=>by
  rw [zdC,zdC,btAsc,Bool.and_eq_true,ltE_L] at h
  obtain ⟨h1,h2⟩:=h
  have h1:=of_decide_eq_true h1
  have ih:=asc_srt (ps:=q :: t) (fun x hx=>hV x (List.mem_cons_of_mem _ hx)) h2
  refine List.Pairwise.cons (fun x hx=>?_) ih
  rcases List.mem_cons.1 hx with rfl | hx
  ·exact h1
  ·exact (zbK cs).trans (hV p (by simp)) (hV q (by simp)) (hV x (by simp [hx])) h1 ((List.pairwise_cons.1 ih).1 x hx)
theorem srt_asc {cs:List ColB}:∀ {ps:List PairB},Z.srt (cmpR cs) ps->btAsc (ltE cs) (zaS ps)=true
 | [],_=>rfl
 | [p],_=>rfl
 | p :: q :: t,h=>by
  obtain ⟨h1,h2⟩:=List.pairwise_cons.1 h
  rw [zdC,zdC,btAsc,Bool.and_eq_true,ltE_L]
  exact ⟨decide_eq_true (h1 q (by simp)),srt_asc (ps:=q :: t) h2⟩
theorem btCol_mem {k:Nat} {ps:List PairB} {c:Ce} (h:c ∈ btCol k (zaS ps)):∃ p ∈ ps,c=(cesL p.1).getD k (0,[]):=by
 unfold btCol zaS at h;rw [List.map_map] at h;obtain ⟨p,hp,rfl⟩:=List.mem_map.1 h;exact ⟨p,hp,rfl⟩
theorem mem_btCol {k:Nat} {ps:List PairB} {p:PairB} (h:p ∈ ps):(cesL p.1).getD k (0,[]) ∈ btCol k (zaS ps):=by
 unfold btCol zaS;rw [List.map_map];exact List.mem_map.2 ⟨p,h,rfl⟩
theorem set_ok {cs:List ColB} {ps:List PairB} (hP:PSO ps) (h:chkZ cs ps=0):PsOk cs ps/\BtOk (ltE cs) (kindsL cs) (psL ps):=by
 obtain ⟨hS,hn,hs⟩:=(zb6 hP).1 h;have hw:∀ p ∈ ps,p.1.length=cs.length:=fun p hp=>(zaP (hs.all p hp).1).2.1
 have hf:BtFit (kindsL cs) 0 (zaS ps):=fun i kd hi=>⟨kinds_ok hS hi,fun c hc=>by
  rw [Nat.zero_add] at hc
  obtain ⟨p,hp,rfl⟩:=btCol_mem hc
  exact row_fit (hs.all p hp).1 (hs.all p hp).2 hi⟩
 have hc8:cs.length<=8:=by have:=(zaO hS).2.1;rw [za2] at this;exact this
 refine ⟨⟨hc8,hn,hw,hf⟩,⟨?_,?_,?_,?_,?_⟩⟩
 ·rw [zdX];exact hf
 ·intro q hq;obtain ⟨p,hp,rfl⟩:=List.mem_map.1 hq;show (cesL p.1).length=_;rw [za6,hw p hp];unfold kindsL;rw [List.length_map]
 ·intro q hq;obtain ⟨p,hp,rfl⟩:=List.mem_map.1 hq;exact ⟨hs.nz p hp,(hP p hp).2⟩
 ·rw [zdE];exact hn
 rw [zdX];exact srt_asc hs.srt
theorem ok_set {cs:List ColB} {ps:List PairB} (hP:PSO ps) (hS:errS (colsL cs)=0) (h:BtOk (ltE cs) (kindsL cs) (psL ps)):chkZ cs ps=0:=by
 have hV:∀ p ∈ ps,Vr cs p.1:=fun p hp=>by
  have hq:(cesL p.1,p.2) ∈ psL ps:=List.mem_map.2 ⟨p,hp,rfl⟩;refine ⟨fit_row hS ?_ (fun i kd hi=>?_),(hP p hp).1⟩
  ·have:=h.wide _ hq;rw [za6] at this;rw [this];unfold kindsL;rw [List.length_map]
  have:=(h.fit i kd hi).2;rw [zdX,Nat.zero_add] at this;exact this _ (mem_btCol hp)
 refine (zb6 hP).2 ⟨hS,by have:=h.few;rw [zdE] at this;exact this,?_,hV,fun p hp=>?_⟩
 ·have:=h.asc;rw [zdX] at this;exact asc_srt hV this
 have hq:(cesL p.1,p.2) ∈ psL ps:=List.mem_map.2 ⟨p,hp,rfl⟩;exact (h.wts _ hq).1
