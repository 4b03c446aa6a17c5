/- -/
import Derived.Test.YtpcobefhgkiolaaGreatDoorCColM
import Derived.Test.YtpcobefhgkiolaaGreatDoorCColSh
import Derived.Test.YtpcobefhgkiolaaGreatDoorCBaseB
import Derived.Test.YtpcobefhgkiolaaGreatDoorCZDefs
set_option linter.unusedVariables false
set_option linter.unusedSimpArgs false
set_option maxRecDepth 1000000
namespace Go.Proofs.YtpcobefhgkiolaaGreatDoor
open Go.RowKit
abbrev Bp:=List Ce × Int
def btCol (k:Nat) (a:List (List Ce)):List Ce:=a.map fun r=>r.getD k (0,[])
def btCols:List Int→Nat→List (List Ce)→List UInt8
 | [],_,_=>[]
 | kd :: r,k,a=>wrC kd (btCol k a) ++ btCols r (k + 1) a
def btWs:List Int→List UInt8
 | []=>[]
 | x :: r=>encU (zig x) ++ btWs r
def btWr (kinds:List Int) (a:List Bp):List UInt8:=encU a.length ++ (btCols kinds 0 (a.map fun p=>p.1) ++ btWs (a.map fun p=>p.2))
def btRdCols (l:List UInt8) (n:Int):List Int→Nat→List (List Ce) × Nat × Nat
 | [],k=>([],k,0)
 | kd :: r,k =>
  if (rdK l kd n k).2.2≠0 then ([],(rdK l kd n k).2.1,(rdK l kd n k).2.2)
  else if (btRdCols l n r (rdK l kd n k).2.1).2.2≠0 then ([],(btRdCols l n r (rdK l kd n k).2.1).2.1,(btRdCols l n r (rdK l kd n k).2.1).2.2)
  else ((rdK l kd n k).1 :: (btRdCols l n r (rdK l kd n k).2.1).1,(btRdCols l n r (rdK l kd n k).2.1).2.1,0)
def btRdWs (l:List UInt8):Nat→Nat→List Int × Nat × Nat
 | 0,k=>([],k,0)
 | m + 1,k =>
  if (rdU l k 18446744073709551615).2.2≠0 then ([],(rdU l k 18446744073709551615).2.1,(rdU l k 18446744073709551615).2.2)
  else if zag (rdU l k 18446744073709551615).1=0 then ([],(rdU l k 18446744073709551615).2.1,2)
  else if (btRdWs l m (rdU l k 18446744073709551615).2.1).2.2≠0 then ([],(btRdWs l m (rdU l k 18446744073709551615).2.1).2.1,(btRdWs l m (rdU l k 18446744073709551615).2.1).2.2)
  else (zag (rdU l k 18446744073709551615).1 :: (btRdWs l m (rdU l k 18446744073709551615).2.1).1,(btRdWs l m (rdU l k 18446744073709551615).2.1).2.1,0)
def btRows (n:Nat) (cols:List (List Ce)):List (List Ce):=(List.range n).map fun i=>cols.map fun c=>c.getD i (0,[])
def btAsc (lt:List Ce→List Ce→Bool):List (List Ce)→Bool
 | []=>true
 | [_]=>true
 | a :: b :: r=>lt a b && btAsc lt (b :: r)
def btRd (lt:List Ce→List Ce→Bool) (l:List UInt8) (kinds:List Int) (k:Nat):List Bp × Nat × Nat :=
 if (rdU l k 1024).2.2≠0 then ([],(rdU l k 1024).2.1,(rdU l k 1024).2.2)
 else if (btRdCols l (rdU l k 1024).1 kinds (rdU l k 1024).2.1).2.2≠0 then ([],(btRdCols l (rdU l k 1024).1 kinds (rdU l k 1024).2.1).2.1,(btRdCols l (rdU l k 1024).1 kinds (rdU l k 1024).2.1).2.2)
 else if (btRdWs l (rdU l k 1024).1 (btRdCols l (rdU l k 1024).1 kinds (rdU l k 1024).2.1).2.1).2.2≠0 then ([],(btRdWs l (rdU l k 1024).1 (btRdCols l (rdU l k 1024).1 kinds (rdU l k 1024).2.1).2.1).2.1,(btRdWs l (rdU l k 1024).1 (btRdCols l (rdU l k 1024).1 kinds (rdU l k 1024).2.1).2.1).2.2)
 else if btAsc lt (btRows (rdU l k 1024).1 (btRdCols l (rdU l k 1024).1 kinds (rdU l k 1024).2.1).1)=false then ([],(btRdWs l (rdU l k 1024).1 (btRdCols l (rdU l k 1024).1 kinds (rdU l k 1024).2.1).2.1).2.1,9)
 else ((btRows (rdU l k 1024).1 (btRdCols l (rdU l k 1024).1 kinds (rdU l k 1024).2.1).1).zip (btRdWs l (rdU l k 1024).1 (btRdCols l (rdU l k 1024).1 kinds (rdU l k 1024).2.1).2.1).1,(btRdWs l (rdU l k 1024).1 (btRdCols l (rdU l k 1024).1 kinds (rdU l k 1024).2.1).2.1).2.1,0)
theorem btCol_length (k:Nat) (a:List (List Ce)):(btCol k a).length=a.length:=by unfold btCol;rw [List.length_map]
def BtFit (kinds:List Int) (k:Nat) (a:List (List Ce)):Prop:=∀ i kd,kinds[i]?=some kd→(0≤kd∧kd≤5)∧∀ c ∈ btCol (k + i) a,Fit kd c
theorem BtFit.cons {kd:Int} {r:List Int} {k:Nat} {a:List (List Ce)} (h:BtFit (kd :: r) k a):((0≤kd∧kd≤5)∧∀ c ∈ btCol k a,Fit kd c)∧BtFit r (k + 1) a:=by
 refine ⟨by simpa using h 0 kd rfl,fun i x hx=>?_⟩
 have:=h (i + 1) x (by simpa using hx)
 rw [show k + 1 + i=k + (i + 1) from by omega]
 exact this
theorem btRdCols_put (l m:List UInt8) (a:List (List Ce)) (hn:a.length≤1024):∀ (kinds:List Int) (j k:Nat),BtFit kinds j a→l.drop k=btCols kinds j a ++ m →
  btRdCols l a.length kinds k=((List.range kinds.length).map (fun i=>btCol (j + i) a),k + (btCols kinds j a).length,0)
 | [],j,k,h,hd=>by simp [btRdCols,btCols]
 | kd :: r,j,k,h,hd=>by
  obtain ⟨⟨h1,h2⟩,h3⟩:=h.cons
  rw [btCols,List.append_assoc] at hd
  have hp:=rdK_put (l:=l) (m:=btCols r (j + 1) a ++ m) (k:=k) h1 h2 (by rw [btCol_length];exact hn) hd
  rw [btCol_length] at hp
  have hd2:=col_drop hd
  have ih:=btRdCols_put l m a hn r (j + 1) _ h3 hd2
  rw [btRdCols,hp]
  dsimp only
  rw [ih,if_neg (by simp),if_neg (by simp)]
  rw [List.length_cons,List.range_succ_eq_map,List.map_cons,List.map_map,btCols,List.length_append]
  refine Prod.ext ?_ (Prod.ext (by dsimp only;omega) rfl)
  dsimp only
  rw [Nat.add_zero]
  congr 1
  refine List.map_congr_left fun i _=>?_
  simp only [Function.comp]
  rw [show j + 1 + i=j + (i + 1) from by omega]
theorem btRdCols_place (l:List UInt8) (n:Int):∀ (kinds:List Int) (k:Nat),k≤l.length→(btRdCols l n kinds k).2.1≤l.length
 | [],k,h=>h
 | kd :: r,k,h=>by
  have h1:=rdK_place (l:=l) (kind:=kd) (n:=n) h
  have ih:=btRdCols_place l n r _ h1
  rw [btRdCols]
  split
  ·exact h1
  ·split
   ·exact ih
   ·exact ih
theorem btRdCols_enc (l:List UInt8) (n:Nat) (a:List (List Ce)):∀ (kinds:List Int) (j k:Nat),k≤l.length→(btRdCols l n kinds k).2.2=0→(∀ i c,(btRdCols l n kinds k).1[i]?=some c→btCol (j + i) a=c) →
  l.take (btRdCols l n kinds k).2.1=l.take k ++ btCols kinds j a∧(btRdCols l n kinds k).2.1≤l.length∧(btRdCols l n kinds k).1.length=kinds.length
 | [],j,k,hk,h,ha=>by simp [btRdCols,btCols,hk]
 | kd :: r,j,k,hk,h,ha=>by
  rw [btRdCols] at h ha ⊢
  by_cases h1:(rdK l kd n k).2.2=0
  ·rw [if_neg (fun hh=>hh h1)] at h ha ⊢
   obtain ⟨e1,e2,_,_,_,_⟩:=rdK_enc hk h1
   by_cases h2:(btRdCols l n r (rdK l kd n k).2.1).2.2=0
   ·rw [if_neg (fun hh=>hh h2)] at ha ⊢
    have hc:=ha 0 _ rfl
    rw [Nat.add_zero] at hc
    obtain ⟨i1,i2,i3⟩:=btRdCols_enc l n a r (j + 1) _ e2 h2 (fun i c hi=>by
     have:=ha (i + 1) c (by simpa using hi)
     rw [show j + 1 + i=j + (i + 1) from by omega]
     exact this)
    refine ⟨?_,i2,by simp [i3]⟩
    dsimp only
    rw [i1,e1,btCols,hc,List.append_assoc]
   ·rw [if_pos h2] at h;exact absurd h h2
  ·rw [if_pos h1] at h;exact absurd h h1
theorem btRdCols_len (l:List UInt8) (n:Int):∀ (kinds:List Int) (k:Nat),(btRdCols l n kinds k).2.2=0→(btRdCols l n kinds k).1.length=kinds.length
 | [],k,h=>rfl
 | kd :: r,k,h=>by
  rw [btRdCols] at h ⊢
  by_cases h1:(rdK l kd n k).2.2=0
  ·rw [if_neg (fun hh=>hh h1)] at h ⊢
   by_cases h2:(btRdCols l n r (rdK l kd n k).2.1).2.2=0
   ·rw [if_neg (fun hh=>hh h2)]
    simp [btRdCols_len l n r _ h2]
   ·rw [if_pos h2] at h;exact absurd h h2
  ·rw [if_pos h1] at h;exact absurd h h1
theorem btRdCols_fit (l:List UInt8) (n:Nat):∀ (kinds:List Int) (k:Nat),k≤l.length→(btRdCols l n kinds k).2.2=0 →
  ∀ (i:Nat) (kd:Int),kinds[i]?=some kd→(0≤kd∧kd≤5)∧∃ c:List Ce,(btRdCols l n kinds k).1[i]?=some c∧c.length=n∧∀ x ∈ c,Fit kd x
 | [],k,hk,h,i,kd,hi=>by simp at hi
 | kd :: r,k,hk,h,i,kx,hi=>by
  rw [btRdCols] at h ⊢
  by_cases h1:(rdK l kd n k).2.2=0
  ·rw [if_neg (fun hh=>hh h1)] at h ⊢
   obtain ⟨_,e2,e3,e4,e5,_⟩:=rdK_enc hk h1
   by_cases h2:(btRdCols l n r (rdK l kd n k).2.1).2.2=0
   ·rw [if_neg (fun hh=>hh h2)]
    cases i with
    | zero =>
     obtain rfl:kd=kx:=by simpa using hi
     exact ⟨e3,_,rfl,by omega,e4⟩
    | succ i =>
     obtain ⟨f1,c,f2,f3⟩:=btRdCols_fit l n r _ e2 h2 i kx (by simpa using hi)
     exact ⟨f1,c,by simpa using f2,f3⟩
   ·rw [if_pos h2] at h;exact absurd h h2
  ·rw [if_pos h1] at h;exact absurd h h1
def WtOk (x:Int):Prop:=x≠0∧-9223372036854775808≤x∧x≤9223372036854775807
theorem btRdWs_put (l m:List UInt8):∀ (ws:List Int) (k:Nat),(∀ x ∈ ws,WtOk x)→l.drop k=btWs ws ++ m→btRdWs l ws.length k=(ws,k + (btWs ws).length,0)
 | [],k,h,hd=>by simp [btRdWs,btWs]
 | x :: r,k,h,hd=>by
  obtain ⟨h0,h1,h2⟩:=h x (by simp)
  rw [btWs,List.append_assoc] at hd
  have hz:=zig_lt x h1 h2
  have hp:=colU_at (most:=18446744073709551615) hd (by omega) (by omega)
  have ih:=btRdWs_put l m r _ (fun y hy=>h y (by simp [hy])) (col_drop hd)
  rw [List.length_cons,btRdWs,hp]
  dsimp only
  rw [ih,if_neg (by simp),zag_zig,if_neg h0,if_neg (by simp),btWs,List.length_append]
  refine Prod.ext rfl (Prod.ext (by dsimp only;omega) rfl)
theorem btRdWs_place (l:List UInt8):∀ (m k:Nat),k≤l.length→(btRdWs l m k).2.1≤l.length
 | 0,k,h=>h
 | m + 1,k,h=>by
  have h1:=colU_place (most:=18446744073709551615) h
  have ih:=btRdWs_place l m _ h1
  rw [btRdWs]
  split
  ·exact h1
  ·split
   ·exact h1
   ·split
    ·exact ih
    ·exact ih
theorem zag_range {y:Nat} (h:y < 18446744073709551616):-9223372036854775808≤zag y∧zag y≤9223372036854775807:=by
 unfold zag;split <;> omega
theorem btRdWs_enc (l:List UInt8):∀ (m k:Nat),k≤l.length→(btRdWs l m k).2.2=0 →
  l.take (btRdWs l m k).2.1=l.take k ++ btWs (btRdWs l m k).1∧(btRdWs l m k).2.1≤l.length∧(btRdWs l m k).1.length=m∧∀ x ∈ (btRdWs l m k).1,WtOk x
 | 0,k,hk,h=>by simp [btRdWs,btWs,hk]
 | m + 1,k,hk,h=>by
  rw [btRdWs] at h ⊢
  by_cases h1:(rdU l k 18446744073709551615).2.2=0
  ·rw [if_neg (fun hh=>hh h1)] at h ⊢
   obtain ⟨a1,a2,a3⟩:=colU_enc hk h1
   by_cases h0:zag (rdU l k 18446744073709551615).1=0
   ·rw [if_pos h0] at h;cases h
   ·rw [if_neg h0] at h ⊢
    by_cases h2:(btRdWs l m (rdU l k 18446744073709551615).2.1).2.2=0
    ·rw [if_neg (fun hh=>hh h2)]
     obtain ⟨i1,i2,i3,i4⟩:=btRdWs_enc l m _ a2 h2
     refine ⟨?_,i2,by simp [i3],fun x hx=>?_⟩
     ·dsimp only
      rw [i1,a1,btWs,zig_zag _ ,List.append_assoc]
     ·rcases List.mem_cons.1 hx with rfl | hx
      ·exact ⟨h0,zag_range (by omega)⟩
      ·exact i4 x hx
    ·rw [if_pos h2] at h;exact absurd h h2
  ·rw [if_pos h1] at h;exact absurd h h1
theorem getD_self (r:List Ce):(List.range r.length).map (fun j=>r.getD j (0,[]))=r:=by
 apply List.ext_getElem
 ·simp
 ·intro i h1 h2
  simp [List.getD,h2]
theorem btRows_length (n:Nat) (cols:List (List Ce)):(btRows n cols).length=n:=by unfold btRows;simp
theorem btRows_wide (n:Nat) (cols:List (List Ce)):∀ r ∈ btRows n cols,r.length=cols.length:=by
 intro r hr
 unfold btRows at hr
 obtain ⟨i,_,rfl⟩:=List.mem_map.1 hr
 simp
theorem btRows_cols (K:Nat) (rows:List (List Ce)) (h:∀ r ∈ rows,r.length=K):btRows rows.length ((List.range K).map fun i=>btCol (0 + i) rows)=rows:=by
 unfold btRows
 apply List.ext_getElem
 ·simp
 ·intro i h1 h2
  rw [List.getElem_map,List.getElem_range,List.map_map]
  have hk:=h _ (List.getElem_mem h2)
  rw [show (List.range K).map ((fun c=>List.getD c i (0,[])) ∘ fun j=>btCol (0 + j) rows)=(List.range K).map (fun j=>(rows[i]).getD j (0,[])) from by
   refine List.map_congr_left fun j _=>?_
   simp only [Function.comp,Nat.zero_add]
   unfold btCol
   simp [List.getD,h2]]
  rw [← hk]
  exact getD_self _
theorem btCol_rows {n i:Nat} {cols:List (List Ce)} {c:List Ce} (h:cols[i]?=some c) (hc:c.length=n):btCol i (btRows n cols)=c:=by
 unfold btCol btRows
 rw [List.map_map]
 subst hc
 rw [show (List.range c.length).map ((fun r=>List.getD r i (0,[])) ∘ fun q=>cols.map fun x=>List.getD x q (0,[]))=(List.range c.length).map (fun q=>c.getD q (0,[])) from by
  refine List.map_congr_left fun q _=>?_
  simp [Function.comp,List.getD,h]]
 exact getD_self c
theorem zip_back:∀ (a:List Bp),(a.map fun p=>p.1).zip (a.map fun p=>p.2)=a
 | []=>rfl
 | p :: r=>by rw [List.map_cons,List.map_cons,List.zip_cons_cons,zip_back r]
theorem zip_fst:∀ (a:List (List Ce)) (b:List Int),a.length=b.length→(a.zip b).map (fun p=>p.1)=a
 | [],[],_=>rfl
 | [],_ :: _,h=>by simp at h
 | _ :: _,[],h=>by simp at h
 | x :: r,y :: s,h=>by rw [List.zip_cons_cons,List.map_cons,zip_fst r s (by simpa using h)]
theorem zip_snd:∀ (a:List (List Ce)) (b:List Int),a.length=b.length→(a.zip b).map (fun p=>p.2)=b
 | [],[],_=>rfl
 | [],_ :: _,h=>by simp at h
 | _ :: _,[],h=>by simp at h
 | x :: r,y :: s,h=>by rw [List.zip_cons_cons,List.map_cons,zip_snd r s (by simpa using h)]
structure BtOk (lt:List Ce→List Ce→Bool) (kinds:List Int) (a:List Bp):Prop where
 fit:BtFit kinds 0 (a.map fun p=>p.1)
 wide:∀ p ∈ a,p.1.length=kinds.length
 wts:∀ p ∈ a,WtOk p.2
 few:a.length≤1024
 asc:btAsc lt (a.map fun p=>p.1)=true
theorem btRd_put {lt:List Ce→List Ce→Bool} {l m:List UInt8} {kinds:List Int} {a:List Bp} {k:Nat} (h:BtOk lt kinds a) (hd:l.drop k=btWr kinds a ++ m):btRd lt l kinds k=(a,k + (btWr kinds a).length,0):=by
 have hfew:=h.few
 unfold btWr at hd ⊢
 rw [List.append_assoc,List.append_assoc] at hd
 have h1:=colU_at (most:=1024) hd (by omega) h.few
 have hd2:=col_drop hd
 have hlf:(a.map fun p=>p.1).length=a.length:=List.length_map ..
 have hls:(a.map fun p=>p.2).length=a.length:=List.length_map ..
 have h2:=btRdCols_put l (btWs (a.map fun p=>p.2) ++ m) (a.map fun p=>p.1) (by rw [hlf];exact h.few) kinds 0 _ h.fit hd2
 have hd3:=col_drop hd2
 have h3:=btRdWs_put l m (a.map fun p=>p.2) _ (fun x hx=>by obtain ⟨p,hp,rfl⟩:=List.mem_map.1 hx;exact h.wts p hp) hd3
 have h4:=btRows_cols kinds.length (a.map fun p=>p.1) (fun r hr=>by obtain ⟨p,hp,rfl⟩:=List.mem_map.1 hr;exact h.wide p hp)
 rw [hlf] at h2 h4
 rw [hls] at h3
 unfold btRd
 rw [h1]
 dsimp only
 rw [h2]
 dsimp only
 rw [h3]
 dsimp only
 rw [h4,if_neg (by simp),if_neg (by simp),if_neg (by simp),h.asc,if_neg (by decide),zip_back]
 rw [List.length_append,List.length_append]
 refine Prod.ext rfl (Prod.ext (by dsimp only;omega) rfl)
theorem btRd_place {lt:List Ce→List Ce→Bool} {l:List UInt8} {kinds:List Int} {k:Nat} (hk:k≤l.length):(btRd lt l kinds k).2.1≤l.length:=by
 have h1:=colU_place (most:=1024) hk
 have h2:=btRdCols_place l (rdU l k 1024).1 kinds _ h1
 have h3:=btRdWs_place l (rdU l k 1024).1 _ h2
 unfold btRd
 split
 ·exact h1
 ·split
  ·exact h2
  ·split
   ·exact h3
   ·split
    ·exact h3
    ·exact h3
theorem btRd_enc {lt:List Ce→List Ce→Bool} {l:List UInt8} {kinds:List Int} {k:Nat} (hk:k≤l.length) (h:(btRd lt l kinds k).2.2=0) :
  l.take (btRd lt l kinds k).2.1=l.take k ++ btWr kinds (btRd lt l kinds k).1∧(btRd lt l kinds k).2.1≤l.length∧BtOk lt kinds (btRd lt l kinds k).1:=by
 have hpl:=btRd_place (lt:=lt) (kinds:=kinds) hk
 unfold btRd at h ⊢
 by_cases h1:(rdU l k 1024).2.2=0
 ·obtain ⟨a1,a2,a3⟩:=colU_enc hk h1
  rw [if_neg (fun hh=>hh h1)] at h ⊢
  generalize hn:(rdU l k 1024).1=n at *
  generalize hk1:(rdU l k 1024).2.1=k1 at *
  by_cases h2:(btRdCols l n kinds k1).2.2=0
  ·rw [if_neg (fun hh=>hh h2)] at h ⊢
   have hfit:=btRdCols_fit l n kinds k1 a2 h2
   have henc:=btRdCols_enc l n (btRows n (btRdCols l n kinds k1).1) kinds 0 k1 a2 h2 (fun i c hi=>by
    rw [Nat.zero_add]
    have hlen:i < kinds.length:=by
     have hl:=(List.getElem?_eq_some_iff.1 hi).1
     have:=(btRdCols_len l n kinds k1 h2)
     omega
    obtain ⟨_,c',hc',hcl,_⟩:=hfit i kinds[i] (by simp [hlen])
    rw [hi] at hc'
    injection hc' with hc'
    subst hc'
    exact btCol_rows hi hcl)
   obtain ⟨b1,b2,b3⟩:=henc
   by_cases h3:(btRdWs l n (btRdCols l n kinds k1).2.1).2.2=0
   ·rw [if_neg (fun hh=>hh h3)] at h ⊢
    obtain ⟨c1,c2,c3,c4⟩:=btRdWs_enc l n _ b2 h3
    cases has:btAsc lt (btRows n (btRdCols l n kinds k1).1) with
    | false=>rw [if_pos has] at h;cases h
    | true =>
     rw [if_neg (by simp)]
     have hzl:(btRows n (btRdCols l n kinds k1).1).length=(btRdWs l n (btRdCols l n kinds k1).2.1).1.length:=by rw [btRows_length,c3]
     have hf:=zip_fst _ _ hzl
     have hs:=zip_snd _ _ hzl
     have hal:((btRows n (btRdCols l n kinds k1).1).zip (btRdWs l n (btRdCols l n kinds k1).2.1).1).length=n:=by
      rw [List.length_zip,btRows_length,c3];omega
     refine ⟨?_,c2,⟨?_,?_,?_,by rw [hal];exact a3,by rw [hf];exact has⟩⟩
     ·unfold btWr
      dsimp only
      rw [hf,hs,hal,c1,b1,a1]
      simp only [List.append_assoc]
     ·rw [hf]
      intro i kd hi
      obtain ⟨g1,c,g2,g3,g4⟩:=hfit i kd hi
      refine ⟨g1,?_⟩
      rw [Nat.zero_add,btCol_rows g2 g3]
      exact g4
     ·intro p hp
      have hm:p.1 ∈ btRows n (btRdCols l n kinds k1).1:=by rw [← hf];exact List.mem_map.2 ⟨p,hp,rfl⟩
      rw [btRows_wide _ _ _ hm,b3]
     ·intro p hp
      have hm:p.2 ∈ (btRdWs l n (btRdCols l n kinds k1).2.1).1:=by
       have:p.2 ∈ ((btRows n (btRdCols l n kinds k1).1).zip (btRdWs l n (btRdCols l n kinds k1).2.1).1).map (fun p=>p.2):=List.mem_map.2 ⟨p,hp,rfl⟩
       rw [hs] at this
       exact this
      exact c4 _ hm
   ·rw [if_pos h3] at h;exact absurd h h3
  ·rw [if_pos h2] at h;exact absurd h h2
 ·rw [if_pos h1] at h;exact absurd h h1
def btText (rows:List (List Ce)):Nat:=match rows with
 | []=>0
 | r :: t=>sumT r + btText t
def btColsT:Nat→Nat→List (List Ce)→Nat
 | 0,_,_=>0
 | K + 1,j,rows=>sumT (btCol j rows) + btColsT K (j + 1) rows
def btRowT:Nat→Nat→List Ce→Nat
 | 0,_,_=>0
 | K + 1,j,r=>(r.getD j (0,[])).2.length + btRowT K (j + 1) r
theorem btColsT_nil:∀ (K j:Nat),btColsT K j []=0
 | 0,j=>rfl
 | K + 1,j=>by rw [btColsT,btColsT_nil K (j + 1)];rfl
theorem btColsT_cons:∀ (K j:Nat) (r:List Ce) (t:List (List Ce)),btColsT K j (r :: t)=btRowT K j r + btColsT K j t
 | 0,j,r,t=>rfl
 | K + 1,j,r,t=>by
  rw [btColsT,btColsT_cons K (j + 1) r t,btRowT,btColsT]
  show (r.getD j (0,[])).2.length + sumT (btCol j t) + _=_
  omega
theorem btRowT_drop:∀ (K j:Nat) (r:List Ce),r.length=j + K→btRowT K j r=sumT (r.drop j)
 | 0,j,r,h=>by rw [btRowT,List.drop_of_length_le (by omega)];rfl
 | K + 1,j,r,h=>by
  have hj:j < r.length:=by omega
  rw [btRowT,btRowT_drop K (j + 1) r (by omega),List.drop_eq_getElem_cons hj,sumT]
  simp [List.getD,hj]
theorem btColsT_text:∀ (K:Nat) (rows:List (List Ce)),(∀ r ∈ rows,r.length=K)→btColsT K 0 rows=btText rows
 | K,[],h=>by rw [btColsT_nil];rfl
 | K,r :: t,h=>by
  rw [btColsT_cons,btColsT_text K t (fun x hx=>h x (by simp [hx])),btRowT_drop K 0 r (by rw [h r (by simp)];omega),List.drop_zero]
  rfl
theorem btCols_le:∀ (kinds:List Int) (j:Nat) (rows:List (List Ce)),BtFit kinds j rows→(btCols kinds j rows).length≤10 * rows.length * kinds.length + btColsT kinds.length j rows
 | [],j,rows,h=>by simp [btCols]
 | kd :: r,j,rows,h=>by
  obtain ⟨⟨_,h2⟩,h3⟩:=h.cons
  have h1:=wrC_le h2
  have ih:=btCols_le r (j + 1) rows h3
  rw [btCol_length] at h1
  rw [btCols,List.length_append,List.length_cons,btColsT,Nat.mul_add]
  omega
theorem btWs_le:∀ (ws:List Int),(∀ x ∈ ws,WtOk x)→(btWs ws).length≤10 * ws.length
 | [],_=>by simp [btWs]
 | x :: r,h=>by
  obtain ⟨_,h1,h2⟩:=h x (by simp)
  have:=encU_le (zig x) (zig_lt x h1 h2)
  have ih:=btWs_le r (fun y hy=>h y (by simp [hy]))
  rw [btWs,List.length_append,List.length_cons];omega
theorem btWr_le {lt:List Ce→List Ce→Bool} {kinds:List Int} {a:List Bp} (h:BtOk lt kinds a):(btWr kinds a).length≤12 + 10 * a.length * (kinds.length + 1) + btText (a.map fun p=>p.1):=by
 have hfew:=h.few
 have h1:=encU_le a.length (by omega)
 have h2:=btCols_le kinds 0 (a.map fun p=>p.1) h.fit
 have h3:=btWs_le (a.map fun p=>p.2) (fun x hx=>by obtain ⟨p,hp,rfl⟩:=List.mem_map.1 hx;exact h.wts p hp)
 rw [btColsT_text kinds.length (a.map fun p=>p.1) (fun r hr=>by obtain ⟨p,hp,rfl⟩:=List.mem_map.1 hr;exact h.wide p hp)] at h2
 rw [List.length_map] at h2 h3
 unfold btWr
 rw [List.length_append,List.length_append,Nat.mul_add,Nat.mul_one]
 omega
end Go.Proofs.YtpcobefhgkiolaaGreatDoor


/- -/
namespace Go.Proofs.YtpcobefhgkiolaaGreatDoor
open Go.RowKit
def kindsL (cs:List ColB):List Int:=cs.map fun c=>c.2
def rowsL (ps:List PairB):List (List Ce):=ps.map fun p=>cesL p.1
def psL (ps:List PairB):List Bp:=ps.map fun p=>(cesL p.1,p.2)
theorem psL_rows (ps:List PairB):(psL ps).map (fun p=>p.1)=rowsL ps:=by unfold psL rowsL;rw [List.map_map];rfl
theorem psL_wts (ps:List PairB):(psL ps).map (fun p=>p.2)=ps.map (fun p=>p.2):=by unfold psL;rw [List.map_map];rfl
theorem psL_length (ps:List PairB):(psL ps).length=ps.length:=by unfold psL;rw [List.length_map]
theorem rowsL_length (ps:List PairB):(rowsL ps).length=ps.length:=by unfold rowsL;rw [List.length_map]
def colB (k:Nat) (ps:List PairB):List CellB:=ps.map fun p=>p.1.getD k default
theorem colB_length (k:Nat) (ps:List PairB):(colB k ps).length=ps.length:=by unfold colB;rw [List.length_map]
theorem colB_take {k i:Nat} {ps:List PairB} (hi:i < ps.length):colB k (ps.take (i + 1))=colB k (ps.take i) ++ [(ps.getD i default).1.getD k default]:=by
 unfold colB
 rw [take_succD hi default,List.map_append];rfl
theorem cesL_colB {k:Nat} {ps:List PairB} (h:∀ p ∈ ps,k < p.1.length):cesL (colB k ps)=btCol k (rowsL ps):=by
 unfold cesL colB btCol rowsL
 rw [List.map_map,List.map_map]
 refine List.map_congr_left fun p hp=>?_
 have hk:=h p hp
 simp only [Function.comp]
 unfold cesL
 simp [List.getD,hk]
theorem colB_ces {k:Nat} {ps:List PairB} (hP:PSO ps) (h:∀ p ∈ ps,k < p.1.length):CES (colB k ps):=by
 intro c hc
 obtain ⟨p,hp,rfl⟩:=List.mem_map.1 hc
 exact (hP p hp).1.get (h p hp)
theorem btCols_snoc (a:List (List Ce)):∀ (ks:List Int) (j:Nat) (kd:Int),btCols (ks ++ [kd]) j a=btCols ks j a ++ wrC kd (btCol (j + ks.length) a)
 | [],j,kd=>by simp [btCols]
 | x :: r,j,kd=>by
  rw [List.cons_append,btCols,btCols_snoc a r (j + 1) kd,btCols,List.length_cons,List.append_assoc]
  rw [show j + 1 + r.length=j + (r.length + 1) from by omega]
theorem btWs_snoc:∀ (ws:List Int) (x:Int),btWs (ws ++ [x])=btWs ws ++ encU (zig x)
 | [],x=>by simp [btWs]
 | y :: r,x=>by rw [List.cons_append,btWs,btWs_snoc r x,btWs,List.append_assoc]
structure PsOk (cs:List ColB) (ps:List PairB):Prop where
 cols:cs.length≤8
 few:ps.length≤1024
 wide:∀ p ∈ ps,p.1.length=cs.length
 fit:BtFit (kindsL cs) 0 (rowsL ps)
theorem PsOk.col {cs:List ColB} {ps:List PairB} (h:PsOk cs ps) {k:Nat} (hk:k < cs.length):(0≤(cs.getD k default).2∧(cs.getD k default).2≤5)∧(∀ c ∈ btCol k (rowsL ps),Fit (cs.getD k default).2 c)∧(wrC (cs.getD k default).2 (btCol k (rowsL ps))).length≤272384:=by
 have e:(kindsL cs)[k]?=some (cs.getD k default).2:=by unfold kindsL;simp [List.getD,hk]
 obtain ⟨h1,h2⟩:=h.fit k _ e
 rw [Nat.zero_add] at h2
 refine ⟨h1,h2,?_⟩
 have h3:=wrC_le h2
 have h4:sumT (btCol k (rowsL ps))≤256 * (btCol k (rowsL ps)).length:=by
  generalize btCol k (rowsL ps)=l at h2
  clear h3
  induction l with
  | nil=>simp [sumT]
  | cons c r ih =>
   have i1:=ih (fun x hx=>h2 x (by simp [hx]))
   have i2:=h2 c (by simp)
   have i3:c.2.length≤256:=by
    by_cases ht:(cs.getD k default).2=3∨(cs.getD k default).2=4
    ·exact (i2.text ht).2.1
    ·rw [(i2.num ht).1];simp
   rw [sumT,List.length_cons];omega
 rw [btCol_length,rowsL_length] at h3 h4
 have:=h.few
 omega
end Go.Proofs.YtpcobefhgkiolaaGreatDoor


/- -/
namespace Go.Proofs.YtpcobefhgkiolaaGreatDoor
open Go.RowKit Go.Shelf
def ceB (c:Ce):CellB:=(c.1,⟨c.2.toArray⟩)
theorem ceB_ceL (c:CellB):ceB (ceL c)=c:=by
 obtain ⟨x,t⟩:=c
 simp [ceB,ceL]
def cesB (r:List Ce):List CellB:=r.map ceB
theorem cesB_cesL (r:List CellB):cesB (cesL r)=r:=by
 unfold cesB cesL
 rw [List.map_map]
 conv=>rhs;rw [← List.map_id r]
 exact List.map_congr_left fun c _=>ceB_ceL c
def psB (a:List Bp):List PairB:=a.map fun p=>(cesB p.1,p.2)
theorem psB_psL (ps:List PairB):psB (psL ps)=ps:=by
 unfold psB psL
 rw [List.map_map]
 conv=>rhs;rw [← List.map_id ps]
 exact List.map_congr_left fun p _=>by simp only [Function.comp,cesB_cesL];rfl
def cmpE (cs:List ColB) (a b:List Ce):Int:=cmpR cs (cesB a) (cesB b)
abbrev ltE (cs:List ColB):List Ce→List Ce→Bool:=fun a b=>decide (cmpE cs a b < 0)
theorem ltE_L (cs:List ColB) (a b:List CellB):ltE cs (cesL a) (cesL b)=decide (cmpR cs a b < 0):=by
 show decide (cmpR cs (cesB (cesL a)) (cesB (cesL b)) < 0)=_
 rw [cesB_cesL,cesB_cesL]
theorem kindsL_at {cs:List ColB} {i:Nat} {kd:Int} (h:(kindsL cs)[i]?=some kd):∃ hi:i < cs.length,(cs[i]).2=kd:=by
 unfold kindsL at h
 rw [List.getElem?_map] at h
 obtain ⟨c,hc,rfl⟩:=Option.map_eq_some_iff.1 h
 obtain ⟨hi,e⟩:=List.getElem?_eq_some_iff.1 hc
 exact ⟨hi,by rw [e]⟩
theorem row_fit {cs:List ColB} {r:List CellB} (h:errRow cs r=0) (hE:CES r) {i:Nat} {kd:Int} (hi:(kindsL cs)[i]?=some kd):Fit kd ((cesL r).getD i (0,[])):=by
 obtain ⟨_,hl,hp⟩:=errRow_len h
 obtain ⟨hic,rfl⟩:=kindsL_at hi
 have hir:i < r.length:=by omega
 have hz:=errP_zero hp (cs[i],r[i]) (by
  have hlz:i < (cs.zip r).length:=by rw [List.length_zip];omega
  have e:(cs.zip r)[i]=(cs[i],r[i]):=List.getElem_zip ..
  rw [← e];exact List.getElem_mem hlz)
 have e:(cesL r).getD i (0,[])=ceL r[i]:=by unfold cesL;simp [List.getD,hir]
 rw [e]
 exact ⟨hz,(hE _ (List.getElem_mem hir)).1⟩
theorem fit_row {cs:List ColB} {r:List CellB} (hS:errS (colsL cs)=0) (hl:r.length=cs.length) (h:∀ i kd,(kindsL cs)[i]?=some kd→Fit kd ((cesL r).getD i (0,[]))):errRow cs r=0:=by
 unfold errRow errC
 rw [if_pos hS,if_pos hl]
 apply errP_of
 intro x hx
 obtain ⟨i,hi⟩:=List.getElem?_of_mem hx
 obtain ⟨h1,h2⟩:=List.getElem?_eq_some_iff.1 hi
 have h3:=h1
 rw [List.length_zip] at h3
 have hic:i < cs.length:=by omega
 have hir:i < r.length:=by omega
 rw [List.getElem_zip] at h2
 have hf:=h i (cs[i]).2 (by unfold kindsL;simp [hic])
 have e:(cesL r).getD i (0,[])=ceL r[i]:=by unfold cesL;simp [List.getD,hir]
 rw [e] at hf
 subst h2
 exact hf.ok
theorem kinds_ok {cs:List ColB} (hS:errS (colsL cs)=0) {i:Nat} {kd:Int} (h:(kindsL cs)[i]?=some kd):0≤kd∧kd≤5:=by
 obtain ⟨hi,rfl⟩:=kindsL_at h
 have:=(errS_zero hS).2.2.2 (colL cs[i]) (List.mem_map.2 ⟨_,List.getElem_mem hi,rfl⟩)
 exact this.2
theorem rowsL_cons (p:PairB) (t:List PairB):rowsL (p :: t)=cesL p.1 :: rowsL t:=rfl
theorem asc_srt {cs:List ColB}:∀ {ps:List PairB},(∀ p ∈ ps,Vr cs p.1)→btAsc (ltE cs) (rowsL ps)=true→Z.srt (cmpR cs) ps
 | [],_,_=>List.Pairwise.nil
 | [p],_,_=>List.Pairwise.cons (fun x hx=>absurd hx (by simp)) List.Pairwise.nil
 | p :: q :: t,hV,h=>by
  rw [rowsL_cons,rowsL_cons,btAsc,Bool.and_eq_true,ltE_L] at h
  obtain ⟨h1,h2⟩:=h
  have h1:=of_decide_eq_true h1
  have ih:=asc_srt (ps:=q :: t) (fun x hx=>hV x (List.mem_cons_of_mem _ hx)) h2
  refine List.Pairwise.cons (fun x hx=>?_) ih
  rcases List.mem_cons.1 hx with rfl | hx
  ·exact h1
  ·exact (to_row cs).trans (hV p (by simp)) (hV q (by simp)) (hV x (by simp [hx])) h1 ((List.pairwise_cons.1 ih).1 x hx)
theorem srt_asc {cs:List ColB}:∀ {ps:List PairB},Z.srt (cmpR cs) ps→btAsc (ltE cs) (rowsL ps)=true
 | [],_=>rfl
 | [p],_=>rfl
 | p :: q :: t,h=>by
  obtain ⟨h1,h2⟩:=List.pairwise_cons.1 h
  rw [rowsL_cons,rowsL_cons,btAsc,Bool.and_eq_true,ltE_L]
  exact ⟨decide_eq_true (h1 q (by simp)),srt_asc (ps:=q :: t) h2⟩
theorem btCol_mem {k:Nat} {ps:List PairB} {c:Ce} (h:c ∈ btCol k (rowsL ps)):∃ p ∈ ps,c=(cesL p.1).getD k (0,[]):=by
 unfold btCol rowsL at h
 rw [List.map_map] at h
 obtain ⟨p,hp,rfl⟩:=List.mem_map.1 h
 exact ⟨p,hp,rfl⟩
theorem mem_btCol {k:Nat} {ps:List PairB} {p:PairB} (h:p ∈ ps):(cesL p.1).getD k (0,[]) ∈ btCol k (rowsL ps):=by
 unfold btCol rowsL
 rw [List.map_map]
 exact List.mem_map.2 ⟨p,h,rfl⟩
theorem set_ok {cs:List ColB} {ps:List PairB} (hP:PSO ps) (h:chkZ cs ps=0):PsOk cs ps∧BtOk (ltE cs) (kindsL cs) (psL ps):=by
 obtain ⟨hS,hn,hs⟩:=(chkZ_zero hP).1 h
 have hw:∀ p ∈ ps,p.1.length=cs.length:=fun p hp=>(errRow_len (hs.all p hp).1).2.1
 have hf:BtFit (kindsL cs) 0 (rowsL ps):=fun i kd hi=>⟨kinds_ok hS hi,fun c hc=>by
  rw [Nat.zero_add] at hc
  obtain ⟨p,hp,rfl⟩:=btCol_mem hc
  exact row_fit (hs.all p hp).1 (hs.all p hp).2 hi⟩
 have hc8:cs.length≤8:=by have:=(errS_zero hS).2.1;rw [colsL_length] at this;exact this
 refine ⟨⟨hc8,hn,hw,hf⟩,⟨?_,?_,?_,?_,?_⟩⟩
 ·rw [psL_rows];exact hf
 ·intro q hq
  obtain ⟨p,hp,rfl⟩:=List.mem_map.1 hq
  show (cesL p.1).length=_
  rw [cesL_length,hw p hp];unfold kindsL;rw [List.length_map]
 ·intro q hq
  obtain ⟨p,hp,rfl⟩:=List.mem_map.1 hq
  exact ⟨hs.nz p hp,(hP p hp).2⟩
 ·rw [psL_length];exact hn
 ·rw [psL_rows];exact srt_asc hs.srt
theorem ok_set {cs:List ColB} {ps:List PairB} (hP:PSO ps) (hS:errS (colsL cs)=0) (h:BtOk (ltE cs) (kindsL cs) (psL ps)):chkZ cs ps=0:=by
 have hV:∀ p ∈ ps,Vr cs p.1:=fun p hp=>by
  have hq:(cesL p.1,p.2) ∈ psL ps:=List.mem_map.2 ⟨p,hp,rfl⟩
  refine ⟨fit_row hS ?_ (fun i kd hi=>?_),(hP p hp).1⟩
  ·have:=h.wide _ hq
   rw [cesL_length] at this
   rw [this];unfold kindsL;rw [List.length_map]
  ·have:=(h.fit i kd hi).2
   rw [psL_rows,Nat.zero_add] at this
   exact this _ (mem_btCol hp)
 refine (chkZ_zero hP).2 ⟨hS,by have:=h.few;rw [psL_length] at this;exact this,?_,hV,fun p hp=>?_⟩
 ·have:=h.asc
  rw [psL_rows] at this
  exact asc_srt hV this
 ·have hq:(cesL p.1,p.2) ∈ psL ps:=List.mem_map.2 ⟨p,hp,rfl⟩
  exact (h.wts _ hq).1
end Go.Proofs.YtpcobefhgkiolaaGreatDoor

