/- -/
import Derived.Test.YtpcobefhgkiolaaGreatDoorAColM
import Derived.Test.YtpcobefhgkiolaaGreatDoorAColSh
import Derived.Test.YtpcobefhgkiolaaGreatDoorABaseB
import Derived.Test.YtpcobefhgkiolaaGreatDoorAZDefs
set_option linter.unusedVariables false
set_option linter.unusedSimpArgs false
set_option maxRecDepth 1000000
namespace Go.Proofs.YtpcobefhgkiolaaGreatDoor
open Go.RowKit
abbrev Bp:=List Ce × Int
def btCol (k:Nat) (a:List (List Ce)):List Ce:=a.map fun r=>r.getD k (0,[])
def btCols:List Int→Nat→List (List Ce)→List UInt8
 | [],_,_=>[]
 | kd :: r,k,a=>wrC kd (btCol k a) ++ btCols r (k + 1) a
def btWs:List Int→List UInt8
 | []=>[]
 | x :: r=>encU (zig x) ++ btWs r
def btWr (kinds:List Int) (a:List Bp):List UInt8:=encU a.length ++ (btCols kinds 0 (a.map fun p=>p.1) ++ btWs (a.map fun p=>p.2))
def btRdCols (l:List UInt8) (n:Int):List Int→Nat→List (List Ce) × Nat × Nat
 | [],k=>([],k,0)
 | kd :: r,k =>
  if (rdK l kd n k).2.2≠0 then ([],(rdK l kd n k).2.1,(rdK l kd n k).2.2)
  else if (btRdCols l n r (rdK l kd n k).2.1).2.2≠0 then ([],(btRdCols l n r (rdK l kd n k).2.1).2.1,(btRdCols l n r (rdK l kd n k).2.1).2.2)
  else ((rdK l kd n k).1 :: (btRdCols l n r (rdK l kd n k).2.1).1,(btRdCols l n r (rdK l kd n k).2.1).2.1,0)
def btRdWs (l:List UInt8):Nat→Nat→List Int × Nat × Nat
 | 0,k=>([],k,0)
 | m + 1,k =>
  if (rdU l k 18446744073709551615).2.2≠0 then ([],(rdU l k 18446744073709551615).2.1,(rdU l k 18446744073709551615).2.2)
  else if zag (rdU l k 18446744073709551615).1=0 then ([],(rdU l k 18446744073709551615).2.1,2)
  else if (btRdWs l m (rdU l k 18446744073709551615).2.1).2.2≠0 then ([],(btRdWs l m (rdU l k 18446744073709551615).2.1).2.1,(btRdWs l m (rdU l k 18446744073709551615).2.1).2.2)
  else (zag (rdU l k 18446744073709551615).1 :: (btRdWs l m (rdU l k 18446744073709551615).2.1).1,(btRdWs l m (rdU l k 18446744073709551615).2.1).2.1,0)
def btRows (n:Nat) (cols:List (List Ce)):List (List Ce):=(List.range n).map fun i=>cols.map fun c=>c.getD i (0,[])
def btAsc (lt:List Ce→List Ce→Bool):List (List Ce)→Bool
 | []=>true
 | [_]=>true
 | a :: b :: r=>lt a b && btAsc lt (b :: r)
def btRd (lt:List Ce→List Ce→Bool) (l:List UInt8) (kinds:List Int) (k:Nat):List Bp × Nat × Nat :=
 if (rdU l k 1024).2.2≠0 then ([],(rdU l k 1024).2.1,(rdU l k 1024).2.2)
 else if (btRdCols l (rdU l k 1024).1 kinds (rdU l k 1024).2.1).2.2≠0 then ([],(btRdCols l (rdU l k 1024).1 kinds (rdU l k 1024).2.1).2.1,(btRdCols l (rdU l k 1024).1 kinds (rdU l k 1024).2.1).2.2)
 else if (btRdWs l (rdU l k 1024).1 (btRdCols l (rdU l k 1024).1 kinds (rdU l k 1024).2.1).2.1).2.2≠0 then ([],(btRdWs l (rdU l k 1024).1 (btRdCols l (rdU l k 1024).1 kinds (rdU l k 1024).2.1).2.1).2.1,(btRdWs l (rdU l k 1024).1 (btRdCols l (rdU l k 1024).1 kinds (rdU l k 1024).2.1).2.1).2.2)
 else if btAsc lt (btRows (rdU l k 1024).1 (btRdCols l (rdU l k 1024).1 kinds (rdU l k 1024).2.1).1)=false then ([],(btRdWs l (rdU l k 1024).1 (btRdCols l (rdU l k 1024).1 kinds (rdU l k 1024).2.1).2.1).2.1,9)
 else ((btRows (rdU l k 1024).1 (btRdCols l (rdU l k 1024).1 kinds (rdU l k 1024).2.1).1).zip (btRdWs l (rdU l k 1024).1 (btRdCols l (rdU l k 1024).1 kinds (rdU l k 1024).2.1).2.1).1,(btRdWs l (rdU l k 1024).1 (btRdCols l (rdU l k 1024).1 kinds (rdU l k 1024).2.1).2.1).2.1,0)
theorem btCol_length (k:Nat) (a:List (List Ce)):(btCol k a).length=a.length:=by unfold btCol;rw [List.length_map]
def BtFit (kinds:List Int) (k:Nat) (a:List (List Ce)):Prop:=∀ i kd,kinds[i]?=some kd→(0≤kd∧kd≤5)∧∀ c ∈ btCol (k + i) a,Fit kd c
theorem BtFit.cons {kd:Int} {r:List Int} {k:Nat} {a:List (List Ce)} (h:BtFit (kd :: r) k a):((0≤kd∧kd≤5)∧∀ c ∈ btCol k a,Fit kd c)∧BtFit r (k + 1) a:=by
 refine ⟨by simpa using h 0 kd rfl,fun i x hx=>?_⟩
 have:=h (i + 1) x (by simpa using hx)
 rw [show k + 1 + i=k + (i + 1) from by omega]
 exact this
theorem btRdCols_put (l m:List UInt8) (a:List (List Ce)) (hn:a.length≤1024):∀ (kinds:List Int) (j k:Nat),BtFit kinds j a→l.drop k=btCols kinds j a ++ m →
  btRdCols l a.length kinds k=((List.range kinds.length).map (fun i=>btCol (j + i) a),k + (btCols kinds j a).length,0)
 | [],j,k,h,hd=>by simp [btRdCols,btCols]
 | kd :: r,j,k,h,hd=>by
  obtain ⟨⟨h1,h2⟩,h3⟩:=h.cons
  rw [btCols,List.append_assoc] at hd
  have hp:=rdK_put (l:=l) (m:=btCols r (j + 1) a ++ m) (k:=k) h1 h2 (by rw [btCol_length];exact hn) hd
  rw [btCol_length] at hp
  have hd2:=col_drop hd
  have ih:=btRdCols_put l m a hn r (j + 1) _ h3 hd2
  rw [btRdCols,hp]
  dsimp only
  rw [ih,if_neg (by simp),if_neg (by simp)]
  rw [List.length_cons,List.range_succ_eq_map,List.map_cons,List.map_map,btCols,List.length_append]
  refine Prod.ext ?_ (Prod.ext (by dsimp only;omega) rfl)
  dsimp only
  rw [Nat.add_zero]
  congr 1
  refine List.map_congr_left fun i _=>?_
  simp only [Function.comp]
  rw [show j + 1 + i=j + (i + 1) from by omega]
def WtOk (x:Int):Prop:=x≠0∧-9223372036854775808≤x∧x≤9223372036854775807
theorem btRdWs_put (l m:List UInt8):∀ (ws:List Int) (k:Nat),(∀ x ∈ ws,WtOk x)→l.drop k=btWs ws ++ m→btRdWs l ws.length k=(ws,k + (btWs ws).length,0)
 | [],k,h,hd=>by simp [btRdWs,btWs]
 | x :: r,k,h,hd=>by
  obtain ⟨h0,h1,h2⟩:=h x (by simp)
  rw [btWs,List.append_assoc] at hd
  have hz:=zig_lt x h1 h2
  have hp:=colU_at (most:=18446744073709551615) hd (by omega) (by omega)
  have ih:=btRdWs_put l m r _ (fun y hy=>h y (by simp [hy])) (col_drop hd)
  rw [List.length_cons,btRdWs,hp]
  dsimp only
  rw [ih,if_neg (by simp),zag_zig,if_neg h0,if_neg (by simp),btWs,List.length_append]
  refine Prod.ext rfl (Prod.ext (by dsimp only;omega) rfl)
theorem getD_self (r:List Ce):(List.range r.length).map (fun j=>r.getD j (0,[]))=r:=by
 apply List.ext_getElem
 ·simp
 ·intro i h1 h2
  simp [List.getD,h2]
theorem btRows_cols (K:Nat) (rows:List (List Ce)) (h:∀ r ∈ rows,r.length=K):btRows rows.length ((List.range K).map fun i=>btCol (0 + i) rows)=rows:=by
 unfold btRows
 apply List.ext_getElem
 ·simp
 ·intro i h1 h2
  rw [List.getElem_map,List.getElem_range,List.map_map]
  have hk:=h _ (List.getElem_mem h2)
  rw [show (List.range K).map ((fun c=>List.getD c i (0,[])) ∘ fun j=>btCol (0 + j) rows)=(List.range K).map (fun j=>(rows[i]).getD j (0,[])) from by
   refine List.map_congr_left fun j _=>?_
   simp only [Function.comp,Nat.zero_add]
   unfold btCol
   simp [List.getD,h2]]
  rw [← hk]
  exact getD_self _
theorem zip_back:∀ (a:List Bp),(a.map fun p=>p.1).zip (a.map fun p=>p.2)=a
 | []=>rfl
 | p :: r=>by rw [List.map_cons,List.map_cons,List.zip_cons_cons,zip_back r]
structure BtOk (lt:List Ce→List Ce→Bool) (kinds:List Int) (a:List Bp):Prop where
 fit:BtFit kinds 0 (a.map fun p=>p.1)
 wide:∀ p ∈ a,p.1.length=kinds.length
 wts:∀ p ∈ a,WtOk p.2
 few:a.length≤1024
 asc:btAsc lt (a.map fun p=>p.1)=true
theorem btRd_put {lt:List Ce→List Ce→Bool} {l m:List UInt8} {kinds:List Int} {a:List Bp} {k:Nat} (h:BtOk lt kinds a) (hd:l.drop k=btWr kinds a ++ m):btRd lt l kinds k=(a,k + (btWr kinds a).length,0):=by
 have hfew:=h.few
 unfold btWr at hd ⊢
 rw [List.append_assoc,List.append_assoc] at hd
 have h1:=colU_at (most:=1024) hd (by omega) h.few
 have hd2:=col_drop hd
 have hlf:(a.map fun p=>p.1).length=a.length:=List.length_map ..
 have hls:(a.map fun p=>p.2).length=a.length:=List.length_map ..
 have h2:=btRdCols_put l (btWs (a.map fun p=>p.2) ++ m) (a.map fun p=>p.1) (by rw [hlf];exact h.few) kinds 0 _ h.fit hd2
 have hd3:=col_drop hd2
 have h3:=btRdWs_put l m (a.map fun p=>p.2) _ (fun x hx=>by obtain ⟨p,hp,rfl⟩:=List.mem_map.1 hx;exact h.wts p hp) hd3
 have h4:=btRows_cols kinds.length (a.map fun p=>p.1) (fun r hr=>by obtain ⟨p,hp,rfl⟩:=List.mem_map.1 hr;exact h.wide p hp)
 rw [hlf] at h2 h4
 rw [hls] at h3
 unfold btRd
 rw [h1]
 dsimp only
 rw [h2]
 dsimp only
 rw [h3]
 dsimp only
 rw [h4,if_neg (by simp),if_neg (by simp),if_neg (by simp),h.asc,if_neg (by decide),zip_back]
 rw [List.length_append,List.length_append]
 refine Prod.ext rfl (Prod.ext (by dsimp only;omega) rfl)
def btText (rows:List (List Ce)):Nat:=match rows with
 | []=>0
 | r :: t=>sumT r + btText t
def btColsT:Nat→Nat→List (List Ce)→Nat
 | 0,_,_=>0
 | K + 1,j,rows=>sumT (btCol j rows) + btColsT K (j + 1) rows
def btRowT:Nat→Nat→List Ce→Nat
 | 0,_,_=>0
 | K + 1,j,r=>(r.getD j (0,[])).2.length + btRowT K (j + 1) r
theorem btColsT_nil:∀ (K j:Nat),btColsT K j []=0
 | 0,j=>rfl
 | K + 1,j=>by rw [btColsT,btColsT_nil K (j + 1)];rfl
theorem btColsT_cons:∀ (K j:Nat) (r:List Ce) (t:List (List Ce)),btColsT K j (r :: t)=btRowT K j r + btColsT K j t
 | 0,j,r,t=>rfl
 | K + 1,j,r,t=>by
  rw [btColsT,btColsT_cons K (j + 1) r t,btRowT,btColsT]
  show (r.getD j (0,[])).2.length + sumT (btCol j t) + _=_
  omega
theorem btRowT_drop:∀ (K j:Nat) (r:List Ce),r.length=j + K→btRowT K j r=sumT (r.drop j)
 | 0,j,r,h=>by rw [btRowT,List.drop_of_length_le (by omega)];rfl
 | K + 1,j,r,h=>by
  have hj:j < r.length:=by omega
  rw [btRowT,btRowT_drop K (j + 1) r (by omega),List.drop_eq_getElem_cons hj,sumT]
  simp [List.getD,hj]
theorem btColsT_text:∀ (K:Nat) (rows:List (List Ce)),(∀ r ∈ rows,r.length=K)→btColsT K 0 rows=btText rows
 | K,[],h=>by rw [btColsT_nil];rfl
 | K,r :: t,h=>by
  rw [btColsT_cons,btColsT_text K t (fun x hx=>h x (by simp [hx])),btRowT_drop K 0 r (by rw [h r (by simp)];omega),List.drop_zero]
  rfl
theorem btCols_le:∀ (kinds:List Int) (j:Nat) (rows:List (List Ce)),BtFit kinds j rows→(btCols kinds j rows).length≤10 * rows.length * kinds.length + btColsT kinds.length j rows
 | [],j,rows,h=>by simp [btCols]
 | kd :: r,j,rows,h=>by
  obtain ⟨⟨_,h2⟩,h3⟩:=h.cons
  have h1:=wrC_le h2
  have ih:=btCols_le r (j + 1) rows h3
  rw [btCol_length] at h1
  rw [btCols,List.length_append,List.length_cons,btColsT,Nat.mul_add]
  omega
theorem btWs_le:∀ (ws:List Int),(∀ x ∈ ws,WtOk x)→(btWs ws).length≤10 * ws.length
 | [],_=>by simp [btWs]
 | x :: r,h=>by
  obtain ⟨_,h1,h2⟩:=h x (by simp)
  have:=encU_le (zig x) (zig_lt x h1 h2)
  have ih:=btWs_le r (fun y hy=>h y (by simp [hy]))
  rw [btWs,List.length_append,List.length_cons];omega
theorem btWr_le {lt:List Ce→List Ce→Bool} {kinds:List Int} {a:List Bp} (h:BtOk lt kinds a):(btWr kinds a).length≤12 + 10 * a.length * (kinds.length + 1) + btText (a.map fun p=>p.1):=by
 have hfew:=h.few
 have h1:=encU_le a.length (by omega)
 have h2:=btCols_le kinds 0 (a.map fun p=>p.1) h.fit
 have h3:=btWs_le (a.map fun p=>p.2) (fun x hx=>by obtain ⟨p,hp,rfl⟩:=List.mem_map.1 hx;exact h.wts p hp)
 rw [btColsT_text kinds.length (a.map fun p=>p.1) (fun r hr=>by obtain ⟨p,hp,rfl⟩:=List.mem_map.1 hr;exact h.wide p hp)] at h2
 rw [List.length_map] at h2 h3
 unfold btWr
 rw [List.length_append,List.length_append,Nat.mul_add,Nat.mul_one]
 omega
end Go.Proofs.YtpcobefhgkiolaaGreatDoor


/- -/
namespace Go.Proofs.YtpcobefhgkiolaaGreatDoor
open Go.RowKit
def kindsL (cs:List ColB):List Int:=cs.map fun c=>c.2
def rowsL (ps:List PairB):List (List Ce):=ps.map fun p=>cesL p.1
def psL (ps:List PairB):List Bp:=ps.map fun p=>(cesL p.1,p.2)
theorem psL_rows (ps:List PairB):(psL ps).map (fun p=>p.1)=rowsL ps:=by unfold psL rowsL;rw [List.map_map];rfl
theorem psL_wts (ps:List PairB):(psL ps).map (fun p=>p.2)=ps.map (fun p=>p.2):=by unfold psL;rw [List.map_map];rfl
theorem psL_length (ps:List PairB):(psL ps).length=ps.length:=by unfold psL;rw [List.length_map]
theorem rowsL_length (ps:List PairB):(rowsL ps).length=ps.length:=by unfold rowsL;rw [List.length_map]
def colB (k:Nat) (ps:List PairB):List CellB:=ps.map fun p=>p.1.getD k default
theorem colB_length (k:Nat) (ps:List PairB):(colB k ps).length=ps.length:=by unfold colB;rw [List.length_map]
theorem colB_take {k i:Nat} {ps:List PairB} (hi:i < ps.length):colB k (ps.take (i + 1))=colB k (ps.take i) ++ [(ps.getD i default).1.getD k default]:=by
 unfold colB
 rw [take_succD hi default,List.map_append];rfl
theorem cesL_colB {k:Nat} {ps:List PairB} (h:∀ p ∈ ps,k < p.1.length):cesL (colB k ps)=btCol k (rowsL ps):=by
 unfold cesL colB btCol rowsL
 rw [List.map_map,List.map_map]
 refine List.map_congr_left fun p hp=>?_
 have hk:=h p hp
 simp only [Function.comp]
 unfold cesL
 simp [List.getD,hk]
theorem colB_ces {k:Nat} {ps:List PairB} (hP:PSO ps) (h:∀ p ∈ ps,k < p.1.length):CES (colB k ps):=by
 intro c hc
 obtain ⟨p,hp,rfl⟩:=List.mem_map.1 hc
 exact (hP p hp).1.get (h p hp)
theorem btCols_snoc (a:List (List Ce)):∀ (ks:List Int) (j:Nat) (kd:Int),btCols (ks ++ [kd]) j a=btCols ks j a ++ wrC kd (btCol (j + ks.length) a)
 | [],j,kd=>by simp [btCols]
 | x :: r,j,kd=>by
  rw [List.cons_append,btCols,btCols_snoc a r (j + 1) kd,btCols,List.length_cons,List.append_assoc]
  rw [show j + 1 + r.length=j + (r.length + 1) from by omega]
theorem btWs_snoc:∀ (ws:List Int) (x:Int),btWs (ws ++ [x])=btWs ws ++ encU (zig x)
 | [],x=>by simp [btWs]
 | y :: r,x=>by rw [List.cons_append,btWs,btWs_snoc r x,btWs,List.append_assoc]
structure PsOk (cs:List ColB) (ps:List PairB):Prop where
 cols:cs.length≤8
 few:ps.length≤1024
 wide:∀ p ∈ ps,p.1.length=cs.length
 fit:BtFit (kindsL cs) 0 (rowsL ps)
theorem PsOk.col {cs:List ColB} {ps:List PairB} (h:PsOk cs ps) {k:Nat} (hk:k < cs.length):(0≤(cs.getD k default).2∧(cs.getD k default).2≤5)∧(∀ c ∈ btCol k (rowsL ps),Fit (cs.getD k default).2 c)∧(wrC (cs.getD k default).2 (btCol k (rowsL ps))).length≤272384:=by
 have e:(kindsL cs)[k]?=some (cs.getD k default).2:=by unfold kindsL;simp [List.getD,hk]
 obtain ⟨h1,h2⟩:=h.fit k _ e
 rw [Nat.zero_add] at h2
 refine ⟨h1,h2,?_⟩
 have h3:=wrC_le h2
 have h4:sumT (btCol k (rowsL ps))≤256 * (btCol k (rowsL ps)).length:=by
  generalize btCol k (rowsL ps)=l at h2
  clear h3
  induction l with
  | nil=>simp [sumT]
  | cons c r ih =>
   have i1:=ih (fun x hx=>h2 x (by simp [hx]))
   have i2:=h2 c (by simp)
   have i3:c.2.length≤256:=by
    by_cases ht:(cs.getD k default).2=3∨(cs.getD k default).2=4
    ·exact (i2.text ht).2.1
    ·rw [(i2.num ht).1];simp
   rw [sumT,List.length_cons];omega
 rw [btCol_length,rowsL_length] at h3 h4
 have:=h.few
 omega
set_option maxHeartbeats 16000000 in
theorem ref_Write10 (sv av:Value) (cs:List ColB) (ps:List PairB) (w:World) (hR:RdC w sv cs) (hP:RdP w av ps) (hC:CS cs) (hPS:PSO ps) (ck:Nat)
  (hCk:∀ wz,Below w.heap.size w wz→Calls Tryz.prog 107 #[sv,av] wz fun e w'=>e=.returned (.int .i64 (ck:Int))∧Below wz.heap.size wz w') (hOk:ck=0→PsOk cs ps) :
  Calls Tryz.prog 110 #[sv,av] w fun e w'=>∃ b,e=.returned (.tuple #[b,.int .i64 (ck:Int)])∧Own w' w.heap.size b (if ck=0 then btWr (kindsL cs) (psL ps) else [])∧Below w.heap.size w w':=by
 have HCk:=h_ (hCk w (Below.refl _ _))
 by_cases h0:ck=0
 ·subst h0
  rw [if_pos rfl]
  have hok:=hOk rfl
  have hfew:=hok.few
  have hcols:=hok.cols
  have hln:=hP.len
  have hlc:=hR.len
  obtain ⟨n,hn⟩:∃ n,n=ps.length:=⟨_,rfl⟩
  obtain ⟨K,hK⟩:∃ K,K=cs.length:=⟨_,rfl⟩
  rw [← hn] at hln hfew
  rw [← hK] at hlc hcols
  have HN:=h_ hn
  have HK:=h_ hK
  have HOK:=h_ hok
  have HR:=h_ hR
  have HP:=h_ hP
  have HC:=h_ hC
  have HPS:=h_ hPS
  clear hR hP hC hPS hCk hOk hok hn hK
  go_enter Tryz.func110,Tryz.ntmps110
  go_wp2_with fail
  refine HCk.out.mono ?_
  rintro e w1 ⟨rfl,hb⟩
  have HB1:=h_ hb
  clear hb HCk
  go_wp2_with fail
  refine (ref_Uint (n:Int) (by omega) (by omega) w1).mono ?_
  rintro e w2 ⟨ov,rfl,hO,hb⟩
  rw [Int.toNat_natCast] at hO
  have HB2:=h_ (HB1.out.trans (hb.mono HB1.out.size))
  have HO2:=h_ (hO.base (base':=w.heap.size) HB1.out.size)
  have hle0:=encU_le n (by omega)
  clear hb hO HB1
  go_wp2
  go_loopw [7,8] (fun b i wr=>∃ k:Nat,k≤K∧i=.int .i64 k∧Hid (Below w.heap.size w wr)∧Hid (Own wr w.heap.size b (encU n ++ btCols ((kindsL cs).take k) 0 (rowsL ps)))∧Hid ((encU n ++ btCols ((kindsL cs).take k) 0 (rowsL ps)).length≤10 + k * 272384)) (fun _ i _=>K - (intOf i).toNat)
  case atStart=>exact ⟨0,by omega,rfl,HB2,h_ (by rw [List.take_zero,btCols,List.append_nil];exact HO2.out),h_ (by rw [List.take_zero,btCols,List.append_nil];omega)⟩
  case round =>
   clear HB2 HO2
   obtain ⟨k,hk,rfl,HB,HO,HL⟩:=hrel
   by_cases hlt:k < K
   ·have hkc:k < cs.length:=by rw [← HK.out];exact hlt
    have d1:decide ((k:Int) < (K:Int))=true:=decide_eq_true (by omega)
    obtain ⟨bo,hbo⟩:∃ bo,bo=wr.heap.size:=⟨_,rfl⟩
    have HBo:=h_ (show w.heap.size≤bo by rw [hbo];exact HB.out.size)
    have HQ7:=h_ (show ∀ q,u7.ownBlock=some q→q < bo from fun q hq=>by rw [hbo];exact (World.ownsRow.lt HO.out q hq).2)
    have HBs:=h_ (show bo≤wr.heap.size by omega)
    have HO':=h_ HO.out
    have HKn:=h_ (show k < cs.length from hkc)
    clear hbo
    go_wp2
    go_loopw [9,10] (fun b i wi=>∃ j:Nat,j≤n∧i=.int .i64 j∧Hid (Below w.heap.size w wi)∧Hid (bo≤wi.heap.size)∧Hid (Own wi w.heap.size u7 (encU n ++ btCols ((kindsL cs).take k) 0 (rowsL ps)))∧Hid (OwnE wi bo b (colB k (ps.take j)))) (fun _ i _=>n - (intOf i).toNat)
    case atStart=>exact ⟨0,by omega,rfl,HB,HBs,HO',h_ (OwnE.nil _ _)⟩
    case round =>
     clear HB HO HO' HBs
     obtain ⟨j,hj,rfl,HB,HBs,HO,HE⟩:=hrel
     by_cases hjn:j < n
     ·have hjp:j < ps.length:=by rw [← HN.out];exact hjn
      have d2:decide ((j:Int) < (n:Int))=true:=decide_eq_true (by omega)
      have hr:=HP.out.later HB.out l_
      obtain ⟨b,o,rv,hidx,hc0,hc1,hre,_⟩:=hr.get hjp
      have hmem:ps.getD j default ∈ ps:=by
       have e:ps.getD j default=ps[j]:=by simp [List.getD,hjp]
       rw [e];exact List.getElem_mem _
      have hwd:=HOK.out.wide _ hmem
      have hkw:k < (ps.getD j default).1.length:=by rw [hwd];exact hkc
      obtain ⟨b2,o2,hidx2,hcell2,_⟩:=hre.get hkw
      obtain ⟨e0,e1⟩:=hcell2 _ hre
      have hct:=colB_take (k:=k) hjp
      rcases hcg:(ps.getD j default).1.getD k default with ⟨x,t⟩
      rw [hcg] at e0 e1 hct
      dsimp only at e0 e1
      have HCT:=h_ hct
      have HB7:=h_ (show Below w.heap.size w (wr.alloc (.cells #[.int .u64 (x:Int),.string t] 83)) from HB.out.alloc HB.out.size _)
      have HE7:=h_ (HE.out.alloc (.cells #[.int .u64 (x:Int),.string t] 83))
      have HO7:=h_ (HO.out.alloc (.cells #[.int .u64 (x:Int),.string t] 83))
      have hs7:bo≤(wr.alloc (.cells #[.int .u64 (x:Int),.string t] 83)).heap.size:=by rw [World.size_alloc];have:=HBs.out;omega
      clear hct hcg hcell2 hre hr hwd hkw hmem
      go_wp2_with (with_reducible refine wplE_append bo _ ?hsE HE7.out ⟨wr.heap.size,0,none⟩ (x,t) ?hxE (one_cellv wr (x,t)) ?hnE hs7 w.heap.size w HB7.out HBo.out ?_)
      case hsE=>rfl
      case hxE=>rfl
      case hnE=>rw [colB_length,List.length_take];omega
      intro v8 w8 hE8 hB8 hg8
      have HE8:=h_ (show OwnE w8 bo v8 (colB k (ps.take (j + 1))) from by rw [HCT.out];exact hE8)
      have HB8:=h_ hB8
      have HO8:=h_ (HO7.out.grown9 hg8 (fun q h1 h2=>by have h3:=HQ7.out q h1;have h4:=(OwnE.lt HE7.out h2.symm).1;omega))
      have HBs8:=h_ (Nat.le_trans hs7 hg8.size)
      clear hE8 hB8 hg8 HB HO HE HBs HB7 HE7 HO7 hs7 hc0 hc1 e0 e1 hidx hidx2
      go_wp2
      go_roundw
      case rel=>exact ⟨j + 1,by omega,by go_num,HB8,HBs8,HO8,HE8⟩
      case measure=>simp [intOf];omega
     ·obtain rfl:j=n:=by omega
      have d2:decide ((j:Int) < (j:Int))=false:=decide_eq_false (by omega)
      have htk:ps.take j=ps:=List.take_of_length_le (by rw [← HN.out];exact l_)
      have hwd:∀ p ∈ ps,k < p.1.length:=fun p hp=>by rw [HOK.out.wide p hp];exact hkc
      have hcl:=cesL_colB hwd
      obtain ⟨f1,f2,f3⟩:=HOK.out.col hkc
      have hrc:=HR.out.later HB.out l_
      obtain ⟨b,o,hidx,hcell,_⟩:=hrc.get hkc
      obtain ⟨e0,e1⟩:=hcell _ hrc
      rcases hcg:cs.getD k default with ⟨nm,kd⟩
      rw [hcg] at e0 e1 f1 f2 f3
      dsimp only at e0 e1 f1 f2 f3
      have hWE:wrE kd (cesL (colB k ps))=0:=by
       unfold wrE;rw [if_neg (by omega)]
       refine fit_errK (fun c hc=>?_)
       rw [hcl] at hc;exact f2 c hc
      have hsum:10 * (colB k ps).length + sumT (cesL (colB k ps))≤1000000:=by
       have h1:sumT (cesL (colB k ps))≤256 * (cesL (colB k ps)).length:=by
        rw [hcl]
        generalize btCol k (rowsL ps)=l at f2
        clear f3 hcl
        induction l with
        | nil=>simp [sumT]
        | cons c r ih =>
         have i1:=ih (fun x hx=>f2 x (by simp [hx]))
         have i2:=f2 c (by simp)
         have i3:c.2.length≤256:=by
          by_cases ht:kd=3∨kd=4
          ·exact (i2.text ht).2.1
          ·rw [(i2.num ht).1];simp
         rw [sumT,List.length_cons];omega
       rw [cesL_length] at h1
       rw [colB_length] at h1 ⊢
       have:=HOK.out.few
       omega
      have hE9:=HE.out
      rw [htk] at hE9
      have CW:=h_ (ref_Write09 u9 kd (colB k ps) wr (hE9.rd (by rw [colB_length,← HN.out];omega)) (colB_ces HPS.out hwd) (by omega) hsum)
      have HWE:=h_ hWE
      have HCL:=h_ hcl
      have HF3:=h_ f3
      have hkt:(kindsL cs).take (k + 1)=(kindsL cs).take k ++ [kd]:=by
       have hkl:k < (kindsL cs).length:=by unfold kindsL;rw [List.length_map];exact hkc
       rw [take_succD hkl 0]
       unfold kindsL
       simp [List.getD,hkc] at hcg ⊢
       rw [hcg]
      have hkl2:((kindsL cs).take k).length=k:=by rw [List.length_take];unfold kindsL;rw [List.length_map];omega
      have HKT:=h_ hkt
      have HKL:=h_ hkl2
      clear hcl f1 f2 f3 hcg hWE hsum hE9 htk hwd hcell hrc hkt hkl2 hjn
      go_wp2_with fail
      refine CW.out.mono ?_
      rintro e w3 ⟨bv,rfl,hOb,hb⟩
      rw [HWE.out]
      rw [HWE.out,if_pos rfl,HCL.out] at hOb
      have HB3:=h_ (HB.out.trans (hb.mono HB.out.size))
      have HO3:=h_ (HO.out.later hb l_)
      have HRd3:=h_ (hOb.rd (by have:=HF3.out;omega))
      clear hb hOb CW HB HO HE HBs e0 e1 hidx
      go_wp2_with (with_reducible refine wpl_append w.heap.size _ _ ?hsO HO3.out _ _ ?hxO HRd3.out ?hnO HB3.out.size w.heap.size w HB3.out l_ ?_)
      case hsO=>rfl
      case hxO=>rfl
      case hnO=>have:=HL.out;have:=HF3.out;omega
      intro v5 w5 hO5 hB5 hg5
      have HB5:=h_ hB5
      have HO5:=h_ (show Own w5 w.heap.size v5 (encU j ++ btCols ((kindsL cs).take (k + 1)) 0 (rowsL ps)) from by rw [HKT.out,btCols_snoc,HKL.out,Nat.zero_add,← List.append_assoc];exact hO5)
      have HL5:=h_ (show (encU j ++ btCols ((kindsL cs).take (k + 1)) 0 (rowsL ps)).length≤10 + (k + 1) * 272384 from by
       have h1:=HL.out
       have h2:=HF3.out
       rw [HKT.out,btCols_snoc,HKL.out,Nat.zero_add,← List.append_assoc,List.length_append]
       omega)
      clear hO5 hB5 hg5 HB3 HO3 HRd3
      go_wp2
      go_roundw
      case rel=>exact ⟨k + 1,by omega,by go_num,HB5,HO5,HL5⟩
      case measure=>simp [intOf];omega
   ·obtain rfl:k=K:=by omega
    have d1:decide ((k:Int) < (k:Int))=false:=decide_eq_false (by omega)
    have htk:(kindsL cs).take k=kindsL cs:=List.take_of_length_le (by unfold kindsL;rw [List.length_map,← HK.out];exact l_)
    have HO2:=h_ (show Own wr w.heap.size u7 ((encU n ++ btCols (kindsL cs) 0 (rowsL ps)) ++ btWs ((ps.map fun p=>p.2).take 0)) from by rw [List.take_zero,btWs,List.append_nil];have:=HO.out;rw [htk] at this;exact this)
    have HL2:=h_ (show (encU n ++ btCols (kindsL cs) 0 (rowsL ps)).length≤2500000 from by have:=HL.out;rw [htk] at this;omega)
    clear htk HO HL hlt
    go_wp2
    go_loopw [7,13] (fun b i wr=>∃ j:Nat,j≤n∧i=.int .i64 j∧Hid (Below w.heap.size w wr)∧Hid (Own wr w.heap.size b ((encU n ++ btCols (kindsL cs) 0 (rowsL ps)) ++ btWs ((ps.map fun p=>p.2).take j)))∧Hid ((btWs ((ps.map fun p=>p.2).take j)).length≤10 * j)) (fun _ i _=>n - (intOf i).toNat)
    case atStart=>exact ⟨0,by omega,rfl,HB,HO2,h_ (by rw [List.take_zero];simp [btWs])⟩
    case round =>
     clear HB HO2
     obtain ⟨j,hj,rfl,HB,HO,HL⟩:=hrel
     by_cases hjn:j < n
     ·have hjp:j < ps.length:=by rw [← HN.out];exact hjn
      have d2:decide ((j:Int) < (n:Int))=true:=decide_eq_true (by omega)
      have hr:=HP.out.later HB.out l_
      obtain ⟨b,o,rv,hidx,hc0,hc1,hre,_⟩:=hr.get hjp
      have hin:=(HPS.out.get hjp).2
      have hsn:(ps.map fun p=>p.2).take (j + 1)=(ps.map fun p=>p.2).take j ++ [(ps.getD j default).2]:=by
       rw [take_succD (by rw [List.length_map];exact hjp) 0]
       simp [List.getD,hjp]
      obtain ⟨x,hx⟩:∃ x,x=(ps.getD j default).2:=⟨_,rfl⟩
      rw [← hx] at hc1 hin hsn
      have HSn:=h_ hsn
      have HIn:=h_ hin
      have hle:=encU_le (zig x) (zig_lt x hin.1 hin.2)
      clear hx hsn hr hre hin
      go_wp2_with fail
      refine (ref_Int x HIn.out.1 HIn.out.2 wr).mono ?_
      rintro e w3 ⟨yv,rfl,hOy,hb⟩
      have HB3:=h_ (HB.out.trans (hb.mono HB.out.size))
      have HO3:=h_ (HO.out.later hb l_)
      have HRd3:=h_ (hOy.rd (by omega))
      clear hb hOy HB HO hc0 hc1 hidx
      go_wp2_with (with_reducible refine wpl_append w.heap.size _ _ ?hsW HO3.out _ _ ?hxW HRd3.out ?hnW HB3.out.size w.heap.size w HB3.out l_ ?_)
      case hsW=>rfl
      case hxW=>rfl
      case hnW=>rw [List.length_append];have:=HL.out;have:=HL2.out;omega
      intro v5 w5 hO5 hB5 hg5
      have HB5:=h_ hB5
      have HO5:=h_ (show Own w5 w.heap.size v5 ((encU n ++ btCols (kindsL cs) 0 (rowsL ps)) ++ btWs ((ps.map fun p=>p.2).take (j + 1))) from by rw [HSn.out,btWs_snoc,← List.append_assoc];exact hO5)
      have HL5:=h_ (show (btWs ((ps.map fun p=>p.2).take (j + 1))).length≤10 * (j + 1) from by rw [HSn.out,btWs_snoc,List.length_append];have:=HL.out;omega)
      clear hO5 hB5 hg5 HB3 HO3 HRd3
      go_wp2
      go_roundw
      case rel=>exact ⟨j + 1,by omega,by go_num,HB5,HO5,HL5⟩
      case measure=>simp [intOf];omega
     ·obtain rfl:j=n:=by omega
      have d2:decide ((j:Int) < (j:Int))=false:=decide_eq_false (by omega)
      have htk:(ps.map fun p=>p.2).take j=ps.map fun p=>p.2:=List.take_of_length_le (by rw [List.length_map,← HN.out];exact l_)
      have HOe:=h_ (show Own wr w.heap.size u7 (btWr (kindsL cs) (psL ps)) from by
       have:=HO.out
       rw [htk] at this
       unfold btWr
       rw [psL_length,psL_rows,psL_wts,← HN.out,← List.append_assoc]
       exact this)
      clear htk HO HL hjn
      go_wp2
      go_ret2
      exact ⟨_,rfl,HOe.out,HB.out⟩
 ·rw [if_neg h0]
  have hq:((ck:Int) != 0)=true:=by rw [bne_iff_ne];omega
  clear hR hP hC hPS hCk hOk h0
  go_enter Tryz.func110,Tryz.ntmps110
  go_wp2_with fail
  refine HCk.out.mono ?_
  rintro e w1 ⟨rfl,hb⟩
  have HB1:=h_ hb
  clear hb HCk
  go_wp2
  go_ret2
  exact ⟨_,rfl,own_nil _ _,HB1.out⟩
end Go.Proofs.YtpcobefhgkiolaaGreatDoor


/- -/
namespace Go.Proofs.YtpcobefhgkiolaaGreatDoor
open Go.RowKit Go.Shelf
def ceB (c:Ce):CellB:=(c.1,⟨c.2.toArray⟩)
theorem ceB_ceL (c:CellB):ceB (ceL c)=c:=by
 obtain ⟨x,t⟩:=c
 simp [ceB,ceL]
def cesB (r:List Ce):List CellB:=r.map ceB
theorem cesB_cesL (r:List CellB):cesB (cesL r)=r:=by
 unfold cesB cesL
 rw [List.map_map]
 conv=>rhs;rw [← List.map_id r]
 exact List.map_congr_left fun c _=>ceB_ceL c
def cmpE (cs:List ColB) (a b:List Ce):Int:=cmpR cs (cesB a) (cesB b)
abbrev ltE (cs:List ColB):List Ce→List Ce→Bool:=fun a b=>decide (cmpE cs a b < 0)
theorem ltE_L (cs:List ColB) (a b:List CellB):ltE cs (cesL a) (cesL b)=decide (cmpR cs a b < 0):=by
 show decide (cmpR cs (cesB (cesL a)) (cesB (cesL b)) < 0)=_
 rw [cesB_cesL,cesB_cesL]
theorem kindsL_at {cs:List ColB} {i:Nat} {kd:Int} (h:(kindsL cs)[i]?=some kd):∃ hi:i < cs.length,(cs[i]).2=kd:=by
 unfold kindsL at h
 rw [List.getElem?_map] at h
 obtain ⟨c,hc,rfl⟩:=Option.map_eq_some_iff.1 h
 obtain ⟨hi,e⟩:=List.getElem?_eq_some_iff.1 hc
 exact ⟨hi,by rw [e]⟩
theorem row_fit {cs:List ColB} {r:List CellB} (h:errRow cs r=0) (hE:CES r) {i:Nat} {kd:Int} (hi:(kindsL cs)[i]?=some kd):Fit kd ((cesL r).getD i (0,[])):=by
 obtain ⟨_,hl,hp⟩:=errRow_len h
 obtain ⟨hic,rfl⟩:=kindsL_at hi
 have hir:i < r.length:=by omega
 have hz:=errP_zero hp (cs[i],r[i]) (by
  have hlz:i < (cs.zip r).length:=by rw [List.length_zip];omega
  have e:(cs.zip r)[i]=(cs[i],r[i]):=List.getElem_zip ..
  rw [← e];exact List.getElem_mem hlz)
 have e:(cesL r).getD i (0,[])=ceL r[i]:=by unfold cesL;simp [List.getD,hir]
 rw [e]
 exact ⟨hz,(hE _ (List.getElem_mem hir)).1⟩
theorem kinds_ok {cs:List ColB} (hS:errS (colsL cs)=0) {i:Nat} {kd:Int} (h:(kindsL cs)[i]?=some kd):0≤kd∧kd≤5:=by
 obtain ⟨hi,rfl⟩:=kindsL_at h
 have:=(errS_zero hS).2.2.2 (colL cs[i]) (List.mem_map.2 ⟨_,List.getElem_mem hi,rfl⟩)
 exact this.2
theorem rowsL_cons (p:PairB) (t:List PairB):rowsL (p :: t)=cesL p.1 :: rowsL t:=rfl
theorem srt_asc {cs:List ColB}:∀ {ps:List PairB},Z.srt (cmpR cs) ps→btAsc (ltE cs) (rowsL ps)=true
 | [],_=>rfl
 | [p],_=>rfl
 | p :: q :: t,h=>by
  obtain ⟨h1,h2⟩:=List.pairwise_cons.1 h
  rw [rowsL_cons,rowsL_cons,btAsc,Bool.and_eq_true,ltE_L]
  exact ⟨decide_eq_true (h1 q (by simp)),srt_asc (ps:=q :: t) h2⟩
theorem btCol_mem {k:Nat} {ps:List PairB} {c:Ce} (h:c ∈ btCol k (rowsL ps)):∃ p ∈ ps,c=(cesL p.1).getD k (0,[]):=by
 unfold btCol rowsL at h
 rw [List.map_map] at h
 obtain ⟨p,hp,rfl⟩:=List.mem_map.1 h
 exact ⟨p,hp,rfl⟩
theorem set_ok {cs:List ColB} {ps:List PairB} (hP:PSO ps) (h:chkZ cs ps=0):PsOk cs ps∧BtOk (ltE cs) (kindsL cs) (psL ps):=by
 obtain ⟨hS,hn,hs⟩:=(chkZ_zero hP).1 h
 have hw:∀ p ∈ ps,p.1.length=cs.length:=fun p hp=>(errRow_len (hs.all p hp).1).2.1
 have hf:BtFit (kindsL cs) 0 (rowsL ps):=fun i kd hi=>⟨kinds_ok hS hi,fun c hc=>by
  rw [Nat.zero_add] at hc
  obtain ⟨p,hp,rfl⟩:=btCol_mem hc
  exact row_fit (hs.all p hp).1 (hs.all p hp).2 hi⟩
 have hc8:cs.length≤8:=by have:=(errS_zero hS).2.1;rw [colsL_length] at this;exact this
 refine ⟨⟨hc8,hn,hw,hf⟩,⟨?_,?_,?_,?_,?_⟩⟩
 ·rw [psL_rows];exact hf
 ·intro q hq
  obtain ⟨p,hp,rfl⟩:=List.mem_map.1 hq
  show (cesL p.1).length=_
  rw [cesL_length,hw p hp];unfold kindsL;rw [List.length_map]
 ·intro q hq
  obtain ⟨p,hp,rfl⟩:=List.mem_map.1 hq
  exact ⟨hs.nz p hp,(hP p hp).2⟩
 ·rw [psL_length];exact hn
 ·rw [psL_rows];exact srt_asc hs.srt
end Go.Proofs.YtpcobefhgkiolaaGreatDoor

