/- -/
import Derived.Test.YtpcobefhgkiolaaGreatDoorCColRd
import Derived.Test.YtpcobefhgkiolaaGreatDoorCBaseB
import Derived.Test.YtpcobefhgkiolaaGreatDoorCTrcM
set_option linter.unusedVariables false
set_option linter.unusedSimpArgs false
set_option maxRecDepth 1000000
namespace Go.Proofs.YtpcobefhgkiolaaGreatDoor
open Go.RowKit Go.Shelf
abbrev EntV:=Value × EntB
def enV (t:EntV):List Value:=[.int .i64 t.2.1,.int .i64 t.2.2.1,t.1]
def entryE:Elt:=⟨44,70,3,40,.agg #[.int .i64 0,.int .i64 0,.slice none 0 0]⟩
theorem entryOk:entryE.Ok:=⟨Tryz.underlying44,by kernel_rfl,by kernel_rfl,rfl,by decide⟩
def RdZ (w:World) (v:Value) (es:List EntB):Prop:=∃ ts:List EntV,es=ts.map (·.2)∧RdG entryE w v (ts.map enV)∧∀ t ∈ ts,RdP w t.1 t.2.2.2
def RdT13 (w:World) (v:Value) (cs:List ColB) (es:List EntB):Prop:=∃ sv ev,v=.agg #[sv,ev]∧RdC w sv cs∧RdZ w ev es
section
variable {w w':World} {v:Value} {es:List EntB} {cs:List ColB} {base:Nat} {ps:List PairB}
theorem RdZ.nil (w:World):RdZ w (.slice none 0 0) []:=⟨[],rfl,RdG.nil entryE w,by simp⟩
theorem RdZ.lit (h:RdZ w v es):∃ ao n cap,v=.slice ao n cap:=by
 obtain ⟨ts,e,h,_⟩:=h
 obtain ⟨ao,cap,e,_⟩:=RdG.shape h
 exact ⟨_,_,_,e⟩
theorem RdZ.len (h:RdZ w v es):∀ u,(Builtin.len_ #[44] 3 #[v]).run Tryz.prog u=.ok (.int .i64 (es.length:Int)) u:=by
 obtain ⟨ts,rfl,h,_⟩:=h
 have:=RdG.len h entryOk
 rw [List.length_map] at this ⊢
 exact this
def OffP (w:World) (v:Value) (ps:List PairB) (g:Nat):Prop :=
 ∃ ts:List TriB,ps=ts.map (·.2)∧RdG pairE w v (ts.map triV)∧(∀ t ∈ ts,RdE w t.1 t.2.1)∧(∀ i,i < ts.length→(adr v (i * 2)).block≠g)∧∀ t ∈ ts,offB t.1 t.2.1.length g
theorem RdP.off {g:Nat} (h:RdP w v ps) (hg:w.heap.size≤g):OffP w v ps g:=by
 obtain ⟨ts,e,h1,h2⟩:=h
 refine ⟨ts,e,h1,h2,fun i hi=>?_,fun t ht=>(h2 t ht).offNew hg⟩
 have:=RdG.block h1 pairOk (i:=i) (by simpa using hi)
 have e:(adr v (i * pairE.n)).block=(adr v (i * 2)).block:=rfl
 omega
theorem OffP.later {g B:Nat} (h:OffP w v ps g) (hb:Below B w w') (hB:w.heap.size≤B):OffP w' v ps g:=by
 obtain ⟨ts,e,h1,h2,h3,h4⟩:=h
 exact ⟨ts,e,h1.later pairOk hb hB,fun t ht=>(h2 t ht).later hb hB,h3,h4⟩
theorem pairs_one {w:World} {pv:Value} {ps:List PairB} (h:RdP w pv ps):pv.oneCell'=true:=by
 obtain ⟨ao,n,cap,rfl⟩:=h.lit12
 rfl
theorem enV_one {t:EntV} (h:RdP w t.1 t.2.2.2):∀ z ∈ enV t,z.oneCell'=true:=by
 intro z hz
 simp [enV] at hz
 rcases hz with rfl | rfl | rfl
 ·rfl
 ·rfl
 ·exact pairs_one h
end
def Tbox (w:World) (b:Nat) (sv ev:Value):Prop:=w.heap[b]?=some (.cells #[sv,ev] 46 (0,0))
theorem Tbox.cells {w:World} {b:Nat} {sv ev:Value} (h:Tbox w b sv ev):w.cell? ⟨b,0,none⟩=some sv∧w.cell? ⟨b,1,none⟩=some ev :=
 ⟨cell_of_row _ _ 0 _ _ _ h,cell_of_row _ _ 1 _ _ _ h⟩
theorem Tbox.later {w w':World} {b:Nat} {sv ev:Value} (h:Tbox w b sv ev) (hb:Below w.heap.size w w'):Tbox w' b sv ev :=
 (hb.block b (Array.getElem?_eq_some_iff.1 h).1).trans h
theorem Tbox.grown {E:Elt} {w w':World} {b base:Nat} {sv ev av:Value} {vs:List (List Value)} (h:Tbox w b sv ev) (ho:OwnG E w base av vs) (hT:E.T≠46) (hg:w.grownBy w' av.ownBlock):Tbox w' b sv ev:=by
 unfold Tbox at h ⊢
 rw [hg.block b (Array.getElem?_eq_some_iff.1 h).1 (fun e=>?_)]
 ·exact h
 ·rcases ho.1.2 with ⟨rfl,hn⟩ | ⟨g,cap,cur,rfl,hbg,hgg,_⟩
  ·cases e
  ·cases e
   rw [h] at hgg
   injection hgg with hgg
   injection hgg with _ h3 _
   exact hT h3.symm
end Go.Proofs.YtpcobefhgkiolaaGreatDoor


/- -/
namespace Go.Proofs.YtpcobefhgkiolaaGreatDoor
open Go.RowKit Go.Shelf
theorem trW_bytes {cs:List ColB} {M:Nat} (hM:∀ x,(entW cs x).1.length≤M):∀ (es:List EntB) (n:Nat) (s:Int) (v:List PairB),(trW cs n s v es).1.length≤es.length * M
 | [],n,s,v=>by rw [trW];simp
 | x :: t,n,s,v=>by
  have ih:=trW_bytes hM t (n + 1) (apN cs s v x) (apV cs s v x)
  have h1:=hM x
  generalize hT:trW cs (n + 1) (apN cs s v x) (apV cs s v x) t=T at ih
  rw [trW,hT,List.length_cons,Nat.add_mul,Nat.one_mul]
  generalize t.length * M=q at *
  split
  ·simp
  ·split
   ·simp
   ·split
    ·simp
    ·split
     ·omega
     ·dsimp only;rw [List.length_append];omega
theorem trW_bytes_le {cs:List ColB} (es:List EntB) (n:Nat) (s:Int) (v:List PairB):(trW cs n s v es).1.length≤es.length * 1048591:=trW_bytes (entW_small cs) es n s v
theorem hdB_small {cols:List Col} (h:errS cols=0):(hdB cols).length≤1048600:=by
 have h1:=wrS_million h
 have h2:=frB_small 0 h1
 rw [hdB_length];omega
section
variable {cs:List ColB} {es:List EntB} {k:Nat}
theorem trW_at (hk:k < es.length) (h:(trW cs 0 0 [] (es.take k)).2.2.2.2=0) {T:List UInt8 × Int × List PairB × Nat × Nat} (hT:trW cs k (trW cs 0 0 [] (es.take k)).2.1 (trW cs 0 0 [] (es.take k)).2.2.1 (es.getD k default :: es.drop (k + 1))=T) :
  trW cs 0 0 [] es=if T.2.2.2.2≠0 then T else ((trW cs 0 0 [] (es.take k)).1 ++ T.1,T.2):=by
 have e:=trW_app (es.take k) (es.drop k) 0 0 [] h
 have hl:(es.take k).length=k:=by rw [List.length_take];omega
 have hd:es.drop k=es.getD k default :: es.drop (k + 1):=by
  rw [List.drop_eq_getElem_cons hk]
  simp [List.getD,hk]
 rw [List.take_append_drop,hl,Nat.zero_add,hd,hT] at e
 exact e
theorem trW_go (hk:k < es.length) (h:(trW cs 0 0 [] (es.take k)).2.2.2.2=0) (h1:k < 4096) (h2:apE cs (trW cs 0 0 [] (es.take k)).2.1 (trW cs 0 0 [] (es.take k)).2.2.1 (es.getD k default)=0) (h3:(entW cs (es.getD k default)).2=0) :
  (trW cs 0 0 [] (es.take (k + 1))).2.2.2.2=0∧(trW cs 0 0 [] (es.take (k + 1))).1=(trW cs 0 0 [] (es.take k)).1 ++ (entW cs (es.getD k default)).1 ∧
  (trW cs 0 0 [] (es.take (k + 1))).2.1=apN cs (trW cs 0 0 [] (es.take k)).2.1 (trW cs 0 0 [] (es.take k)).2.2.1 (es.getD k default) ∧
  (trW cs 0 0 [] (es.take (k + 1))).2.2.1=apV cs (trW cs 0 0 [] (es.take k)).2.1 (trW cs 0 0 [] (es.take k)).2.2.1 (es.getD k default):=by
 have e:=trW_app (es.take k) [es.getD k default] 0 0 [] h
 have hl:(es.take k).length=k:=by rw [List.length_take];omega
 have h0:∀ n s v,trW cs n s v []=([],s,v,n,0):=fun n s v=>by rw [trW]
 have h8:=trW_of (cs:=cs) (i:=k) (s:=(trW cs 0 0 [] (es.take k)).2.1) (v:=(trW cs 0 0 [] (es.take k)).2.2.1) (x:=es.getD k default) (t:=[]) h1 h2 h3 (by rw [h0])
 rw [h0] at h8
 rw [← take_succD hk default,hl,Nat.zero_add,h8,if_neg (by simp)] at e
 rw [e]
 refine ⟨rfl,?_,rfl,rfl⟩
 dsimp only
 rw [List.append_nil]
theorem trW_known (hO:∀ x ∈ es,EnO x) (hk:k≤es.length) (h:(trW cs 0 0 [] (es.take k)).2.2.2.2=0) (hk2:k≤140737488351232):PSO (trW cs 0 0 [] (es.take k)).2.2.1∧inW (trW cs 0 0 [] (es.take k)).2.1∧(trW cs 0 0 [] (es.take k)).2.2.2.1=k:=by
 have hl:(es.take k).length=k:=by rw [List.length_take];omega
 obtain ⟨f1,f2,f3⟩:=trW_view (es.take k) 0 0 [] [] (fun x hx=>hO x (List.mem_of_mem_take hx)) h Fold.nil
 refine ⟨?_,?_,by rw [f3,hl];omega⟩
 ·rcases f1.2 with ⟨_,e⟩ | ⟨h1,_⟩
  ·rw [e];exact fun p hp=>absurd hp (by simp)
  ·exact h1.1
 ·have:deltaN (es.take k)≤(es.take k).length:=List.length_filter_le _ _
  unfold inW
  omega
end
section
variable {cs:List ColB} {es:List EntB} {k:Nat} {A:List UInt8} {s:Int} {v:List PairB} {x:EntB}
theorem tr_next (hO:∀ x ∈ es,EnO x) (hS:trW cs 0 0 [] (es.take k)=(A,s,v,k,0)) (hk:k < es.length) (h1:k < 4096) (hx:x=es.getD k default) (h2:apE cs s v x=0) (h3:(entW cs x).2=0) :
  trW cs 0 0 [] (es.take (k + 1))=(A ++ (entW cs x).1,apN cs s v x,apV cs s v x,k + 1,0):=by
 subst hx
 obtain ⟨e1,e2,e3,e4⟩:=trW_go hk (by rw [hS]) h1 (by rw [hS];exact h2) h3
 have e5:=(trW_known hO (k:=k + 1) (by omega) e1 (by omega)).2.2
 rw [hS] at e2 e3 e4
 generalize trW cs 0 0 [] (es.take (k + 1))=T at *
 obtain ⟨a,b,c,d,e⟩:=T
 dsimp only at e1 e2 e3 e4 e5
 rw [e1,e2,e3,e4,e5]
end
end Go.Proofs.YtpcobefhgkiolaaGreatDoor


/- -/
namespace Go.Proofs.YtpcobefhgkiolaaGreatDoor
open Go.RowKit Go.Shelf
theorem trE_parts {cs:List ColB} {es:List EntB} (h:(trE cs es).2.2.2.2=0):errS (colsL cs)=0∧(trW cs 0 0 [] es).2.2.2.2=0∧trE cs es=(hdB (colsL cs) ++ (trW cs 0 0 [] es).1,(trW cs 0 0 [] es).2):=by
 unfold trE at h ⊢
 by_cases h0:errS (colsL cs)=0
 ·rw [if_neg (fun h=>h h0)] at h ⊢
  by_cases h1:(trW cs 0 0 [] es).2.2.2.2=0
  ·rw [if_neg (fun h=>h h1)]
   exact ⟨h0,h1,rfl⟩
  ·rw [if_pos h1] at h
   exact absurd h h1
 ·rw [if_pos h0] at h
  exact absurd h h0
theorem trE_of {cs:List ColB} {es:List EntB} (h0:errS (colsL cs)=0) (h1:(trW cs 0 0 [] es).2.2.2.2=0):trE cs es=(hdB (colsL cs) ++ (trW cs 0 0 [] es).1,(trW cs 0 0 [] es).2):=by
 unfold trE
 rw [if_neg (fun h=>h h0),if_neg (fun h=>h h1)]
theorem trE_back {cs:List ColB} {es:List EntB} (hO:∀ x ∈ es,EnO x) (h:(trE cs es).2.2.2.2=0) :
  (trE cs es).2.2.2.1=es.length∧(trD (trE cs es).1).1=cs∧(trD (trE cs es).1).2.1=es∧(trD (trE cs es).1).2.2.2.1=(trE cs es).1.length∧(trD (trE cs es).1).2.2.2.2=0:=by
 obtain ⟨h0,h1,e⟩:=trE_parts h
 have hk:=(trW_view es 0 0 [] [] hO h1 Fold.nil).2.2
 rw [e]
 rw [trD_back h0 hO h1]
 exact ⟨by dsimp only;rw [hk];omega,rfl,rfl,rfl,rfl⟩
theorem trE_take {cs:List ColB} {es:List EntB} (hO:∀ x ∈ es,EnO x) (h:(trE cs es).2.2.2.2=0) {k:Nat} (hk:k≤es.length) :
  (trE cs (es.take k)).2.2.2.2=0∧(trE cs (es.take k)).2.2.2.1=k∧(trE cs (es.take k)).1=(trE cs es).1.take (trE cs (es.take k)).1.length:=by
 obtain ⟨h0,h1,e⟩:=trE_parts h
 obtain ⟨t1,t2,t3⟩:=trW_take es k 0 0 [] h1 hk
 rw [trE_of h0 t1,e]
 refine ⟨t1,by dsimp only;rw [t2];omega,?_⟩
 dsimp only
 have e3:∀ (a b c:List UInt8),(a ++ b).take (a ++ c).length=a ++ b.take c.length:=fun a b c=>by
  rw [List.length_append,List.take_append,Nat.add_sub_cancel_left,List.take_of_length_le (by omega)]
 rw [e3,← t3]
end Go.Proofs.YtpcobefhgkiolaaGreatDoor


/- -/
namespace Go.Proofs.YtpcobefhgkiolaaGreatDoor
open Go.RowKit Go.Shelf
theorem ap_known {cs:List ColB} {s:Int} {v:List PairB} {x:EntB} (h:apE cs s v x=0) (hv:PSO v) (hX:EnO x):PSO (apV cs s v x)∧inW (apN cs s v x)∧apN cs s v x=x.2.1:=by
 have hN:apN cs s v x=x.2.1:=by unfold apN;rw [if_pos h]
 obtain ⟨h1,h2,h3,h4⟩:=ap_inv h
 obtain ⟨_,_,_,hck⟩:=entE_zero.1 h3
 refine ⟨?_,by rw [hN];exact hX.2.1,hN⟩
 rcases h4 with ⟨_,_,a3,_,a5⟩ | ⟨_,_,_,_,a5⟩
 ·rw [a5];exact (sum_ok ⟨hv,h1⟩ ⟨hX.2.2,hck⟩ a3).1.1
 ·rw [a5];exact hv
def trJ (es:List EntB) (ms:List (Int × Nat)) (T:List EntB × List (Int × Nat) × Nat × Nat):List EntB × List (Int × Nat) × Nat × Nat :=
 if T.2.2.2≠0 then ([],[],T.2.2) else (es ++ T.1,ms ++ T.2.1,T.2.2)
def trT (cs:List ColB) (a0:Nat) (J:List EntB × List (Int × Nat) × Nat × Nat):List ColB × List EntB × List (Int × Nat) × Nat × Nat :=
 if J.2.2.2≠0 then ([],[],[],J.2.2) else (cs,J.1,(0,a0) :: J.2.1,J.2.2)
section
variable {cs:List ColB} {b p:List UInt8} {es:List EntB} {ms:List (Int × Nat)} {f a k K m y:Nat} {s:Int} {v:List PairB}
theorem trJ_end (h:b.length≤a):trJ es ms (trR cs b f a k s v)=(es,ms,a,0):=by
 rw [trR_end f h];unfold trJ;rw [if_neg (by simp)];simp
theorem trJ_limit (ha:a < b.length) (hf:b.length≤a + f) (hk:4096≤k):trJ es ms (trR cs b f a k s v)=([],[],a,13):=by
 match f,hf with
 | 0,hf=>omega
 | f + 1,hf=>rw [trR,if_neg (by omega),if_pos hk];rfl
theorem trJ_frame (ha:a < b.length) (hf:b.length≤a + f) (hk:k < 4096) (hn:nxF (b.drop a)=(K,p,m,y)) (hy:y≠0):trJ es ms (trR cs b f a k s v)=([],[],a,y):=by
 match f,hf with
 | 0,hf=>omega
 | f + 1,hf =>
  rw [trR,if_neg (by omega),if_neg (by omega),hn]
  dsimp only
  rw [if_pos hy];unfold trJ;exact if_pos hy
theorem trJ_entry (ha:a < b.length) (hf:b.length≤a + f) (hk:k < 4096) (hn:nxF (b.drop a)=(K,p,m,0)) {E:Nat} (hE:E=entRE cs (K:Int) p) (h0:E≠0):trJ es ms (trR cs b f a k s v)=([],[],a,E):=by
 match f,hf with
 | 0,hf=>omega
 | f + 1,hf =>
  rw [trR,if_neg (by omega),if_neg (by omega),hn]
  dsimp only
  rw [if_neg (by simp),← hE,if_pos h0];unfold trJ;exact if_pos h0
theorem trJ_apply (ha:a < b.length) (hf:b.length≤a + f) (hk:k < 4096) (hn:nxF (b.drop a)=(K,p,m,0)) (hE:entRE cs (K:Int) p=0) {E:Nat} (hA:E=apE cs s v (entX cs K p)) (h0:E≠0):trJ es ms (trR cs b f a k s v)=([],[],a,E):=by
 match f,hf with
 | 0,hf=>omega
 | f + 1,hf =>
  rw [trR,if_neg (by omega),if_neg (by omega),hn]
  dsimp only
  rw [if_neg (by simp),if_neg (fun h=>h hE),← hA,if_pos h0];unfold trJ;exact if_pos h0
theorem trJ_step (ha:a < b.length) (hf:b.length≤a + f) (hk:k < 4096) (hn:nxF (b.drop a)=(K,p,m,0)) (hE:entRE cs (K:Int) p=0) (hA:apE cs s v (entX cs K p)=0) :
  ∃ f',b.length≤a + m + f'∧trJ es ms (trR cs b f a k s v)=trJ (es ++ [entX cs K p]) (ms ++ [(apN cs s v (entX cs K p),a + m)]) (trR cs b f' (a + m) (k + 1) (apN cs s v (entX cs K p)) (apV cs s v (entX cs K p))):=by
 have h1:=nxF_one (b:=b.drop a) (by rw [hn])
 rw [hn] at h1
 obtain ⟨_,x2,x3,_,_⟩:=h1
 dsimp only at x2 x3
 have hp:=frB_pos K p
 match f,hf with
 | 0,hf=>omega
 | f + 1,hf =>
  refine ⟨f,by omega,?_⟩
  rw [trR,if_neg (by omega),if_neg (by omega),hn]
  dsimp only
  rw [if_neg (by simp),if_neg (fun h=>h hE),if_neg (fun h=>h hA)]
  obtain ⟨T,hT⟩:∃ T,T=trR cs b f (a + m) (k + 1) (apN cs s v (entX cs K p)) (apV cs s v (entX cs K p)):=⟨_,rfl⟩
  rw [← hT]
  by_cases h0:T.2.2.2=0
  ·rw [if_neg (fun h=>h h0)]
   unfold trJ
   dsimp only
   rw [if_neg (fun h=>h h0),if_neg (fun h=>h h0)]
   simp
  ·rw [if_pos h0]
   unfold trJ
   dsimp only
   rw [if_pos h0,if_pos h0]
theorem trJ_fits (hn:nxF (b.drop a)=(K,p,m,0)) (ha:a < b.length):a + m≤b.length∧1≤m∧K≤2∧p.length≤1048576:=by
 have h1:=nxF_one (b:=b.drop a) (by rw [hn])
 rw [hn] at h1
 obtain ⟨_,x2,x3,x4,x5⟩:=h1
 dsimp only at x2 x3 x4 x5
 have hp:=frB_pos K p
 rw [List.length_drop] at x3
 exact ⟨by omega,by omega,x4,x5⟩
theorem trD_form (h:b.length < 4∨b.take 4≠magicL):trD b=([],[],[],0,6):=by unfold trD;rw [if_pos h]
theorem trD_frame (h:¬ (b.length < 4∨b.take 4≠magicL)) (hn:nxF (b.drop 4)=(K,p,m,y)) (hy:y≠0):trD b=([],[],[],4,y):=by
 unfold trD;rw [if_neg h,hn];dsimp only;rw [if_pos hy]
theorem trD_kind (h:¬ (b.length < 4∨b.take 4≠magicL)) (hn:nxF (b.drop 4)=(K,p,m,0)) (hK:K≠0):trD b=([],[],[],4,10):=by
 unfold trD;rw [if_neg h,hn];dsimp only;rw [if_neg (by simp),if_pos hK]
theorem trD_schema (h:¬ (b.length < 4∨b.take 4≠magicL)) (hn:nxF (b.drop 4)=(0,p,m,0)) (hp:readE p≠0):trD b=([],[],[],4,readE p):=by
 unfold trD;rw [if_neg h,hn];dsimp only;rw [if_neg (by simp),if_neg (by simp),if_pos hp]
theorem trD_rest (h:¬ (b.length < 4∨b.take 4≠magicL)) (hn:nxF (b.drop 4)=(0,p,m,0)) (hp:readE p=0) :
  trD b=trT (colsB (readC p)) (4 + m) (trJ [] [] (trR (colsB (readC p)) b b.length (4 + m) 0 0 [])):=by
 unfold trD;rw [if_neg h,hn];dsimp only;rw [if_neg (by simp),if_neg (by simp),if_neg (fun h=>h hp)]
 obtain ⟨T,hT⟩:∃ T,T=trR (colsB (readC p)) b b.length (4 + m) 0 0 []:=⟨_,rfl⟩
 rw [← hT]
 unfold trT trJ
 by_cases h0:T.2.2.2=0
 ·simp [h0]
 ·simp [h0]
end
theorem entX_of {cs:List ColB} {K:Nat} {p:List UInt8} {ps:List PairB} (hO:PSO ps) (h:psL ps=(entRV cs (K:Int) p).2.2):entX cs K p=((entRV cs (K:Int) p).1,(entRV cs (K:Int) p).2.1,ps):=by
 unfold entX
 rw [← h,psB_psL ps]
end Go.Proofs.YtpcobefhgkiolaaGreatDoor

