/- -/
import Derived.Test.YtlapgdocpndfiaaGreatDoorUColRd
import Derived.Test.YtlapgdocpndfiaaGreatDoorUTrcM
set_option linter.unusedVariables false
set_option linter.unusedSimpArgs false
set_option maxRecDepth 1000000
namespace Go.Proofs.YtlapgdocpndfiaaGreatDoor
open _root_.Go.Proofs.Tryz
open Go.RowKit Go.Shelf
abbrev EntV:=Value × EntB
def enV (t:EntV):List Value:=[.int .i64 t.2.1,.int .i64 t.2.2.1,t.1]
def zcB:Elt:=⟨25,92,3,40,.agg #[.int .i64 0,.int .i64 0,.slice none 0 0]⟩
theorem zk3:zcB.Ok:=⟨underlying25,by kernel_rfl,by kernel_rfl,rfl,by decide⟩
abbrev CurB:=Int × Int × Int
def cuV (t:CurB):List Value:=[.int .i64 t.1,.int .i64 t.2.1,.int .u32 t.2.2]
def zc9:Elt:=⟨112,117,3,24,.agg #[.int .i64 0,.int .i64 0,.int .u32 0]⟩
theorem znP:zc9.Ok:=⟨underlying112,by kernel_rfl,by kernel_rfl,rfl,by decide⟩
def RdZ (w:World) (v:Value) (es:List EntB):Prop:=∃ ts:List EntV,es=ts.map (·.2)/\RdG zcB w v (ts.map enV)/\∀ t ∈ ts,RdP w t.1 t.2.2.2
def RdT13 (w:World) (v:Value) (cs:List ColB) (es:List EntB):Prop:=∃ sv ev,v=.agg #[sv,ev]/\RdC w sv cs/\RdZ w ev es
section
variable {w w':World} {v:Value} {es:List EntB} {cs:List ColB} {base:Nat} {ps:List PairB}
theorem RdZ.small (h:RdZ w v es):es.length<=140737488351232:=by
 obtain ⟨ts,rfl,h,_⟩:=h;have:=h.small;simpa using this
theorem RdZ.later (h:RdZ w v es) {B:Nat} (hb:Below B w w') (hB:w.heap.size<=B):RdZ w' v es:=by
 obtain ⟨ts,e,h,hr⟩:=h;exact ⟨ts,e,h.later zk3 hb hB,fun t ht=>(hr t ht).later hb hB⟩
theorem RdZ.nil (w:World):RdZ w (.slice none 0 0) []:=⟨[],rfl,RdG.nil zcB w,by simp⟩
theorem RdZ.lit (h:RdZ w v es):∃ ao n cap,v=.slice ao n cap:=by
 obtain ⟨ts,e,h,_⟩:=h;obtain ⟨ao,cap,e,_⟩:=RdG.shape h;exact ⟨_,_,_,e⟩
theorem RdZ.len (h:RdZ w v es):∀ u,(Builtin.len_ #[25] 3 #[v]).run prog u=.ok (.int .i64 (es.length:Int)) u:=by
 obtain ⟨ts,rfl,h,_⟩:=h;have:=RdG.len h zk3;rw [List.length_map] at this ⊢;exact this
theorem RdZ.get (h:RdZ w v es) {i:Nat} (hi:i < es.length):∃ b o pv,(∀ u,(Instr.indexAt 25 v (.int .i64 (i:Int))).run prog u=.ok (.pointer (some ⟨b,o,none⟩)) u) /\
  w.cell? ⟨b,o,none⟩=some (.int .i64 (es.getD i default).1)/\w.cell? ⟨b,o + 1,none⟩=some (.int .i64 (es.getD i default).2.1)/\w.cell? ⟨b,o + 2,none⟩=some pv/\RdP w pv (es.getD i default).2.2/\b < w.heap.size:=by
 obtain ⟨ts,rfl,h,hr⟩:=h;rw [List.length_map] at hi;have hi':i < (ts.map enV).length:=by simpa using hi
 have hx:=RdG.idx h zk3 i hi';obtain ⟨b,o,ha,hc⟩:=RdG.at h hi';rw [ha] at hx;have eg:(ts.map enV).getD i []=enV ts[i]:=by simp [List.getD,hi]
 have ep:(ts.map (·.2)).getD i default=ts[i].2:=by simp [List.getD,hi]
 rw [eg] at hc;rw [ep];exact ⟨b,o,ts[i].1,hx,hc 0 _ rfl,hc 1 _ rfl,hc 2 _ rfl,hr _ (List.getElem_mem _),World.block_lt_of_cell? w _ (hc 0 _ rfl)⟩
theorem RdT13.later (h:RdT13 w v cs es) (hb:Below w.heap.size w w'):RdT13 w' v cs es:=by
 obtain ⟨sv,ev,e,h1,h2⟩:=h;exact ⟨sv,ev,e,h1.later hb l_,h2.later hb l_⟩
theorem zxZ {w:World} {pv:Value} {ps:List PairB} (h:RdP w pv ps):pv.oneCell'=true:=by
 obtain ⟨ao,n,cap,rfl⟩:=h.lit12;rfl
theorem zEB {t:EntV} (h:RdP w t.1 t.2.2.2):∀ z ∈ enV t,z.oneCell'=true:=by
 intro z hz;simp [enV] at hz;rcases hz with rfl | rfl | rfl
 ·rfl
 ·rfl
 exact zxZ h
end
def Tbox (w:World) (b:Nat) (sv ev:Value):Prop:=w.heap[b]?=some (.cells #[sv,ev] 27 (0,0))
theorem Tbox.cells {w:World} {b:Nat} {sv ev:Value} (h:Tbox w b sv ev):w.cell? ⟨b,0,none⟩=some sv/\w.cell? ⟨b,1,none⟩=some ev :=
 ⟨cell_of_row _ _ 0 _ _ _ h,cell_of_row _ _ 1 _ _ _ h⟩
theorem Tbox.later {w w':World} {b:Nat} {sv ev:Value} (h:Tbox w b sv ev) (hb:Below w.heap.size w w'):Tbox w' b sv ev :=
 (hb.block b (Array.getElem?_eq_some_iff.1 h).1).trans h
theorem Tbox.grown {E:Elt} {w w':World} {b base:Nat} {sv ev av:Value} {vs:List (List Value)} (h:Tbox w b sv ev) (ho:OwnG E w base av vs) (hT:E.T≠27) (hg:w.grownBy w' av.ownBlock):Tbox w' b sv ev:=by
 unfold Tbox at h ⊢;rw [hg.block b (Array.getElem?_eq_some_iff.1 h).1 (fun e=>?_)]
 ·exact h
 rcases ho.1.2 with ⟨rfl,hn⟩ | ⟨g,cap,cur,rfl,hbg,hgg,_⟩
 ·cases e
 cases e;rw [h] at hgg;injection hgg with hgg
 injection hgg with _ h3 _
 exact hT h3.symm
/- -/
theorem zvC {α:Type} {l:List α} {k:Nat} (h:k < l.length) (d:α):l.getD k d ∈ l:=by simp [List.getD,h]
theorem zoD {cs:List ColB} {M:Nat} (hM:∀ x,(entW cs x).1.length<=M):∀ (es:List EntB) (n:Nat) (s:Int) (v:List PairB),(trW cs n s v es).1.length<=es.length * M
 | [],n,s,v=>by rw [trW];simp
 | x :: t,n,s,v=>by
  have ih:=zoD hM t (n + 1) (apN cs s v x) (apV cs s v x)
  have h1:=hM x
  generalize hT:trW cs (n + 1) (apN cs s v x) (apV cs s v x) t=T at ih
  rw [trW,hT,List.length_cons,Nat.add_mul,Nat.one_mul]
  generalize t.length * M=q at *
  split
  ·simp
  ·split
   ·simp
   ·split
    ·simp
    ·split
     ·omega
     ·dsimp only;rw [List.length_append];omega
theorem zhE {cs:List ColB} (es:List EntB) (n:Nat) (s:Int) (v:List PairB):(trW cs n s v es).1.length<=es.length * 1048591:=zoD (entW_small cs) es n s v
theorem ze4 {cols:List Col} (h:errS cols=0):(hdB cols).length<=1048600:=by
 have h1:=zbU h;have h2:=zjT 0 h1;rw [zbI];omega
section
variable {cs:List ColB} {es:List EntB} {k:Nat}
theorem zwH (hk:k < es.length) (h:(trW cs 0 0 [] (es.take k)).2.2.2.2=0) {T:Bs × Int × List PairB × Nat × Nat} (hT:trW cs k (trW cs 0 0 [] (es.take k)).2.1 (trW cs 0 0 [] (es.take k)).2.2.1 (es.getD k default :: es.drop (k + 1))=T) :
  trW cs 0 0 [] es=if T.2.2.2.2≠0 then T else ((trW cs 0 0 [] (es.take k)).1 ++ T.1,T.2):=by
 have e:=zmP (es.take k) (es.drop k) 0 0 [] h;have hl:(es.take k).length=k:=by rw [List.length_take];omega
 have hd:es.drop k=es.getD k default :: es.drop (k + 1):=by
  rw [List.drop_eq_getElem_cons hk];simp [List.getD,hk]
 rw [List.take_append_drop,hl,Nat.zero_add,hd,hT] at e;exact e
theorem zwE (hk:k < es.length) (h:(trW cs 0 0 [] (es.take k)).2.2.2.2=0) (h1:4096<=k):trW cs 0 0 [] es=([],0,[],k,13):=by
 have hT:trW cs k (trW cs 0 0 [] (es.take k)).2.1 (trW cs 0 0 [] (es.take k)).2.2.1 (es.getD k default :: es.drop (k + 1))=([],0,[],k,13):=by rw [trW,if_pos h1]
 rw [zwH hk h hT,if_pos (by simp)]
theorem zwI (hk:k < es.length) (h:(trW cs 0 0 [] (es.take k)).2.2.2.2=0) (h1:k < 4096) {E:Nat} (hE:apE cs (trW cs 0 0 [] (es.take k)).2.1 (trW cs 0 0 [] (es.take k)).2.2.1 (es.getD k default)=E) (h2:E≠0):trW cs 0 0 [] es=([],0,[],k,E):=by
 have hT:trW cs k (trW cs 0 0 [] (es.take k)).2.1 (trW cs 0 0 [] (es.take k)).2.2.1 (es.getD k default :: es.drop (k + 1))=([],0,[],k,E):=by
  rw [trW,if_neg (by omega),if_pos (by rw [hE];exact h2),hE]
 rw [zwH hk h hT,if_pos h2]
theorem zwD (hk:k < es.length) (h:(trW cs 0 0 [] (es.take k)).2.2.2.2=0) (h1:k < 4096) (h2:apE cs (trW cs 0 0 [] (es.take k)).2.1 (trW cs 0 0 [] (es.take k)).2.2.1 (es.getD k default)=0) {E:Nat} (hE:(entW cs (es.getD k default)).2=E) (h3:E≠0) :
  trW cs 0 0 [] es=([],0,[],k,E):=by
 have hT:trW cs k (trW cs 0 0 [] (es.take k)).2.1 (trW cs 0 0 [] (es.take k)).2.2.1 (es.getD k default :: es.drop (k + 1))=([],0,[],k,E):=by
  rw [trW,if_neg (by omega),if_neg (fun h=>h h2),if_pos (by rw [hE];exact h3),hE]
 rw [zwH hk h hT,if_pos h3]
theorem zEY (hk:k < es.length) (h:(trW cs 0 0 [] (es.take k)).2.2.2.2=0) (h1:k < 4096) (h2:apE cs (trW cs 0 0 [] (es.take k)).2.1 (trW cs 0 0 [] (es.take k)).2.2.1 (es.getD k default)=0) (h3:(entW cs (es.getD k default)).2=0) :
  (trW cs 0 0 [] (es.take (k + 1))).2.2.2.2=0/\(trW cs 0 0 [] (es.take (k + 1))).1=(trW cs 0 0 [] (es.take k)).1 ++ (entW cs (es.getD k default)).1 /\
  (trW cs 0 0 [] (es.take (k + 1))).2.1=apN cs (trW cs 0 0 [] (es.take k)).2.1 (trW cs 0 0 [] (es.take k)).2.2.1 (es.getD k default) /\
  (trW cs 0 0 [] (es.take (k + 1))).2.2.1=apV cs (trW cs 0 0 [] (es.take k)).2.1 (trW cs 0 0 [] (es.take k)).2.2.1 (es.getD k default):=by
 have e:=zmP (es.take k) [es.getD k default] 0 0 [] h;have hl:(es.take k).length=k:=by rw [List.length_take];omega
 have h0:∀ n s v,trW cs n s v []=([],s,v,n,0):=fun n s v=>by rw [trW]
 have h8:=zoB (cs:=cs) (i:=k) (s:=(trW cs 0 0 [] (es.take k)).2.1) (v:=(trW cs 0 0 [] (es.take k)).2.2.1) (x:=es.getD k default) (t:=[]) h1 h2 h3 (by rw [h0]);rw [h0] at h8;rw [<- zaE hk default,hl,Nat.zero_add,h8,if_neg (by simp)] at e;rw [e];refine ⟨rfl,?_,rfl,rfl⟩;dsimp only;rw [List.append_nil]
theorem zoC (hO:∀ x ∈ es,EnO x) (hk:k<=es.length) (h:(trW cs 0 0 [] (es.take k)).2.2.2.2=0) (hk2:k<=140737488351232):PSO (trW cs 0 0 [] (es.take k)).2.2.1/\inW (trW cs 0 0 [] (es.take k)).2.1/\(trW cs 0 0 [] (es.take k)).2.2.2.1=k:=by
 have hl:(es.take k).length=k:=by rw [List.length_take];omega
 obtain ⟨f1,f2,f3⟩:=zfU (es.take k) 0 0 [] [] (fun x hx=>hO x (List.mem_of_mem_take hx)) h Fold.nil;refine ⟨?_,?_,by rw [f3,hl];omega⟩
 ·rcases f1.2 with ⟨_,e⟩ | ⟨h1,_⟩
  ·rw [e];exact fun p hp=>absurd hp (by simp)
  exact h1.1
 have:zhR (es.take k)<=(es.take k).length:=List.length_filter_le _ _;unfold inW;omega
end
section
variable {cs:List ColB} {es:List EntB} {k:Nat} {A:Bs} {s:Int} {v:List PairB} {x:EntB}
theorem zAC (hS:trW cs 0 0 [] (es.take k)=(A,s,v,k,0)) (hk:k < es.length) (h1:4096<=k):trW cs 0 0 [] es=([],0,[],k,13):=zwE hk (by rw [hS]) h1
theorem zAE (hS:trW cs 0 0 [] (es.take k)=(A,s,v,k,0)) (hk:k < es.length) (h1:k < 4096) (hx:x=es.getD k default) (h2:apE cs s v x≠0):trW cs 0 0 [] es=([],0,[],k,apE cs s v x):=by
 subst hx;exact zwI hk (by rw [hS]) h1 (by rw [hS]) h2
theorem zAB (hS:trW cs 0 0 [] (es.take k)=(A,s,v,k,0)) (hk:k < es.length) (h1:k < 4096) (hx:x=es.getD k default) (h2:apE cs s v x=0) (h3:(entW cs x).2≠0):trW cs 0 0 [] es=([],0,[],k,(entW cs x).2):=by
 subst hx;exact zwD hk (by rw [hS]) h1 (by rw [hS];exact h2) rfl h3
theorem zwC (hO:∀ x ∈ es,EnO x) (hS:trW cs 0 0 [] (es.take k)=(A,s,v,k,0)) (hk:k < es.length) (h1:k < 4096) (hx:x=es.getD k default) (h2:apE cs s v x=0) (h3:(entW cs x).2=0) :
  trW cs 0 0 [] (es.take (k + 1))=(A ++ (entW cs x).1,apN cs s v x,apV cs s v x,k + 1,0):=by
 subst hx;obtain ⟨e1,e2,e3,e4⟩:=zEY hk (by rw [hS]) h1 (by rw [hS];exact h2) h3;have e5:=(zoC hO (k:=k + 1) (by omega) e1 (by omega)).2.2;rw [hS] at e2 e3 e4;generalize trW cs 0 0 [] (es.take (k + 1))=T at *;obtain ⟨a,b,c,d,e⟩:=T;dsimp only at e1 e2 e3 e4 e5;rw [e1,e2,e3,e4,e5]
theorem zAD (hO:∀ x ∈ es,EnO x) (hS:trW cs 0 0 [] (es.take k)=(A,s,v,k,0)) (hk:k<=es.length) (hk2:k<=140737488351232):PSO v/\inW s/\A.length<=k * 1048591:=by
 have h:=zoC (cs:=cs) hO hk (by rw [hS]) hk2;have h2:=zhE (cs:=cs) (es.take k) 0 0 [];rw [hS] at h h2;rw [List.length_take,Nat.min_eq_left hk] at h2;exact ⟨h.1,h.2.1,h2⟩
end
/- -/
theorem zwG {cs:List ColB}:∀ (es:List EntB) (n:Nat) (s:Int) (v:List PairB),(trW cs n s v es).2.2.2.2≠0->(trW cs n s v es).1=[]/\n<=(trW cs n s v es).2.2.2.1/\(trW cs n s v es).2.2.2.1<=n + es.length/\(trW cs n s v es).2.1=0/\(trW cs n s v es).2.2.1=[]
 | [],n,s,v,h=>by rw [trW] at h;exact absurd rfl h
 | x :: t,n,s,v,h=>by
  have ih:=zwG (cs:=cs) t (n + 1) (apN cs s v x) (apV cs s v x)
  generalize hT:trW cs (n + 1) (apN cs s v x) (apV cs s v x) t=T at ih
  rw [trW,hT] at h ⊢
  rw [List.length_cons]
  split
  ·exact ⟨rfl,l_,by dsimp only;omega,rfl,rfl⟩
  ·split
   ·exact ⟨rfl,l_,by dsimp only;omega,rfl,rfl⟩
   ·split
    ·exact ⟨rfl,l_,by dsimp only;omega,rfl,rfl⟩
    ·split
     ·rename_i h9
      obtain ⟨a,b,c,d⟩:=ih h9
      exact ⟨a,by omega,by omega,d⟩
     ·rename_i g1 g2 g3 h9
      rw [if_neg g1,if_neg g2,if_neg g3,if_neg h9] at h
      exact absurd h h9
theorem zD6 {cs:List ColB} {es:List EntB} (h:(trE cs es).2.2.2.2≠0):(trE cs es).1=[]/\(trE cs es).2.2.2.1<=es.length/\(trE cs es).2.1=0/\(trE cs es).2.2.1=[]:=by
 unfold trE at h ⊢;by_cases h0:errS (colsL cs)=0
 ·rw [if_neg (fun h=>h h0)] at h ⊢;by_cases h1:(trW cs 0 0 [] es).2.2.2.2=0
  ·rw [if_neg (fun h=>h h1)] at h;exact absurd h1 h
  rw [if_pos h1];obtain ⟨a,b,c,d⟩:=zwG es 0 0 [] h1;exact ⟨a,by omega,d⟩
 rw [if_pos h0];exact ⟨rfl,Nat.zero_le _,rfl,rfl⟩
theorem zoJ {cs:List ColB} {es:List EntB} (h:(trE cs es).2.2.2.2=0):errS (colsL cs)=0/\(trW cs 0 0 [] es).2.2.2.2=0/\trE cs es=(hdB (colsL cs) ++ (trW cs 0 0 [] es).1,(trW cs 0 0 [] es).2):=by
 unfold trE at h ⊢;by_cases h0:errS (colsL cs)=0
 ·rw [if_neg (fun h=>h h0)] at h ⊢;by_cases h1:(trW cs 0 0 [] es).2.2.2.2=0
  ·rw [if_neg (fun h=>h h1)];exact ⟨h0,h1,rfl⟩
  rw [if_pos h1] at h;exact absurd h h1
 rw [if_pos h0] at h;exact absurd h h0
theorem zwM {cs:List ColB} {es:List EntB} (h0:errS (colsL cs)=0) (h1:(trW cs 0 0 [] es).2.2.2.2=0):trE cs es=(hdB (colsL cs) ++ (trW cs 0 0 [] es).1,(trW cs 0 0 [] es).2):=by
 unfold trE;rw [if_neg (fun h=>h h0),if_neg (fun h=>h h1)]
theorem zAH {cs:List ColB} {es:List EntB} (hO:∀ x ∈ es,EnO x) (h:(trE cs es).2.2.2.2=0) :
  (trE cs es).2.2.2.1=es.length/\(trD (trE cs es).1).1=cs/\(trD (trE cs es).1).2.1=es/\(trD (trE cs es).1).2.2.2.1=(trE cs es).1.length/\(trD (trE cs es).1).2.2.2.2=0:=by
 obtain ⟨h0,h1,e⟩:=zoJ h;have hk:=(zfU es 0 0 [] [] hO h1 Fold.nil).2.2;rw [e];rw [ziC h0 hO h1];exact ⟨by dsimp only;rw [hk];omega,rfl,rfl,rfl,rfl⟩
theorem zj1 {cs:List ColB} {b:Bs}:∀ (f at_ n:Nat) (s:Int) (v:List PairB),at_<=b.length->(trR cs b f at_ n s v).2.2.1<=b.length
 | 0,at_,n,s,v,h=>by rw [trR];exact h
 | f + 1,at_,n,s,v,h=>by
  rw [trR]
  split
  ·exact h
  ·split
   ·exact h
   ·split
    ·exact h
    ·rename_i h9
     have hx:=(zn6 (b:=b.drop at_) (Decidable.of_not_not h9)).2.1
     rw [List.length_drop] at hx
     split
     ·exact h
     ·split
      ·exact h
      ·split
       ·exact zj1 f _ _ _ _ (by omega)
       ·exact zj1 f _ _ _ _ (by omega)
theorem zCF {b:Bs} (h:(trD b).2.2.2.2≠0):(trD b).1=[]/\(trD b).2.1=[]/\(trD b).2.2.2.1<=b.length:=by
 unfold trD at h ⊢;by_cases h0:b.length < 4∨b.take 4≠magicL
 ·rw [if_pos h0];exact ⟨rfl,rfl,Nat.zero_le _⟩
 rw [if_neg h0] at h ⊢;have h4:4<=b.length:=by omega
 by_cases h1:(nxF (b.drop 4)).2.2.2=0
 ·rw [if_neg (fun h=>h h1)] at h ⊢;have hx:=(zn6 (b:=b.drop 4) h1).2.1;rw [List.length_drop] at hx;by_cases h2:(nxF (b.drop 4)).1=0
  ·rw [if_neg (fun h=>h h2)] at h ⊢;by_cases h3:readE (nxF (b.drop 4)).2.1=0
   ·rw [if_neg (fun h=>h h3)] at h ⊢;split
    ·exact ⟨rfl,rfl,zj1 _ _ _ _ _ (by omega)⟩
    rename_i h9;rw [if_neg h9] at h;exact absurd h h9
   rw [if_pos h3];exact ⟨rfl,rfl,h4⟩
  rw [if_pos h2];exact ⟨rfl,rfl,h4⟩
 rw [if_pos h1];exact ⟨rfl,rfl,h4⟩
theorem zD7 {b:Bs} (h:(trD b).2.2.2.2=0):(∀ x ∈ (trD b).2.1,EnO x)/\(trE (trD b).1 (trD b).2.1).1=b/\(trE (trD b).1 (trD b).2.1).2.2.2.1=(trD b).2.1.length/\(trE (trD b).1 (trD b).2.1).2.2.2.2=0/\(trD b).2.2.2.1=b.length:=by
 obtain ⟨a1,a2,a3,a4,a5,a6⟩:=zr1 h;rw [zwM a1 a3];exact ⟨a2,a4.symm,a6,a3,a5⟩
/- -/
theorem zC8 {cs:List ColB} {s:Int} {v:List PairB} {x:EntB} (h:apE cs s v x=0) (hv:PSO v) (hX:EnO x):PSO (apV cs s v x)/\inW (apN cs s v x)/\apN cs s v x=x.2.1:=by
 have hN:apN cs s v x=x.2.1:=by unfold apN;rw [if_pos h]
 obtain ⟨h1,h2,h3,h4⟩:=zD0 h;obtain ⟨_,_,_,hck⟩:=zb9.1 h3;refine ⟨?_,by rw [hN];exact hX.2.1,hN⟩;rcases h4 with ⟨_,_,a3,_,a5⟩ | ⟨_,_,_,_,a5⟩
 ·rw [a5];exact (zCG ⟨hv,h1⟩ ⟨hX.2.2,hck⟩ a3).1.1
 rw [a5];exact hv
def trJ (es:List EntB) (ms:List (Int × Nat)) (T:List EntB × List (Int × Nat) × Nat × Nat):List EntB × List (Int × Nat) × Nat × Nat :=
 if T.2.2.2≠0 then ([],[],T.2.2) else (es ++ T.1,ms ++ T.2.1,T.2.2)
def trT (cs:List ColB) (a0:Nat) (J:List EntB × List (Int × Nat) × Nat × Nat):List ColB × List EntB × List (Int × Nat) × Nat × Nat :=
 if J.2.2.2≠0 then ([],[],[],J.2.2) else (cs,J.1,(0,a0) :: J.2.1,J.2.2)
section
variable {cs:List ColB} {b p:Bs} {es:List EntB} {ms:List (Int × Nat)} {f a k K m y:Nat} {s:Int} {v:List PairB}
theorem zwL (h:b.length<=a):trJ es ms (trR cs b f a k s v)=(es,ms,a,0):=by
 rw [zgO f h];unfold trJ;rw [if_neg (by simp)];simp
theorem zoF (ha:a < b.length) (hf:b.length<=a + f) (hk:4096<=k):trJ es ms (trR cs b f a k s v)=([],[],a,13):=by
 match f,hf with
 | 0,hf=>omega
 | f + 1,hf=>rw [trR,if_neg (by omega),if_pos hk];rfl
theorem zoG (ha:a < b.length) (hf:b.length<=a + f) (hk:k < 4096) (hn:nxF (b.drop a)=(K,p,m,y)) (hy:y≠0):trJ es ms (trR cs b f a k s v)=([],[],a,y):=by
 match f,hf with
 | 0,hf=>omega
 | f + 1,hf =>
  rw [trR,if_neg (by omega),if_neg (by omega),hn];dsimp only;rw [if_pos hy];unfold trJ;exact if_pos hy
theorem zoH (ha:a < b.length) (hf:b.length<=a + f) (hk:k < 4096) (hn:nxF (b.drop a)=(K,p,m,0)) {E:Nat} (hE:E=entRE cs (K:Int) p) (h0:E≠0):trJ es ms (trR cs b f a k s v)=([],[],a,E):=by
 match f,hf with
 | 0,hf=>omega
 | f + 1,hf =>
  rw [trR,if_neg (by omega),if_neg (by omega),hn];dsimp only;rw [if_neg (by simp),<- hE,if_pos h0];unfold trJ;exact if_pos h0
theorem zoI (ha:a < b.length) (hf:b.length<=a + f) (hk:k < 4096) (hn:nxF (b.drop a)=(K,p,m,0)) (hE:entRE cs (K:Int) p=0) {E:Nat} (hA:E=apE cs s v (entX cs K p)) (h0:E≠0):trJ es ms (trR cs b f a k s v)=([],[],a,E):=by
 match f,hf with
 | 0,hf=>omega
 | f + 1,hf =>
  rw [trR,if_neg (by omega),if_neg (by omega),hn];dsimp only;rw [if_neg (by simp),if_neg (fun h=>h hE),<- hA,if_pos h0];unfold trJ;exact if_pos h0
theorem zAF (ha:a < b.length) (hf:b.length<=a + f) (hk:k < 4096) (hn:nxF (b.drop a)=(K,p,m,0)) (hE:entRE cs (K:Int) p=0) (hA:apE cs s v (entX cs K p)=0) :
  ∃ f',b.length<=a + m + f'/\trJ es ms (trR cs b f a k s v)=trJ (es ++ [entX cs K p]) (ms ++ [(apN cs s v (entX cs K p),a + m)]) (trR cs b f' (a + m) (k + 1) (apN cs s v (entX cs K p)) (apV cs s v (entX cs K p))):=by
 have h1:=zcN (b:=b.drop a) (by rw [hn]);rw [hn] at h1;obtain ⟨_,x2,x3,_,_⟩:=h1;dsimp only at x2 x3;have hp:=zb8 K p
 match f,hf with
 | 0,hf=>omega
 | f + 1,hf =>
  refine ⟨f,by omega,?_⟩;rw [trR,if_neg (by omega),if_neg (by omega),hn];dsimp only;rw [if_neg (by simp),if_neg (fun h=>h hE),if_neg (fun h=>h hA)];obtain ⟨T,hT⟩:=nm_ (trR cs b f (a + m) (k + 1) (apN cs s v (entX cs K p)) (apV cs s v (entX cs K p)));rw [<- hT];by_cases h0:T.2.2.2=0
  ·rw [if_neg (fun h=>h h0)];unfold trJ;dsimp only;rw [if_neg (fun h=>h h0),if_neg (fun h=>h h0)];simp
  rw [if_pos h0];unfold trJ;dsimp only;rw [if_pos h0,if_pos h0]
theorem zfW (hn:nxF (b.drop a)=(K,p,m,0)) (ha:a < b.length):a + m<=b.length/\1<=m/\K<=2/\p.length<=1048576:=by
 have h1:=zcN (b:=b.drop a) (by rw [hn]);rw [hn] at h1;obtain ⟨_,x2,x3,x4,x5⟩:=h1;dsimp only at x2 x3 x4 x5;have hp:=zb8 K p;rw [List.length_drop] at x3;exact ⟨by omega,by omega,x4,x5⟩
theorem zmR (h:b.length < 4∨b.take 4≠magicL):trD b=([],[],[],0,6):=by unfold trD;rw [if_pos h]
theorem zoK (h:¬ (b.length < 4∨b.take 4≠magicL)) (hn:nxF (b.drop 4)=(K,p,m,y)) (hy:y≠0):trD b=([],[],[],4,y):=by
 unfold trD;rw [if_neg h,hn];dsimp only;rw [if_pos hy]
theorem zsR (h:¬ (b.length < 4∨b.take 4≠magicL)) (hn:nxF (b.drop 4)=(K,p,m,0)) (hK:K≠0):trD b=([],[],[],4,10):=by
 unfold trD;rw [if_neg h,hn];dsimp only;rw [if_neg (by simp),if_pos hK]
theorem zlD (h:¬ (b.length < 4∨b.take 4≠magicL)) (hn:nxF (b.drop 4)=(0,p,m,0)) (hp:readE p≠0):trD b=([],[],[],4,readE p):=by
 unfold trD;rw [if_neg h,hn];dsimp only;rw [if_neg (by simp),if_neg (by simp),if_pos hp]
theorem zsQ (h:¬ (b.length < 4∨b.take 4≠magicL)) (hn:nxF (b.drop 4)=(0,p,m,0)) (hp:readE p=0) :
  trD b=trT (colsB (readC p)) (4 + m) (trJ [] [] (trR (colsB (readC p)) b b.length (4 + m) 0 0 [])):=by
 unfold trD;rw [if_neg h,hn];dsimp only;rw [if_neg (by simp),if_neg (by simp),if_neg (fun h=>h hp)];obtain ⟨T,hT⟩:=nm_ (trR (colsB (readC p)) b b.length (4 + m) 0 0 []);rw [<- hT];unfold trT trJ;by_cases h0:T.2.2.2=0
 ·simp [h0]
 simp [h0]
end
theorem zz4 {cs:List ColB} {K:Nat} {p:Bs} {ps:List PairB} (hO:PSO ps) (h:psL ps=(entRV cs (K:Int) p).2.2):entX cs K p=((entRV cs (K:Int) p).1,(entRV cs (K:Int) p).2.1,ps):=by
 unfold entX;rw [<- h,zxV ps]
