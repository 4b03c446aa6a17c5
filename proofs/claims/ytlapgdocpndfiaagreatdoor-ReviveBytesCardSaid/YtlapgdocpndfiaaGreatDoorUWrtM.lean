/- -/
import Derived.Test.YtlapgdocpndfiaaGreatDoorUTrcW
set_option linter.unusedVariables false
set_option linter.unusedSimpArgs false
set_option maxRecDepth 1000000
namespace Go.Proofs.YtlapgdocpndfiaaGreatDoor
open Go.RowKit Go.Shelf
structure TrS (cs:List ColB) (es:List EntB):Prop where
 sch:CS cs
 en:∀ x ∈ es,EnO x
 ok:(trE cs es).2.2.2.2=0
def layE (cs:List ColB) (es:List EntB) (x:EntB):Nat :=
 if apE cs (trE cs es).2.1 (trE cs es).2.2.1 x≠0 then apE cs (trE cs es).2.1 (trE cs es).2.2.1 x else (entW cs x).2
def layB (cs:List ColB) (es:List EntB) (x:EntB):Bs:=if layE cs es x=0 then (entW cs x).1 else []
def layS (cs:List ColB) (es:List EntB) (x:EntB):List EntB:=if layE cs es x=0 then es ++ [x] else es
abbrev ActB:=Int × List PairB
def actX (cs:List ColB) (es:List EntB) (a:ActB):EntB:=if a.1=0 then (0,(trE cs es).2.1 + 1,clcO cs a.2) else (1,(trE cs es).2.1,(trE cs es).2.2.1)
def actE (cs:List ColB) (es:List EntB) (a:ActB):Nat :=
 if 4096<=es.length then 13 else if a.1=0/\clcE cs a.2≠0 then clcE cs a.2 else layE cs es (actX cs es a)
def actB (cs:List ColB) (es:List EntB) (a:ActB):Bs:=if actE cs es a=0 then (entW cs (actX cs es a)).1 else []
def actS (cs:List ColB) (es:List EntB) (a:ActB):List EntB:=if actE cs es a=0 then es ++ [actX cs es a] else es
theorem zwF {cs:List ColB}:∀ (es:List EntB) (n:Nat) (s:Int) (v:List PairB),n<=4096->(trW cs n s v es).2.2.2.2=0->n + es.length<=4096
 | [],n,s,v,hn,h=>by simpa using hn
 | x :: t,n,s,v,hn,h=>by
  obtain ⟨h1,h2,h3,h4,h5⟩:=zfV h
  have:=zwF t (n + 1) (apN cs s v x) (apV cs s v x) (by omega) h4
  rw [List.length_cons];omega
section
variable {cs:List ColB} {es:List EntB} {x:EntB} {a:ActB}
theorem TrS.parts (h:TrS cs es):errS (colsL cs)=0/\(trW cs 0 0 [] es).2.2.2.2=0/\trE cs es=(hdB (colsL cs) ++ (trW cs 0 0 [] es).1,(trW cs 0 0 [] es).2):=zoJ h.ok
theorem TrS.few (h:TrS cs es):es.length<=4096:=by
 have:=zwF es 0 0 [] (by omega) h.parts.2.1;omega
theorem TrS.view (h:TrS cs es):Fold cs (trE cs es).2.2.1 (zm3 es)/\(trE cs es).2.1=(zhR es:Int)/\(trE cs es).2.2.2.1=es.length:=by
 obtain ⟨h0,h1,e⟩:=h.parts;obtain ⟨f1,f2,f3⟩:=zfU es 0 0 [] [] h.en h1 Fold.nil;rw [e];dsimp only;rw [List.nil_append] at f1;exact ⟨f1,by omega,by omega⟩
theorem TrS.seq (h:TrS cs es):0<=(trE cs es).2.1/\(trE cs es).2.1<=4096:=by
 have h1:=h.view.2.1;have h2:=h.few;have h3:zhR es<=es.length:=List.length_filter_le _ _;omega
theorem TrS.set (h:TrS cs es):Zs cs (trE cs es).2.2.1:=h.view.1.set h.parts.1
theorem TrS.pso (h:TrS cs es):PSO (trE cs es).2.2.1:=h.set.1
theorem TrS.inw (h:TrS cs es):inW (trE cs es).2.1:=by
 have:=h.seq;unfold inW;omega
theorem TrS.small (h:TrS cs es):(trE cs es).1.length<=4400000000:=by
 have h1:=zhE (cs:=cs) es 0 0 [];have h2:es.length * 1048591<=4096 * 1048591:=Nat.mul_le_mul_right _ h.few;obtain ⟨h0,_,e⟩:=h.parts;have h3:=ze4 h0;rw [e];dsimp only;rw [List.length_append];omega
theorem TrS.nil (hC:CS cs) (h:errS (colsL cs)=0):TrS cs []/\trE cs []=(hdB (colsL cs),0,[],0,0):=by
 have e:trE cs []=(hdB (colsL cs),0,[],0,0):=by
  rw [zwM h (by rw [trW]),trW];simp
 exact ⟨⟨hC,fun x hx=>absurd hx (by simp),by rw [e]⟩,e⟩
theorem ztG (h:TrS cs es) (hl:es.length < 4096) (hx:EnO x) (hE:layE cs es x=0) :
  TrS cs (es ++ [x])/\trE cs (es ++ [x])=((trE cs es).1 ++ (entW cs x).1,apN cs (trE cs es).2.1 (trE cs es).2.2.1 x,apV cs (trE cs es).2.1 (trE cs es).2.2.1 x,es.length + 1,0):=by
 obtain ⟨h0,h1,e⟩:=h.parts;have hv:=h.view.2.2;have hen:∀ y ∈ es ++ [x],EnO y:=fun y hy=>by
  rcases List.mem_append.1 hy with hy | hy
  ·exact h.en y hy
  rw [List.mem_singleton.1 hy];exact hx
 unfold layE at hE;rw [e] at hE hv ⊢;dsimp only at hE hv ⊢;have hok:=h.ok;rw [e] at hok;dsimp only at hok;generalize hT:trW cs 0 0 [] es=T at *;obtain ⟨A,s,v,k,y⟩:=T;dsimp only at hE hv h1 ⊢;subst h1;subst hv;have hA:apE cs s v x=0:=by
  by_cases h9:apE cs s v x=0
  ·exact h9
  rw [if_pos h9] at hE;exact absurd hE h9
 rw [if_neg (fun h=>h hA)] at hE;have hk:es.length < (es ++ [x]).length:=by simp
 have hS:trW cs 0 0 [] ((es ++ [x]).take es.length)=(A,s,v,es.length,0):=by rw [List.take_left' rfl];exact hT
 have hg:x=(es ++ [x]).getD es.length default:=by simp [List.getD]
 have hN:=zwC hen hS hk hl hg hA hE;rw [List.take_of_length_le (by simp)] at hN;have hEn:=zwM (cs:=cs) (es:=es ++ [x]) h0 (by rw [hN]);rw [hN] at hEn;dsimp only at hEn;refine ⟨⟨h.sch,hen,by rw [hEn]⟩,?_⟩;rw [hEn,List.append_assoc]
theorem zzT (h:TrS cs es) (hP:PSO a.2):EnO (actX cs es a):=by
 have h1:=h.seq;unfold actX;split
 ·refine ⟨?_,?_,zBZ hP⟩
  ·show inW 0;unfold inW;omega
  show inW ((trE cs es).2.1 + 1);unfold inW;omega
 refine ⟨?_,h.inw,h.pso⟩;show inW 1;unfold inW;omega
theorem zCA (hE:actE cs es a=0):es.length < 4096/\(a.1=0->clcE cs a.2=0)/\layE cs es (actX cs es a)=0:=by
 unfold actE at hE;by_cases h1:4096<=es.length
 ·rw [if_pos h1] at hE;cases hE
 rw [if_neg h1] at hE;by_cases h2:a.1=0/\clcE cs a.2≠0
 ·rw [if_pos h2] at hE;exact absurd hE h2.2
 rw [if_neg h2] at hE;refine ⟨by omega,fun h=>?_,hE⟩;by_cases h3:clcE cs a.2=0
 ·exact h3
 exact absurd ⟨h,h3⟩ h2
theorem znV (h:TrS cs es) (hP:PSO a.2) (hE:actE cs es a=0) :
  TrS cs (es ++ [actX cs es a])/\trE cs (es ++ [actX cs es a])=((trE cs es).1 ++ (entW cs (actX cs es a)).1,apN cs (trE cs es).2.1 (trE cs es).2.2.1 (actX cs es a),apV cs (trE cs es).2.1 (trE cs es).2.2.1 (actX cs es a),es.length + 1,0):=by
 obtain ⟨h1,_,h2⟩:=zCA hE;exact ztG h h1 (zzT h hP) h2
theorem zEO:(actS cs es a).length<=es.length + 1/\es.length<=(actS cs es a).length:=by
 unfold actS;split
 ·simp
 simp
end
/- -/
def OffG (E:Elt) (w:World) (v:Value) (vs:List (List Value)) (Q:Nat->Prop):Prop:=RdG E w v vs/\∀ i,i < vs.length->¬ Q (adr v (i * E.n)).block
section
variable {E:Elt} {w w':World} {v:Value} {vs:List (List Value)} {Q Q':Nat->Prop}
theorem OffG.keep (h:OffG E w v vs Q) (hE:E.Ok) (hk:∀ j,j < w.heap.size->¬ Q j->w'.heap[j]?=w.heap[j]?):OffG E w' v vs Q :=
 ⟨h.1.same fun i hi=>hk _ (h.1.block hE hi) (h.2 i hi),h.2⟩
theorem OffG.more (h:OffG E w v vs Q) (hE:E.Ok) (hk:∀ j,j < w.heap.size->¬ Q j->¬ Q' j):OffG E w v vs Q' :=
 ⟨h.1,fun i hi=>hk _ (h.1.block hE hi) (h.2 i hi)⟩
theorem OwnG.where14 {base:Nat} (h:OwnG E w base v vs) {i:Nat} (hi:i < vs.length):v.ownBlock=some (adr v (i * E.n)).block/\base<=(adr v (i * E.n)).block:=by
 rcases h.1.2 with ⟨rfl,hn⟩ | ⟨g,cap,cur,rfl,hbg,_⟩
 ·omega
 rw [zaK];exact ⟨rfl,hbg⟩
theorem OwnG.off {base:Nat} (h:OwnG E w base v vs) (hs:vs.length<=140737488351232) (hQ:∀ j,base<=j->¬ Q j):OffG E w v vs Q :=
 ⟨h.rd hs,fun i hi=>hQ _ (h.where14 hi).2⟩
end
theorem Only.by14 {w w':World} {r:Option Nat} (k:w.grownBy w' r):Only (fun j=>r=some j) w w':=⟨k.os,k.tape,k.output,k.size,fun j h1 h2=>k.block j h1 (fun e=>h2 e.symm)⟩
theorem Own.stay {w w':World} {base:Nat} {v:Value} {l:Bs} {S:Nat->Prop} (h:Own w base v l) (hO:Only S w w') (hq:∀ q,v.ownBlock=some q->¬ S q):Own w' base v l:=by
 refine ⟨h.1,?_⟩;rcases h.2 with h2 | ⟨g,cap,cur,rfl,hbg,hg,r⟩
 ·exact .inl h2
 exact .inr ⟨g,cap,cur,rfl,hbg,hO.keep hg (hq g rfl),r⟩
theorem Own.lt14 {w:World} {base:Nat} {v:Value} {l:Bs} (h:Own w base v l) {k:Nat} (hk:v.ownBlock=some k):base<=k/\k < w.heap.size:=World.ownsRow.lt h k hk
def Wbox (w:World) (g:Nat) (sv bv:Value) (n s:Int) (vv:Value):Prop:=w.heap[g]?=some (.cells #[sv,bv,.int .i64 n,.int .i64 s,vv] 130 (0,0))
section
variable {w w':World} {g:Nat} {sv bv vv:Value} {n s:Int}
theorem Wbox.cells (h:Wbox w g sv bv n s vv):w.cell? ⟨g,0,none⟩=some sv/\w.cell? ⟨g,1,none⟩=some bv/\w.cell? ⟨g,2,none⟩=some (.int .i64 n)/\w.cell? ⟨g,3,none⟩=some (.int .i64 s)/\w.cell? ⟨g,4,none⟩=some vv :=
 ⟨cell_of_row _ _ 0 _ _ _ h,cell_of_row _ _ 1 _ _ _ h,cell_of_row _ _ 2 _ _ _ h,cell_of_row _ _ 3 _ _ _ h,cell_of_row _ _ 4 _ _ _ h⟩
theorem Wbox.free (h:Wbox w g sv bv n s vv) (i:Nat):w.frozen? ⟨g,i,none⟩=false:=frozen_of_row _ _ _ _ _ h
theorem Wbox.lt (h:Wbox w g sv bv n s vv):g < w.heap.size:=(Array.getElem?_eq_some_iff.1 h).1
theorem Wbox.later (h:Wbox w g sv bv n s vv) (hb:Below w.heap.size w w'):Wbox w' g sv bv n s vv:=(hb.block g h.lt).trans h
theorem Wbox.set (h:Wbox w g sv bv n s vv) (bn:Value) (m t:Int) (u:Value):Wbox ((((w.setCell ⟨g,1,none⟩ bn).setCell ⟨g,2,none⟩ (.int .i64 m)).setCell ⟨g,3,none⟩ (.int .i64 t)).setCell ⟨g,4,none⟩ u) g sv bn m t u:=by
 have:=block_setCell (k:=4) (block_setCell (k:=3) (block_setCell (k:=2) (block_setCell (k:=1) h bn) (.int .i64 m)) (.int .i64 t)) u;unfold Wbox;simpa using this
end
def Ban (Q:Nat->Prop) (g:Nat) (bv:Value) (j:Nat):Prop:=Q j∨j=g∨bv.ownBlock=some j
structure Wr (w:World) (N g:Nat) (bv:Value) (cs:List ColB) (es:List EntB) (Q:Nat->Prop):Prop where
 trs:TrS cs es
 from_:N<=g
 own:Own w N bv (trE cs es).1
 apart:bv.ownBlock≠some g
 free:∀ j,Q j->j≠g/\bv.ownBlock≠some j
 box:∃ sv vv,Wbox w g sv bv (es.length:Int) (trE cs es).2.1 vv/\OffG colE w sv (cs.map colV) (Ban Q g bv)/\OffS w vv (trE cs es).2.2.1 (Ban Q g bv)
section
variable {w w':World} {N g:Nat} {bv:Value} {cs:List ColB} {es:List EntB} {Q Q' S:Nat->Prop}
theorem Wr.lt (h:Wr w N g bv cs es Q):g < w.heap.size:=by
 obtain ⟨_,_,hb,_⟩:=h.box;exact hb.lt
theorem Wr.only (h:Wr w N g bv cs es Q) (hO:Only S w w') (hS:∀ j,j < w.heap.size->S j->Q j):Wr w' N g bv cs es Q:=by
 obtain ⟨sv,vv,h1,h2,h3⟩:=h.box;have hk:∀ j,j < w.heap.size->¬ Ban Q g bv j->w'.heap[j]?=w.heap[j]?:=fun j hj hn=>hO.block j hj fun hs=>hn (.inl (hS j hj hs));refine ⟨h.trs,h.from_,h.own.stay hO fun q hq hs=>(h.free q (hS q (h.own.lt14 hq).2 hs)).2 hq,h.apart,h.free,sv,vv,hO.keep h1 fun hs=>(h.free g (hS g h1.lt hs)).1 rfl,h2.keep zcS hk,h3.keep hk⟩
theorem Wr.later (h:Wr w N g bv cs es Q) (hb:Below w.heap.size w w'):Wr w' N g bv cs es Q :=
 h.only (S:=fun _=>False) (ze3 hb l_) fun _ _ h=>h.elim
theorem Wr.less (h:Wr w N g bv cs es Q) (hQ:∀ j,Q' j->Q j):Wr w N g bv cs es Q':=by
 obtain ⟨sv,vv,h1,h2,h3⟩:=h.box;have hk:∀ j,j < w.heap.size->¬ Ban Q g bv j->¬ Ban Q' g bv j:=fun j _ hn hq=>hn (hq.elim (fun h=>.inl (hQ j h)) .inr);exact ⟨h.trs,h.from_,h.own,h.apart,fun j hj=>h.free j (hQ j hj),sv,vv,h1,h2.more zcS hk,h3.more hk⟩
theorem Wr.fresh (h:Wr w N g bv cs es Q):Wr w N g bv cs es (fun j=>Q j∨w.heap.size<=j):=by
 obtain ⟨sv,vv,h1,h2,h3⟩:=h.box;have hk:∀ j,j < w.heap.size->¬ Ban Q g bv j->¬ Ban (fun j=>Q j∨w.heap.size<=j) g bv j:=fun j hj hn hq=>by
  rcases hq with (hq | hq) | hq
  ·exact hn (.inl hq)
  ·omega
  exact hn (.inr hq)
 refine ⟨h.trs,h.from_,h.own,h.apart,fun j hj=>?_,sv,vv,h1,h2.more zcS hk,h3.more hk⟩;rcases hj with hj | hj
 ·exact h.free j hj
 refine ⟨fun e=>?_,fun e=>?_⟩
 ·have:=h1.lt;omega
 have:=(h.own.lt14 e).2;omega
theorem Wr.lower {N':Nat} (h:Wr w N g bv cs es Q) (hN:N'<=N):Wr w N' g bv cs es Q :=
 ⟨h.trs,Nat.le_trans hN h.from_,h.own.base hN,h.apart,h.free,h.box⟩
theorem Wr.rd (h:Wr w N g bv cs es Q):Rd w bv (trE cs es).1:=h.own.rd (by have:=h.trs.small;omega)
end
def StO (w:World) (N g:Nat) (bv:Value) (cs:List ColB) (Q:Nat->Prop) (E:Nat) (B:Bs) (es':List EntB) (e:Ending) (w':World):Prop :=
 ∃ x bn,e=.returned (.tuple #[x,.int .i64 (E:Int)])/\Own w' w.heap.size x B/\Wr w' N g bn cs es' (fun j=>Q j∨x.ownBlock=some j)/\Only (fun j=>j=g∨bv.ownBlock=some j) w w'/\Place w bv bn
theorem StO.no {w w':World} {N g:Nat} {bv:Value} {cs:List ColB} {es es':List EntB} {Q:Nat->Prop} {E E':Nat} {B:Bs} {y:Int} (h:Wr w N g bv cs es Q) (hb:Below w.heap.size w w') (hE:E'=E) (hB:B=[]) (hes:es'=es) (hy:y=(E:Int)) :
  StO w N g bv cs Q E' B es' (.returned (.tuple #[.slice none 0 0,.int .i64 y])) w':=by
 subst hE hB hes hy;exact ⟨_,bv,rfl,zaT _ _,(h.later hb).less (fun j hj=>hj.elim id fun e=>by cases e),ze3 hb l_,.inl rfl⟩
section
variable {w w':World} {g:Nat} {sv ev vv:Value} {s:Int}
end
section
variable {w w':World} {N g:Nat} {cs:List ColB} {es:List EntB} {Q Q' S:Nat->Prop}
end
/- -/
def blank (w:World) (B:Nat):World:={ w with heap:=w.heap.mapIdx fun j o=>if j < B then .cells #[] 5 (0,0) else o }
theorem zmG (w:World) (B:Nat):Only (fun j=>j < B) w (blank w B):=by
 refine ⟨rfl,rfl,rfl,by simp [blank],fun j hj hn=>?_⟩;simp only [blank,Array.getElem?_mapIdx];cases h:w.heap[j]? with
 | none=>rfl
 | some o=>simp [if_neg hn]
theorem zvO {w:World} {B:Nat} {a:Addr} {x:Value} (h:(blank w B).cell? ⟨a.block,a.off,none⟩=some x):¬ a.block < B:=fun hb=>by
 cases k:w.heap[a.block]? with
 | none =>
  have:(blank w B).heap[a.block]?=none:=by simp [blank,k]
  simp [World.cell?,this] at h
 | some o =>
  have:(blank w B).heap[a.block]?=some (.cells #[] 5 (0,0)):=by simp [blank,k,hb]
  rw [cell_of_row _ _ _ _ _ _ this] at h
  simp at h
theorem zB6 {E:Elt} {w:World} {B:Nat} {v:Value} {vs:List (List Value)} (hE:E.Ok) (h:RdG E (blank w B) v vs):OffG E w v vs (fun j=>j < B):=by
 have key:∀ i,i < vs.length->¬ (adr v (i * E.n)).block < B:=fun i hi hb=>by
  obtain ⟨ao,cap,rfl,_,_,hs⟩:=h.shape;obtain ⟨b,o,rfl⟩:=hs (by omega);have hw:(vs.getD i []).length=E.n:=h.wid _ (by simp [List.getD,List.getElem?_eq_getElem hi]);have h0:=hE.hn;have hc:=h.cells i hi 0 ((vs.getD i [])[0]'(by omega)) (by simp);rw [zaK] at hc hb;exact zvO (a:=⟨b,o + (i * E.n + 0),none⟩) hc hb
 refine ⟨h.same fun i hi=>?_,key⟩;have hb:=h.block hE hi;have hsz:(blank w B).heap.size=w.heap.size:=by simp [blank]
 exact ((zmG w B).block _ (by omega) (key i hi)).symm
