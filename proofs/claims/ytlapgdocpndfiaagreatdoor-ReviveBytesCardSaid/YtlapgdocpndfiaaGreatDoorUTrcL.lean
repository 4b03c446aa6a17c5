/- -/
import Derived.Test.YtlapgdocpndfiaaGreatDoorUTrcP
set_option linter.unusedVariables false
set_option linter.unusedSimpArgs false
set_option maxRecDepth 1000000
namespace Go.Proofs.YtlapgdocpndfiaaGreatDoor
open _root_.Go.Proofs.Tryz
open Go.RowKit
theorem OwnG.own_type {E:Elt} {w:World} {base q:Nat} {v:Value} {vs:List (List Value)} (h:OwnG E w base v vs) (hq:v.ownBlock=some q):∃ cur,w.heap[q]?=some (.cells cur E.T (0,0)):=by
 rcases h.1.2 with ⟨rfl,hn⟩ | ⟨g,cap,cur,rfl,hbg,hgg,_⟩
 ·cases hq
 cases hq;exact ⟨_,hgg⟩
/- -/
def natE:Elt:=⟨118,3,1,8,.int .i64 0⟩
theorem zFE:natE.Ok:=⟨underlying118,by kernel_rfl,by kernel_rfl,rfl,by decide⟩
def natV (x:Nat):List Value:=[.int .i64 (x:Int)]
def OwnN (w:World) (base:Nat) (v:Value) (l:List Nat):Prop:=OwnG natE w base v (l.map natV)
section
variable {w w':World} {v:Value} {l:List Nat} {base:Nat}
end
/- -/
open Go.Shelf
def OffS (w:World) (v:Value) (ps:List PairB) (Q:Nat->Prop):Prop :=
 ∃ ts:List TriB,ps=ts.map (·.2)/\RdG pairE w v (ts.map triV)/\(∀ t ∈ ts,RdE w t.1 t.2.1)/\(∀ i,i < ts.length->¬ Q (adr v (i * 2)).block)/\∀ t ∈ ts,∀ i,i < t.2.1.length->¬ Q (adr t.1 (i * 2)).block
section
variable {w w':World} {v:Value} {ps:List PairB} {Q Q':Nat->Prop}
theorem OffS.rd (h:OffS w v ps Q):RdP w v ps:=by
 obtain ⟨ts,e,h1,h2,_⟩:=h;exact ⟨ts,e,h1,h2⟩
theorem OffS.keep (h:OffS w v ps Q) (hk:∀ j,j < w.heap.size->¬ Q j->w'.heap[j]?=w.heap[j]?):OffS w' v ps Q:=by
 obtain ⟨ts,e,h1,h2,h3,h4⟩:=h;refine ⟨ts,e,RdG.same h1 fun i hi=>?_,fun t ht=>RdG.same (h2 t ht) fun i hi=>?_,h3,h4⟩
 ·have hi':i < ts.length:=by simpa using hi
  exact hk _ (RdG.block h1 zaY hi) (h3 i hi')
 have hi':i < t.2.1.length:=by simpa using hi
 exact hk _ (RdG.block (h2 t ht) zcX hi) (h4 t ht i hi')
theorem OffS.more (h:OffS w v ps Q) (hk:∀ j,j < w.heap.size->¬ Q j->¬ Q' j):OffS w v ps Q':=by
 obtain ⟨ts,e,h1,h2,h3,h4⟩:=h;refine ⟨ts,e,h1,h2,fun i hi=>hk _ (RdG.block h1 zaY (i:=i) (by simpa using hi)) (h3 i hi),fun t ht i hi=>hk _ (RdG.block (h2 t ht) zcX (i:=i) (by simpa using hi)) (h4 t ht i hi)⟩
theorem NewP.offS {base:Nat} (h:NewP w base v ps) (hk:∀ j,base<=j->¬ Q j):OffS w v ps Q:=by
 obtain ⟨ts,e,h1,h2,h3⟩:=h;exact ⟨ts,e,h1,fun t ht=>(h3 t ht).1,fun i hi=>hk _ (h2 i hi),fun t ht i hi=>hk _ ((h3 t ht).2 i hi)⟩
theorem OffS.later (h:OffS w v ps Q) (hb:Below w.heap.size w w'):OffS w' v ps Q:=h.keep fun j hj _=>hb.block j hj
theorem OffS.nil (w:World) (Q:Nat->Prop):OffS w (.slice none 0 0) [] Q:=⟨[],rfl,RdG.nil pairE w,by simp,by simp,by simp⟩
end
theorem OwnG.lit13 {E:Elt} {w:World} {base:Nat} {v:Value} {vs:List (List Value)} (h:OwnG E w base v vs):∃ ao n cap,v=.slice ao n cap:=by
 rcases h.1.2 with ⟨rfl,_⟩ | ⟨g,cap,cur,rfl,_⟩
 ·exact ⟨_,_,_,rfl⟩
 exact ⟨_,_,_,rfl⟩
theorem OwnG.stay {E:Elt} {w w':World} {base:Nat} {v:Value} {vs:List (List Value)} {S:Nat->Prop} (h:OwnG E w base v vs) (hO:Only S w w') (hq:∀ q,v.ownBlock=some q->¬ S q):OwnG E w' base v vs:=by
 refine ⟨⟨h.1.1,?_⟩,h.2⟩;rcases h.1.2 with h2 | ⟨g,cap,cur,rfl,hbg,hg,r⟩
 ·exact .inl h2
 exact .inr ⟨g,cap,cur,rfl,hbg,hO.keep hg (hq g rfl),r⟩
theorem OwnG.notOf {E:Elt} {w:World} {base q:Nat} {v:Value} {vs:List (List Value)} {a:Array Value} {T:TypeId} {f:Nat × Nat} (h:OwnG E w base v vs) (hq:w.heap[q]?=some (.cells a T f)) (hT:E.T≠T):v.ownBlock≠some q:=fun e=>by
 obtain ⟨c,hc⟩:=h.own_type e
 rw [hq] at hc
 injection hc with hc
 injection hc with _ h3 _
 exact hT h3.symm
theorem OwnG.apart {E F:Elt} {w:World} {b1 b2 q:Nat} {v u:Value} {vs us:List (List Value)} (h:OwnG E w b1 v vs) (k:OwnG F w b2 u us) (hT:E.T≠F.T) (hq:v.ownBlock=some q):u.ownBlock≠some q:=fun e=>by
 obtain ⟨c,hc⟩:=h.own_type hq
 exact k.notOf hc (fun e=>hT e.symm) e
def zh8 (N:Nat) (ev xv:Value) (q:Nat):Prop:=q < N∨ev.ownBlock=some q∨xv.ownBlock=some q
def Held (w:World) (vv:Value) (view:List PairB) (ts:List EntV) (Q:Nat->Prop):Prop:=OffS w vv view Q/\∀ t ∈ ts,OffS w t.1 t.2.2.2 Q
section
variable {w w':World} {vv ev xv:Value} {view:List PairB} {ts:List EntV} {Q Q':Nat->Prop} {N:Nat}
theorem Held.keep (h:Held w vv view ts Q) (hk:∀ j,j < w.heap.size->¬ Q j->w'.heap[j]?=w.heap[j]?):Held w' vv view ts Q:=⟨h.1.keep hk,fun t ht=>(h.2 t ht).keep hk⟩
theorem Held.more (h:Held w vv view ts Q) (hk:∀ j,j < w.heap.size->¬ Q j->¬ Q' j):Held w vv view ts Q':=⟨h.1.more hk,fun t ht=>(h.2 t ht).more hk⟩
theorem Held.later (h:Held w vv view ts Q) (hb:Below w.heap.size w w'):Held w' vv view ts Q:=h.keep fun j hj _=>hb.block j hj
theorem Held.only {S:Nat->Prop} (h:Held w vv view ts Q) (hO:Only S w w') (hS:∀ j,S j->Q j):Held w' vv view ts Q:=h.keep fun j hj hq=>hO.block j hj fun hs=>hq (hS j hs)
theorem Held.growE {ev':Value} (h:Held w vv view ts (zh8 N ev xv)) (hg:w.grownBy w' ev.ownBlock) (hp:Place w ev ev'):Held w' vv view ts (zh8 N ev' xv):=by
 have h1:Held w vv view ts (fun q=>zh8 N ev xv q∨ev'.ownBlock=some q):=h.more fun j hj hn hq=>by
  rcases hq with hq | hq
  ·exact hn hq
  rcases hp with e | hp
  ·rw [e] at hq;exact hn (.inr (.inl hq))
  have:=hp j hq;omega
 refine (h1.keep (w':=w') fun j hj hn=>hg.block j hj fun e=>hn (.inl (.inr (.inl e.symm)))).more fun j hj hn hq=>hn ?_;rcases hq with hq | hq | hq
 ·exact .inl (.inl hq)
 ·exact .inr hq
 exact .inl (.inr (.inr hq))
theorem Held.growX {xv':Value} (h:Held w vv view ts (zh8 N ev xv)) (hg:w.grownBy w' xv.ownBlock) (hp:Place w xv xv'):Held w' vv view ts (zh8 N ev xv'):=by
 have h1:Held w vv view ts (fun q=>zh8 N ev xv q∨xv'.ownBlock=some q):=h.more fun j hj hn hq=>by
  rcases hq with hq | hq
  ·exact hn hq
  rcases hp with e | hp
  ·rw [e] at hq;exact hn (.inr (.inr hq))
  have:=hp j hq;omega
 refine (h1.keep (w':=w') fun j hj hn=>hg.block j hj fun e=>hn (.inl (.inr (.inr e.symm)))).more fun j hj hn hq=>hn ?_;rcases hq with hq | hq | hq
 ·exact .inl (.inl hq)
 ·exact .inl (.inr (.inl hq))
 exact .inr hq
theorem NewP.heldQ {v:Value} {ps:List PairB} {base:Nat} (h:NewP w' base v ps) (hN:N<=base) (he:∀ q,ev.ownBlock=some q->q < base) (hx:∀ q,xv.ownBlock=some q->q < base):OffS w' v ps (zh8 N ev xv) :=
 h.offS fun j hj hq=>by
  rcases hq with hq | hq | hq
  ·omega
  ·have:=he j hq;omega
  ·have:=hx j hq;omega
end
theorem Held.entries {w:World} {base:Nat} {vv ev:Value} {view:List PairB} {ts:List EntV} {Q:Nat->Prop} (h:Held w vv view ts Q) (ho:OwnG zcB w base ev (ts.map enV)) (hs:ts.length<=140737488351232):RdZ w ev (ts.map (·.2)) :=
 ⟨ts,rfl,ho.rd (by simpa using hs),fun t ht=>(h.2 t ht).rd⟩
theorem zhB {w:World} {ops:Array Oper} {Q:Exit->Act->World->Prop} {rest:List Oper} {a:Act} {dst:Option Tmp} {ty:TypeId} {pos:String} {aft:Array Edge} {s x:Operand} {ts:List EntV}
  (base:Nat) (sv:Value) (hs:a.eval s=sv) (ho:OwnG zcB w base sv (ts.map enV)) (g:Nat) (pv:Value) (y:EntB) (hx:a.eval x=.slice (some ⟨g,0,none⟩) 1 1) (hg:w.heap[g]?=some (.cells #[.int .i64 y.1,.int .i64 y.2.1,pv] 92 (0,0)))
  (hr:RdP w pv y.2.2) (hn:(ts.length + 1) * 40<=140737488355328) (hbase:base<=w.heap.size)
  (B:Nat) (w0:World) (hb:Below B w0 w) (hBb:B<=base)
  (h:∀ v' w',OwnG zcB w' base v' ((ts ++ [(pv,y)]).map enV)->Below B w0 w'->w.grownBy w' sv.ownBlock->Place w sv v'->wpList prog ops Q rest (a.put dst v') w') :
  wpList prog ops Q (⟨dst,.call ⟨.builtin .append,#[s,x],#[25,25]⟩,ty,pos,aft,none⟩ :: rest) a w:=by
 refine zbA zk3 base sv hs ho _ hx (zgS zk3 (enV (pv,y)) rfl ⟨g,0,none⟩ ⟨g,0,rfl⟩ fun j z hj=>?_) ?_ (by simp;exact hn) (by simp;omega) hbase B w0 hb hBb (fun v' w' h1 h2 h3 h4=>h v' w' (by rw [List.map_append];exact h1) h2 h3 h4)
 ·have e:Addr.add ⟨g,0,none⟩ j=⟨g,j,none⟩:=by simp only [Addr.add];split <;> simp_all
  rw [e,cell_of_row _ _ _ _ _ _ hg];simpa [enV] using hj
 intro z hz;rw [List.mem_singleton.1 hz];exact zEB hr
theorem zmM {w:World} {l:List Nat} {ops:Array Oper} {Q:Exit->Act->World->Prop} {rest:List Oper} {a:Act} {dst:Option Tmp} {ty:TypeId} {pos:String} {aft:Array Edge} {s x:Operand}
  (base:Nat) (sv:Value) (hs:a.eval s=sv) (ho:OwnN w base sv l) (g:Nat) (n:Nat) (hx:a.eval x=.slice (some ⟨g,0,none⟩) 1 1) (hg:w.heap[g]?=some (.cells #[.int .i64 (n:Int)] 3 (0,0)))
  (hn:l.length<=1000000000) (hbase:base<=w.heap.size)
  (B:Nat) (w0:World) (hb:Below B w0 w) (hBb:B<=base)
  (h:∀ v' w',OwnN w' base v' (l ++ [n])->Below B w0 w'->w.grownBy w' sv.ownBlock->Place w sv v'->wpList prog ops Q rest (a.put dst v') w') :
  wpList prog ops Q (⟨dst,.call ⟨.builtin .append,#[s,x],#[118,118]⟩,ty,pos,aft,none⟩ :: rest) a w:=by
 refine zbA zFE base sv hs ho _ hx (zgS zFE (natV n) rfl ⟨g,0,none⟩ ⟨g,0,rfl⟩ fun j z hj=>?_) ?_ (by simp [natE];omega) (by simp;omega) hbase B w0 hb hBb (fun v' w' h1 h2 h3 h4=>h v' w' (by unfold OwnN;rw [List.map_append];exact h1) h2 h3 h4)
 ·have e:Addr.add ⟨g,0,none⟩ j=⟨g,j,none⟩:=by simp only [Addr.add];split <;> simp_all
  rw [e,cell_of_row _ _ _ _ _ _ hg];simpa [natV] using hj
 intro z hz u hu;rw [List.mem_singleton.1 hz] at hu;simp [natV] at hu;subst hu;rfl
theorem zFK {w:World} {v:Value} {cu:List CurB} (h:RdG zc9 w v (cu.map cuV)) {i:Nat} (hi:i < cu.length):∃ b o,(∀ u,(Instr.indexAt 112 v (.int .i64 (i:Int))).run prog u=.ok (.pointer (some ⟨b,o,none⟩)) u) /\
  w.cell? ⟨b,o,none⟩=some (.int .i64 (cu.getD i default).1)/\w.cell? ⟨b,o + 1,none⟩=some (.int .i64 (cu.getD i default).2.1)/\w.cell? ⟨b,o + 2,none⟩=some (.int .u32 (cu.getD i default).2.2):=by
 have hi':i < (cu.map cuV).length:=by simpa using hi
 have hx:=RdG.idx h znP i hi';obtain ⟨b,o,ha,hc⟩:=RdG.at h hi';rw [ha] at hx;have eg:(cu.map cuV).getD i []=cuV (cu.getD i default):=by simp [List.getD,hi]
 rw [eg] at hc;exact ⟨b,o,hx,hc 0 _ rfl,hc 1 _ rfl,hc 2 _ rfl⟩
/- -/
theorem zhF {cs:List ColB} {a0 x y:Nat} {J:List EntB × List (Int × Nat) × Nat × Nat} (h:J=([],[],x,y)) (hy:y≠0):trT cs a0 J=([],[],[],x,y):=by
 subst h;unfold trT;exact if_pos hy
theorem zwJ {cs:List ColB} {a0 a:Nat} {es:List EntB} {ms:List (Int × Nat)} {J:List EntB × List (Int × Nat) × Nat × Nat} (h:J=(es,ms,a,0)):trT cs a0 J=(cs,es,(0,a0) :: ms,a,0):=by
 subst h;unfold trT;exact if_neg (by simp)
theorem Tbox.set {w:World} {b:Nat} {sv ev:Value} (h:Tbox w b sv ev) (u:Value):Tbox (w.setCell ⟨b,1,none⟩ u) b sv u:=by
 have:=block_setCell (k:=1) h u;unfold Tbox;simpa using this
theorem Tbox.both {w:World} {b:Nat} {sv ev:Value} (h:Tbox w b sv ev) (u1 u2:Value):Tbox ((w.setCell ⟨b,0,none⟩ u1).setCell ⟨b,1,none⟩ u2) b u1 u2:=by
 have:=block_setCell (k:=1) (block_setCell (k:=0) h u1) u2;unfold Tbox;simpa using this
theorem Tbox.free {w:World} {b:Nat} {sv ev:Value} (h:Tbox w b sv ev) (i:Nat):w.frozen? ⟨b,i,none⟩=false:=frozen_of_row _ _ _ _ _ h
theorem Tbox.lt {w:World} {b:Nat} {sv ev:Value} (h:Tbox w b sv ev):b < w.heap.size:=(Array.getElem?_eq_some_iff.1 h).1
theorem OwnG.beside {E F:Elt} {w w':World} {b1 b2:Nat} {v u:Value} {vs us:List (List Value)} (h:OwnG E w b1 v vs) (k:OwnG F w b2 u us) (hT:E.T≠F.T) (hg:w.grownBy w' u.ownBlock):OwnG E w' b1 v vs :=
 h.grown hg fun q hq e=>h.apart k hT hq e.symm
structure Loop13 (b:Bs) (cs:List ColB) (a0:Nat) (T0:List EntB × List (Int × Nat) × Nat × Nat) (es:List EntB) (ms:List (Int × Nat)) (f a k:Nat) (s:Int) (v:List PairB):Prop where
 run:trJ [] [] T0=trJ es ms (trR cs b f a k s v)
 fuel:b.length<=a + f
 len:es.length=k
 marks:ms.map (·.1)=es.map (fun x=>x.2.1)
 pso:PSO v
 inw:inW s
 most:k<=4096
theorem Loop13.next {b p:Bs} {cs:List ColB} {a0:Nat} {T0:List EntB × List (Int × Nat) × Nat × Nat} {es:List EntB} {ms:List (Int × Nat)} {f a k K m:Nat} {s:Int} {v:List PairB} (h:Loop13 b cs a0 T0 es ms f a k s v)
  (ha:a < b.length) (hk:k < 4096) (hn:nxF (b.drop a)=(K,p,m,0)) (hE:entRE cs (K:Int) p=0) (hA:apE cs s v (entX cs K p)=0) :
  ∃ f',Loop13 b cs a0 T0 (es ++ [entX cs K p]) (ms ++ [(apN cs s v (entX cs K p),a + m)]) f' (a + m) (k + 1) (apN cs s v (entX cs K p)) (apV cs s v (entX cs K p)):=by
 obtain ⟨f',h1,h2⟩:=zAF (es:=es) (ms:=ms) ha h.fuel hk hn hE hA;have hX:=(zgB (zfW hn ha).2.2.2 hE).1;obtain ⟨h3,h4,h5⟩:=zC8 hA h.pso hX;exact ⟨f',h.run.trans h2,h1,by rw [List.length_append,h.len];rfl,by rw [List.map_append,List.map_append,h.marks];simp [h5],h3,h4,by omega⟩
structure Vars13 (F:Elt) (W w:World) (N rb tb:Nat) (sv et ev xv vv:Value) (xs:List (List Value)) (v:List PairB) (ts:List EntV):Prop where
 rb:Tbox w rb (.slice none 0 0) (.slice none 0 0)
 tb:Tbox w tb sv et
 ownE:OwnG zcB w W.heap.size ev (ts.map enV)
 ownX:OwnG F w W.heap.size xv xs
 held:Held w vv v ts (zh8 N ev xv)
 top:N<=w.heap.size
 below:Below W.heap.size W w
def zsE (F:Elt) (w:World) (j:Nat):Prop:=∃ a T f,w.heap[j]?=some (.cells a T f)/\zcB.T≠T/\F.T≠T
section
variable {F:Elt} {W w w':World} {N rb tb:Nat} {sv et ev xv vv:Value} {xs:List (List Value)} {v:List PairB} {ts:List EntV}
theorem Vars13.later (h:Vars13 F W w N rb tb sv et ev xv vv xs v ts) (hb:Below w.heap.size w w'):Vars13 F W w' N rb tb sv et ev xv vv xs v ts :=
 ⟨h.rb.later hb,h.tb.later hb,h.ownE.later hb l_,h.ownX.later hb l_,h.held.later hb,Nat.le_trans h.top hb.size,h.below.trans (hb.mono h.below.size)⟩
theorem Vars13.lts (h:Vars13 F W w N rb tb sv et ev xv vv xs v ts):(∀ q,ev.ownBlock=some q->q < w.heap.size)/\∀ q,xv.ownBlock=some q->q < w.heap.size :=
 ⟨fun q hq=>(World.ownsRow.lt h.ownE.1 q hq).2,fun q hq=>(World.ownsRow.lt h.ownX.1 q hq).2⟩
theorem Vars13.seen {vn:Value} {v':List PairB} (h:Vars13 F W w N rb tb sv et ev xv vv xs v ts) (hv:OffS w vn v' (zh8 N ev xv)):Vars13 F W w N rb tb sv et ev xv vn xs v' ts :=
 ⟨h.rb,h.tb,h.ownE,h.ownX,⟨hv,h.held.2⟩,h.top,h.below⟩
theorem Vars13.only {S:Nat->Prop} (h:Vars13 F W w N rb tb sv et ev xv vv xs v ts) (hO:Only S w w') (hS:∀ j,S j->j < N/\zsE F w j) :
  OwnG zcB w' W.heap.size ev (ts.map enV)/\OwnG F w' W.heap.size xv xs/\Held w' vv v ts (zh8 N ev xv)/\N<=w'.heap.size :=
 ⟨h.ownE.stay hO (fun q hq e=>by obtain ⟨_,a,T,f,ht,n1,_⟩:=hS q e;exact h.ownE.notOf ht n1 hq),h.ownX.stay hO (fun q hq e=>by obtain ⟨_,a,T,f,ht,_,n2⟩:=hS q e;exact h.ownX.notOf ht n2 hq),
  h.held.only hO (fun j e=>.inl (hS j e).1),Nat.le_trans h.top hO.size⟩
theorem Vars13.turned {S:Nat->Prop} (h:Vars13 F W w N rb tb sv et ev xv vv xs v ts) (hO:Only S w w') (hS:∀ j,S j->j < N/\zsE F w j) (hr:¬ S rb) (ht:¬ S tb) (hW:∀ j,S j->W.heap.size<=j):Vars13 F W w' N rb tb sv et ev xv vv xs v ts:=by
 obtain ⟨k1,k2,k3,k4⟩:=h.only hO hS;exact ⟨hO.keep h.rb hr,hO.keep h.tb ht,k1,k2,k3,k4,h.below.trans (hO.toBelow hW h.below.size)⟩
theorem Vars13.pushE {ev' pv:Value} {y:EntB} (h:Vars13 F W w N rb tb sv et ev xv vv xs v ts) (hF:F.T≠zcB.T) (hnew:OffS w pv y.2.2 (zh8 N ev xv)) (h1:OwnG zcB w' W.heap.size ev' ((ts ++ [(pv,y)]).map enV)) (h2:Below W.heap.size W w') (h3:w.grownBy w' ev.ownBlock) (h4:Place w ev ev') :
  Vars13 F W w' N rb tb sv et ev' xv vv xs v (ts ++ [(pv,y)]) :=
 ⟨h.rb.grown h.ownE (by decide) h3,h.tb.grown h.ownE (by decide) h3,h1,h.ownX.beside h.ownE hF h3,
  Held.growE ⟨h.held.1,fun t ht=>by
   rcases List.mem_append.1 ht with ht | ht
   ·exact h.held.2 t ht
   ·rw [List.mem_singleton.1 ht];exact hnew⟩ h3 h4,Nat.le_trans h.top h3.size,h2⟩
theorem Vars13.pushX {xv':Value} {xs':List (List Value)} (h:Vars13 F W w N rb tb sv et ev xv vv xs v ts) (hF:F.T≠zcB.T) (hG:F.T≠27) (h1:OwnG F w' W.heap.size xv' xs') (h2:Below W.heap.size W w') (h3:w.grownBy w' xv.ownBlock) (h4:Place w xv xv') :
  Vars13 F W w' N rb tb sv et ev xv' vv xs' v ts :=
 ⟨h.rb.grown h.ownX hG h3,h.tb.grown h.ownX hG h3,h.ownE.beside h.ownX (fun e=>hF e.symm) h3,h1,Held.growX h.held h3 h4,Nat.le_trans h.top h3.size,h2⟩
theorem zlF {b:Nat} {u1 u2:Value} (h:Tbox w b u1 u2) (hG:F.T≠27):zsE F w b:=⟨_,_,_,h,by decide,hG⟩
theorem Vars13.store (h:Vars13 F W w N rb tb sv et ev xv vv xs v ts) (hG:F.T≠27) (hN:tb < N) (hW:W.heap.size<=tb) (hr:rb≠tb) (u:Value) :
  Vars13 F W (w.setCell ⟨tb,1,none⟩ u) N rb tb sv u ev xv vv xs v ts:=by
 have hO:Only (fun j=>j=tb) w (w.setCell ⟨tb,1,none⟩ u):=(Only.refl (fun j=>j=tb) _).setCell (p:=⟨tb,1,none⟩) rfl _;obtain ⟨k1,k2,k3,k4⟩:=h.only hO (fun j e=>by subst e;exact ⟨hN,zlF h.tb hG⟩);exact ⟨hO.keep h.rb hr,h.tb.set u,k1,k2,k3,k4,h.below.trans (hO.toBelow (fun j e=>by omega) h.below.size)⟩
theorem Vars13.answer (h:Vars13 F W w N rb tb sv et ev xv vv xs v ts) (hG:F.T≠27) (hN:rb < N) (u1 u2:Value) :
  OwnG zcB ((w.setCell ⟨rb,0,none⟩ u1).setCell ⟨rb,1,none⟩ u2) W.heap.size ev (ts.map enV)/\OwnG F ((w.setCell ⟨rb,0,none⟩ u1).setCell ⟨rb,1,none⟩ u2) W.heap.size xv xs /\
   Held ((w.setCell ⟨rb,0,none⟩ u1).setCell ⟨rb,1,none⟩ u2) vv v ts (zh8 N ev xv)/\Tbox ((w.setCell ⟨rb,0,none⟩ u1).setCell ⟨rb,1,none⟩ u2) rb u1 u2:=by
 have hO:Only (fun j=>j=rb) w ((w.setCell ⟨rb,0,none⟩ u1).setCell ⟨rb,1,none⟩ u2):=((Only.refl (fun j=>j=rb) _).setCell (p:=⟨rb,0,none⟩) rfl _).setCell (p:=⟨rb,1,none⟩) rfl _;obtain ⟨k1,k2,k3,k4⟩:=h.only hO (fun j e=>by subst e;exact ⟨hN,zlF h.rb hG⟩);exact ⟨k1,k2,k3,h.rb.both u1 u2⟩
end
