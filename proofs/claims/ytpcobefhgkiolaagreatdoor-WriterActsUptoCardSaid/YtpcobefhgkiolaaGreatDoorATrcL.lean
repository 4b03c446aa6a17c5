/- -/
import Derived.Test.YtpcobefhgkiolaaGreatDoorABaseB
import Derived.Test.YtpcobefhgkiolaaGreatDoorATrcP
set_option linter.unusedVariables false
set_option linter.unusedSimpArgs false
set_option maxRecDepth 1000000
namespace Go.Proofs.YtpcobefhgkiolaaGreatDoor
open Go.RowKit
theorem OwnG.own_type {E:Elt} {w:World} {base q:Nat} {v:Value} {vs:List (List Value)} (h:OwnG E w base v vs) (hq:v.ownBlock=some q):∃ cur,w.heap[q]?=some (.cells cur E.T (0,0)):=by
 rcases h.1.2 with ⟨rfl,hn⟩ | ⟨g,cap,cur,rfl,hbg,hgg,_⟩
 ·cases hq
 ·cases hq;exact ⟨_,hgg⟩
end Go.Proofs.YtpcobefhgkiolaaGreatDoor


/- -/
namespace Go.Proofs.YtpcobefhgkiolaaGreatDoor
open Go.RowKit
section
variable {w w':World} {v:Value} {l:List Nat} {base:Nat}
end
end Go.Proofs.YtpcobefhgkiolaaGreatDoor


/- -/
namespace Go.Proofs.YtpcobefhgkiolaaGreatDoor
open Go.RowKit Go.Shelf
def OffS (w:World) (v:Value) (ps:List PairB) (Q:Nat→Prop):Prop :=
 ∃ ts:List TriB,ps=ts.map (·.2)∧RdG pairE w v (ts.map triV)∧(∀ t ∈ ts,RdE w t.1 t.2.1)∧(∀ i,i < ts.length→¬ Q (adr v (i * 2)).block)∧∀ t ∈ ts,∀ i,i < t.2.1.length→¬ Q (adr t.1 (i * 2)).block
section
variable {w w':World} {v:Value} {ps:List PairB} {Q Q':Nat→Prop}
theorem OffS.rd (h:OffS w v ps Q):RdP w v ps:=by
 obtain ⟨ts,e,h1,h2,_⟩:=h
 exact ⟨ts,e,h1,h2⟩
theorem OffS.keep (h:OffS w v ps Q) (hk:∀ j,j < w.heap.size→¬ Q j→w'.heap[j]?=w.heap[j]?):OffS w' v ps Q:=by
 obtain ⟨ts,e,h1,h2,h3,h4⟩:=h
 refine ⟨ts,e,RdG.same h1 fun i hi=>?_,fun t ht=>RdG.same (h2 t ht) fun i hi=>?_,h3,h4⟩
 ·have hi':i < ts.length:=by simpa using hi
  exact hk _ (RdG.block h1 pairOk hi) (h3 i hi')
 ·have hi':i < t.2.1.length:=by simpa using hi
  exact hk _ (RdG.block (h2 t ht) cellOk hi) (h4 t ht i hi')
theorem OffS.more (h:OffS w v ps Q) (hk:∀ j,j < w.heap.size→¬ Q j→¬ Q' j):OffS w v ps Q':=by
 obtain ⟨ts,e,h1,h2,h3,h4⟩:=h
 refine ⟨ts,e,h1,h2,fun i hi=>hk _ (RdG.block h1 pairOk (i:=i) (by simpa using hi)) (h3 i hi),fun t ht i hi=>hk _ (RdG.block (h2 t ht) cellOk (i:=i) (by simpa using hi)) (h4 t ht i hi)⟩
theorem NewP.offS {base:Nat} (h:NewP w base v ps) (hk:∀ j,base≤j→¬ Q j):OffS w v ps Q:=by
 obtain ⟨ts,e,h1,h2,h3⟩:=h
 exact ⟨ts,e,h1,fun t ht=>(h3 t ht).1,fun i hi=>hk _ (h2 i hi),fun t ht i hi=>hk _ ((h3 t ht).2 i hi)⟩
theorem OffS.later (h:OffS w v ps Q) (hb:Below w.heap.size w w'):OffS w' v ps Q:=h.keep fun j hj _=>hb.block j hj
theorem OffS.nil (w:World) (Q:Nat→Prop):OffS w (.slice none 0 0) [] Q:=⟨[],rfl,RdG.nil pairE w,by simp,by simp,by simp⟩
end
theorem OwnG.lit13 {E:Elt} {w:World} {base:Nat} {v:Value} {vs:List (List Value)} (h:OwnG E w base v vs):∃ ao n cap,v=.slice ao n cap:=by
 rcases h.1.2 with ⟨rfl,_⟩ | ⟨g,cap,cur,rfl,_⟩
 ·exact ⟨_,_,_,rfl⟩
 ·exact ⟨_,_,_,rfl⟩
theorem OwnG.stay {E:Elt} {w w':World} {base:Nat} {v:Value} {vs:List (List Value)} {S:Nat→Prop} (h:OwnG E w base v vs) (hO:Only S w w') (hq:∀ q,v.ownBlock=some q→¬ S q):OwnG E w' base v vs:=by
 refine ⟨⟨h.1.1,?_⟩,h.2⟩
 rcases h.1.2 with h2 | ⟨g,cap,cur,rfl,hbg,hg,r⟩
 ·exact .inl h2
 ·exact .inr ⟨g,cap,cur,rfl,hbg,hO.keep hg (hq g rfl),r⟩
theorem OwnG.notOf {E:Elt} {w:World} {base q:Nat} {v:Value} {vs:List (List Value)} {a:Array Value} {T:TypeId} {f:Nat × Nat} (h:OwnG E w base v vs) (hq:w.heap[q]?=some (.cells a T f)) (hT:E.T≠T):v.ownBlock≠some q:=fun e=>by
 obtain ⟨c,hc⟩:=h.own_type e
 rw [hq] at hc
 injection hc with hc
 injection hc with _ h3 _
 exact hT h3.symm
def Held (w:World) (vv:Value) (view:List PairB) (ts:List EntV) (Q:Nat→Prop):Prop:=OffS w vv view Q∧∀ t ∈ ts,OffS w t.1 t.2.2.2 Q
section
variable {w w':World} {vv ev xv:Value} {view:List PairB} {ts:List EntV} {Q Q':Nat→Prop} {N:Nat}
theorem Held.keep (h:Held w vv view ts Q) (hk:∀ j,j < w.heap.size→¬ Q j→w'.heap[j]?=w.heap[j]?):Held w' vv view ts Q:=⟨h.1.keep hk,fun t ht=>(h.2 t ht).keep hk⟩
theorem Held.more (h:Held w vv view ts Q) (hk:∀ j,j < w.heap.size→¬ Q j→¬ Q' j):Held w vv view ts Q':=⟨h.1.more hk,fun t ht=>(h.2 t ht).more hk⟩
end
end Go.Proofs.YtpcobefhgkiolaaGreatDoor


/- -/
namespace Go.Proofs.YtpcobefhgkiolaaGreatDoor
open Go.RowKit Go.Shelf
section
variable {F:Elt} {W w w':World} {N rb tb:Nat} {sv et ev xv vv:Value} {xs:List (List Value)} {v:List PairB} {ts:List EntV}
end
end Go.Proofs.YtpcobefhgkiolaaGreatDoor

