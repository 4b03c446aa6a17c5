/- -/
import Derived.Test.YthmphifdiogedaaGreatDoorDBaseB
set_option linter.unusedVariables false
set_option linter.unusedSimpArgs false
set_option maxRecDepth 1000000
namespace Go.Proofs.YthmphifdiogedaaGreatDoor
open Go.RowKit
theorem OwnG.own_type {E:Elt} {w:World} {base q:Nat} {v:Value} {vs:List (List Value)} (h:OwnG E w base v vs) (hq:v.ownBlock=some q):∃ cur,w.heap[q]?=some (.cells cur E.T (0,0)):=by
 rcases h.1.2 with ⟨rfl,hn⟩ | ⟨g,cap,cur,rfl,hbg,hgg,_⟩
 ·cases hq
 ·cases hq;exact ⟨_,hgg⟩
end Go.Proofs.YthmphifdiogedaaGreatDoor
