/- -/
import Derived.Test.YtpcobefhgkiolaaGreatDoorAZSameW
import Derived.Test.YtpcobefhgkiolaaGreatDoorARdr
import Derived.Test.YtpcobefhgkiolaaGreatDoorAColCw
import Derived.Test.YtpcobefhgkiolaaGreatDoorAColRef
import Derived.RegionTactic
import Derived.BigRegion
import Derived.Deep.AppendLies
import Derived.Test.YtpcobefhgkiolaaGreatDoorABatP
import Derived.Test.YtpcobefhgkiolaaGreatDoorAColRR
import Derived.Test.YtpcobefhgkiolaaGreatDoorACrc
import Derived.Test.YtpcobefhgkiolaaGreatDoorASchema
import Derived.Test.YtpcobefhgkiolaaGreatDoorARow
set_option linter.unusedVariables false
set_option linter.unusedSimpArgs false
set_option maxRecDepth 1000000
namespace Go.Proofs.YtpcobefhgkiolaaGreatDoor
open Go.RowKit
end Go.Proofs.YtpcobefhgkiolaaGreatDoor


/- -/
namespace Go.Proofs.YtpcobefhgkiolaaGreatDoor
open Go.RowKit
end Go.Proofs.YtpcobefhgkiolaaGreatDoor


/- -/
namespace Go.Proofs.YtpcobefhgkiolaaGreatDoor
open Go.RowKit Go.Shelf
theorem ref_Write10F (sv av:Value) (cs:List ColB) (ps:List PairB) (w:World) (hR:RdC w sv cs) (hP:RdP w av ps) (hC:CS cs) (hPS:PSO ps) :
  Calls Tryz.prog 110 #[sv,av] w fun e w'=>∃ b,e=.returned (.tuple #[b,.int .i64 (chkZ cs ps:Nat)])∧Own w' w.heap.size b (if chkZ cs ps=0 then btWr (kindsL cs) (psL ps) else [])∧Below w.heap.size w w' :=
 ref_Write10 sv av cs ps w hR hP hC hPS (chkZ cs ps) (fun wz hz=>ref_Check08 sv av cs ps wz (hR.later hz l_) (hP.later hz l_) hC hPS) (fun h=>(set_ok hPS h).1)
end Go.Proofs.YtpcobefhgkiolaaGreatDoor

