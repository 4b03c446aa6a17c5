/- -/
import Derived.Test.YtpcobefhgkiolaaGreatDoorCTrcP
import Derived.Test.YtpcobefhgkiolaaGreatDoorCTrcL
import Derived.Test.YtpcobefhgkiolaaGreatDoorCEntR
import Derived.Deep.QuietTactic
import Derived.BigQuiet
import Derived.Test.YtpcobefhgkiolaaGreatDoorCSchema
import Derived.Test.YtpcobefhgkiolaaGreatDoorCSchW
import Derived.Test.YtpcobefhgkiolaaGreatDoorCFrame
import Derived.Test.YtpcobefhgkiolaaGreatDoorCAppFull
import Derived.Deep.RegionHeld3
import Derived.Test.YtpcobefhgkiolaaGreatDoorCZDefs
set_option linter.unusedVariables false
set_option linter.unusedSimpArgs false
set_option maxRecDepth 1000000
namespace Go.Proofs.YtpcobefhgkiolaaGreatDoor
open Go.RowKit Go.Shelf
end Go.Proofs.YtpcobefhgkiolaaGreatDoor


/- -/
namespace Go.Proofs.YtpcobefhgkiolaaGreatDoor
open Go.RowKit Go.Shelf
end Go.Proofs.YtpcobefhgkiolaaGreatDoor


/- -/
namespace Go.Proofs.YtpcobefhgkiolaaGreatDoor
open Go.RowKit Go.Shelf
end Go.Proofs.YtpcobefhgkiolaaGreatDoor


/- -/
namespace Go.Proofs.YtpcobefhgkiolaaGreatDoor
open Go.RowKit Go.Shelf
def GrO13 (w:World) (P:Prop) (e:Ending) (w':World):Prop:=∃ x:Int,e=.returned (.int .i64 x)∧(x=0∨x=1)∧(x=0→P)∧Below w.heap.size w w'
theorem great_one13 (pv:Value) (ps:List PairB) (w:World) (h:RdP w pv ps) :
  Calls Tryz.prog 26 #[.slice (some ⟨w.heap.size,0,none⟩) 1 1] (w.alloc (.cells #[pv] 33)) (GrO13 (w.alloc (.cells #[pv] 33)) (fewG ps)):=by
 have hb:=(Below.refl w.heap.size w).alloc l_ (.cells #[pv] 33)
 refine (law08_greatG (.slice (some ⟨w.heap.size,0,none⟩) 1 1) [pv] [ps] _ (rdPs_block (z:=(0,0)) (heap_alloc_new _ _) (by simp)) (by simp) rfl (fun i hi wz hz=>?_)).mono ?_
 ·obtain rfl:i=0:=by simpa using hi
  exact (h.later hb l_).later hz l_
 ·rintro e w' ⟨x,he,hx,hf,hb'⟩
  exact ⟨x,he,hx,fun h0=>by simpa using hf h0,hb'⟩
end Go.Proofs.YtpcobefhgkiolaaGreatDoor


/- -/
namespace Go.Proofs.YtpcobefhgkiolaaGreatDoor
open Go.RowKit Go.Shelf
def DcO13 (w:World) (b:List UInt8) (e:Ending) (w':World):Prop :=
 ∃ v,e=.returned (.tuple #[v,.int .i64 ((trD b).2.2.2.1:Nat),.int .i64 ((trD b).2.2.2.2:Nat)])∧RdT13 w' v (trD b).1 (trD b).2.1∧CS (trD b).1∧Below w.heap.size w w'
end Go.Proofs.YtpcobefhgkiolaaGreatDoor

