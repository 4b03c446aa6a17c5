/- -/
import Derived.Test.YtpcobefhgkiolaaGreatDoorAWire
import Derived.Test.YtpcobefhgkiolaaGreatDoorABaseA
import Derived.Defers
import Derived.Recover
import Derived.RegionTactic
import Derived.BigRegion
import Derived.Lib.Builder
import Derived.Test.YtpcobefhgkiolaaGreatDoorASchW
import Derived.Deep.QuietTactic
import Derived.BigQuiet
set_option linter.unusedVariables false
set_option linter.unusedSimpArgs false
set_option maxRecDepth 1000000
namespace Go.Proofs.YtpcobefhgkiolaaGreatDoor
open Go.RowKit
def rdU (l:List UInt8) (k most:Nat):Nat × Nat × Nat :=
 if (getU (l.drop k)).2.2≠0 then (0,k,(getU (l.drop k)).2.2)
 else if most < (getU (l.drop k)).1 then (0,k,3)
 else ((getU (l.drop k)).1,k + (getU (l.drop k)).2.1,0)
def rdB (l:List UInt8) (k:Nat) (most:Int):List UInt8 × Nat × Nat :=
 if (getB (l.drop k) most).2.2≠0 then ([],k,(getB (l.drop k) most).2.2)
 else ((getB (l.drop k) most).1,k + (getB (l.drop k) most).2.1,0)
end Go.Proofs.YtpcobefhgkiolaaGreatDoor


/- -/
namespace Go.Proofs.YtpcobefhgkiolaaGreatDoor
open Go.RowKit
end Go.Proofs.YtpcobefhgkiolaaGreatDoor


/- -/
namespace Go.Proofs.YtpcobefhgkiolaaGreatDoor
open Go.RowKit
section
variable {w w':World} {m:Nat} {v:Value} {l:List UInt8} {k x:Nat}
end
end Go.Proofs.YtpcobefhgkiolaaGreatDoor


/- -/
namespace Go.Proofs.YtpcobefhgkiolaaGreatDoor
open Go.RowKit
end Go.Proofs.YtpcobefhgkiolaaGreatDoor

