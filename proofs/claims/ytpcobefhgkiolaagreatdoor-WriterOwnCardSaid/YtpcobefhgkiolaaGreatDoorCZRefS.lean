/- -/
import Derived.Test.YtpcobefhgkiolaaGreatDoorCCrc
import Derived.Test.YtpcobefhgkiolaaGreatDoorCW
import Derived.Test.YtpcobefhgkiolaaGreatDoorCBaseA
set_option linter.unusedVariables false
set_option linter.unusedSimpArgs false
set_option maxRecDepth 1000000
namespace Go.Proofs.YtpcobefhgkiolaaGreatDoor
open Go.RowKit Go.Shelf
end Go.Proofs.YtpcobefhgkiolaaGreatDoor


/- -/
namespace Go.Proofs.YtpcobefhgkiolaaGreatDoor
open Go.RowKit Go.Shelf
section
variable {w w':World} {base:Nat}
end
end Go.Proofs.YtpcobefhgkiolaaGreatDoor


/- -/
namespace Go.Proofs.YtpcobefhgkiolaaGreatDoor
open Go.RowKit Go.Shelf
end Go.Proofs.YtpcobefhgkiolaaGreatDoor

