/- -/
import Derived.Test.YtpcobefhgkiolaaGreatDoorBColRd
import Derived.Test.YtpcobefhgkiolaaGreatDoorBEntP
import Derived.Test.YtpcobefhgkiolaaGreatDoorBBatRef
import Derived.Test.YtpcobefhgkiolaaGreatDoorBFrame
import Derived.Test.YtpcobefhgkiolaaGreatDoorBSchW
import Derived.Test.YtpcobefhgkiolaaGreatDoorBCrc
import Derived.Test.YtpcobefhgkiolaaGreatDoorBBaseA
import Derived.Test.YtpcobefhgkiolaaGreatDoorBZN
import Derived.Test.YtpcobefhgkiolaaGreatDoorBColRR
set_option linter.unusedVariables false
set_option linter.unusedSimpArgs false
set_option maxRecDepth 1000000
namespace Go.Proofs.YtpcobefhgkiolaaGreatDoor
open Go.RowKit Go.Shelf
end Go.Proofs.YtpcobefhgkiolaaGreatDoor


/- -/
namespace Go.Proofs.YtpcobefhgkiolaaGreatDoor
open Go.RowKit Go.Shelf
end Go.Proofs.YtpcobefhgkiolaaGreatDoor

