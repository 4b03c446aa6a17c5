/- -/
import Derived.Test.YtpcobefhgkiolaaGreatDoorCColRd
import Derived.Test.YtpcobefhgkiolaaGreatDoorCEntP
import Derived.Test.YtpcobefhgkiolaaGreatDoorCBatRef
import Derived.Test.YtpcobefhgkiolaaGreatDoorCFrame
import Derived.Test.YtpcobefhgkiolaaGreatDoorCSchW
import Derived.Test.YtpcobefhgkiolaaGreatDoorCCrc
import Derived.Test.YtpcobefhgkiolaaGreatDoorCBaseA
import Derived.Test.YtpcobefhgkiolaaGreatDoorCZN
import Derived.Test.YtpcobefhgkiolaaGreatDoorCColRR
import Derived.Test.YtpcobefhgkiolaaGreatDoorCZRefS
set_option linter.unusedVariables false
set_option linter.unusedSimpArgs false
set_option maxRecDepth 1000000
namespace Go.Proofs.YtpcobefhgkiolaaGreatDoor
open Go.RowKit Go.Shelf
end Go.Proofs.YtpcobefhgkiolaaGreatDoor


/- -/
namespace Go.Proofs.YtpcobefhgkiolaaGreatDoor
open Go.RowKit Go.Shelf
end Go.Proofs.YtpcobefhgkiolaaGreatDoor

