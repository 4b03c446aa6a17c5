/- -/
import Derived.Test.YtpcobefhgkiolaaGreatDoorABatR
import Derived.Test.YtpcobefhgkiolaaGreatDoorABatRef
import Derived.Test.YtpcobefhgkiolaaGreatDoorASchT
import Derived.Test.YtpcobefhgkiolaaGreatDoorARdr
import Derived.Test.YtpcobefhgkiolaaGreatDoorASchema
import Derived.Test.YtpcobefhgkiolaaGreatDoorATrcL
import Derived.Test.YtpcobefhgkiolaaGreatDoorATrcR
import Derived.Test.YtpcobefhgkiolaaGreatDoorATrcS
set_option linter.unusedVariables false
set_option linter.unusedSimpArgs false
set_option maxRecDepth 1000000
namespace Go.Proofs.YtpcobefhgkiolaaGreatDoor
open Go.RowKit Go.Shelf
end Go.Proofs.YtpcobefhgkiolaaGreatDoor


/- -/
namespace Go.Proofs.YtpcobefhgkiolaaGreatDoor
open Go.RowKit Go.Shelf
end Go.Proofs.YtpcobefhgkiolaaGreatDoor


/- -/
namespace Go.Proofs.YtpcobefhgkiolaaGreatDoor
open Go.RowKit Go.Shelf
end Go.Proofs.YtpcobefhgkiolaaGreatDoor

