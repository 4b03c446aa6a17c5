/- -/
import Derived.Test.YtpcobefhgkiolaaGreatDoorATrcP
import Derived.Test.YtpcobefhgkiolaaGreatDoorACrcW
import Derived.Test.YtpcobefhgkiolaaGreatDoorASchT
import Derived.Test.YtpcobefhgkiolaaGreatDoorABatR
import Derived.Test.YtpcobefhgkiolaaGreatDoorAAppFull
import Derived.Test.YtpcobefhgkiolaaGreatDoorAFrame
import Derived.Test.YtpcobefhgkiolaaGreatDoorATrcL
import Derived.Test.YtpcobefhgkiolaaGreatDoorATrcW
import Derived.Test.YtpcobefhgkiolaaGreatDoorATrcS
set_option linter.unusedVariables false
set_option linter.unusedSimpArgs false
set_option maxRecDepth 1000000
namespace Go.Proofs.YtpcobefhgkiolaaGreatDoor
open Go.RowKit Go.Shelf
end Go.Proofs.YtpcobefhgkiolaaGreatDoor


/- -/
namespace Go.Proofs.YtpcobefhgkiolaaGreatDoor
open Go.RowKit Go.Shelf
end Go.Proofs.YtpcobefhgkiolaaGreatDoor


/- -/
namespace Go.Proofs.YtpcobefhgkiolaaGreatDoor
open Go.RowKit Go.Shelf
section
variable {w w':World} {v:Value} {es:List EntB}
end
end Go.Proofs.YtpcobefhgkiolaaGreatDoor

