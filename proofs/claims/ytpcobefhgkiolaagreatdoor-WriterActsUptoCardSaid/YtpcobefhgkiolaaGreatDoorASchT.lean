/- -/
import Derived.Test.YtpcobefhgkiolaaGreatDoorAEntP
import Derived.Test.YtpcobefhgkiolaaGreatDoorASchema
import Derived.Test.YtpcobefhgkiolaaGreatDoorARdr
set_option linter.unusedVariables false
set_option linter.unusedSimpArgs false
set_option maxRecDepth 1000000
namespace Go.Proofs.YtpcobefhgkiolaaGreatDoor
open Go.RowKit Go.Shelf
end Go.Proofs.YtpcobefhgkiolaaGreatDoor


/- -/
namespace Go.Proofs.YtpcobefhgkiolaaGreatDoor
open Go.RowKit Go.Shelf
end Go.Proofs.YtpcobefhgkiolaaGreatDoor

