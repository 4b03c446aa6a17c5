/- -/
import Derived.Test.YtpcobefhgkiolaaGreatDoorCColRd
import Derived.Test.YtpcobefhgkiolaaGreatDoorCZProgA
import Derived.Test.YtpcobefhgkiolaaGreatDoorCZSameW
import Derived.Deep.QuietTactic
import Derived.BigQuiet
import Derived.Test.YtpcobefhgkiolaaGreatDoorCColRef
set_option linter.unusedVariables false
set_option linter.unusedSimpArgs false
set_option maxRecDepth 1000000
namespace Go.Proofs.YtpcobefhgkiolaaGreatDoor
open Go.RowKit Go.Shelf
end Go.Proofs.YtpcobefhgkiolaaGreatDoor


/- -/
namespace Go.Proofs.YtpcobefhgkiolaaGreatDoor
open Go.RowKit Go.Shelf
end Go.Proofs.YtpcobefhgkiolaaGreatDoor


/- -/
namespace Go.Proofs.YtpcobefhgkiolaaGreatDoor
open Go.RowKit Go.Shelf
end Go.Proofs.YtpcobefhgkiolaaGreatDoor

