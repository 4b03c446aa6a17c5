/- -/
import Derived.Test.YtpcobefhgkiolaaGreatDoorABatW
import Derived.Test.YtpcobefhgkiolaaGreatDoorAColCw
import Derived.Test.YtpcobefhgkiolaaGreatDoorARdr
import Derived.RegionTactic
import Derived.BigRegion
import Derived.Deep.AppendLies
import Derived.Test.YtpcobefhgkiolaaGreatDoorAZSameW
import Derived.Test.YtpcobefhgkiolaaGreatDoorAColRd
import Derived.Test.YtpcobefhgkiolaaGreatDoorAAppFull
import Derived.Test.YtpcobefhgkiolaaGreatDoorAEntP
set_option linter.unusedVariables false
set_option linter.unusedSimpArgs false
set_option maxRecDepth 1000000
namespace Go.Proofs.YtpcobefhgkiolaaGreatDoor
open Go.RowKit Go.Shelf
end Go.Proofs.YtpcobefhgkiolaaGreatDoor


/- -/
namespace Go.Proofs.YtpcobefhgkiolaaGreatDoor
open Go.RowKit Go.Shelf
end Go.Proofs.YtpcobefhgkiolaaGreatDoor


/- -/
namespace Go.Proofs.YtpcobefhgkiolaaGreatDoor
open Go.RowKit Go.Shelf
end Go.Proofs.YtpcobefhgkiolaaGreatDoor


/- -/
namespace Go.Proofs.YtpcobefhgkiolaaGreatDoor
open Go.RowKit Go.Shelf
end Go.Proofs.YtpcobefhgkiolaaGreatDoor

