/- -/
import Derived.Test.YtpcobefhgkiolaaGreatDoorBZSameW
import Derived.Test.YtpcobefhgkiolaaGreatDoorBRdr
import Derived.Test.YtpcobefhgkiolaaGreatDoorBColCw
import Derived.Test.YtpcobefhgkiolaaGreatDoorBColRef
import Derived.RegionTactic
import Derived.BigRegion
import Derived.Deep.AppendLies
import Derived.Test.YtpcobefhgkiolaaGreatDoorBBatP
import Derived.Test.YtpcobefhgkiolaaGreatDoorBColRR
import Derived.Test.YtpcobefhgkiolaaGreatDoorBCrc
import Derived.Test.YtpcobefhgkiolaaGreatDoorBSchema
import Derived.Test.YtpcobefhgkiolaaGreatDoorBRow
set_option linter.unusedVariables false
set_option linter.unusedSimpArgs false
set_option maxRecDepth 1000000
namespace Go.Proofs.YtpcobefhgkiolaaGreatDoor
open Go.RowKit
end Go.Proofs.YtpcobefhgkiolaaGreatDoor


/- -/
namespace Go.Proofs.YtpcobefhgkiolaaGreatDoor
open Go.RowKit
end Go.Proofs.YtpcobefhgkiolaaGreatDoor


/- -/
namespace Go.Proofs.YtpcobefhgkiolaaGreatDoor
open Go.RowKit Go.Shelf
end Go.Proofs.YtpcobefhgkiolaaGreatDoor

