/- -/
import Derived.Test.YtpcobefhgkiolaaGreatDoorCZSameW
import Derived.Test.YtpcobefhgkiolaaGreatDoorCRdr
import Derived.Test.YtpcobefhgkiolaaGreatDoorCColCw
import Derived.Test.YtpcobefhgkiolaaGreatDoorCColRef
import Derived.RegionTactic
import Derived.BigRegion
import Derived.Deep.AppendLies
import Derived.Test.YtpcobefhgkiolaaGreatDoorCBatP
import Derived.Test.YtpcobefhgkiolaaGreatDoorCColRR
import Derived.Test.YtpcobefhgkiolaaGreatDoorCCrc
import Derived.Test.YtpcobefhgkiolaaGreatDoorCSchema
import Derived.Test.YtpcobefhgkiolaaGreatDoorCRow
set_option linter.unusedVariables false
set_option linter.unusedSimpArgs false
set_option maxRecDepth 1000000
namespace Go.Proofs.YtpcobefhgkiolaaGreatDoor
open Go.RowKit
end Go.Proofs.YtpcobefhgkiolaaGreatDoor


/- -/
namespace Go.Proofs.YtpcobefhgkiolaaGreatDoor
open Go.RowKit
end Go.Proofs.YtpcobefhgkiolaaGreatDoor


/- -/
namespace Go.Proofs.YtpcobefhgkiolaaGreatDoor
open Go.RowKit Go.Shelf
end Go.Proofs.YtpcobefhgkiolaaGreatDoor

