/- -/
import Derived.Test.YtpcobefhgkiolaaGreatDoorCColSh
import Derived.Test.YtpcobefhgkiolaaGreatDoorCRdr
import Derived.Deep.RegionWith
import Derived.Test.YtpcobefhgkiolaaGreatDoorCColTk
set_option linter.unusedVariables false
set_option linter.unusedSimpArgs false
set_option maxRecDepth 1000000
namespace Go.Proofs.YtpcobefhgkiolaaGreatDoor
open Go.RowKit
end Go.Proofs.YtpcobefhgkiolaaGreatDoor


/- -/
namespace Go.Proofs.YtpcobefhgkiolaaGreatDoor
open Go.RowKit
end Go.Proofs.YtpcobefhgkiolaaGreatDoor


/- -/
namespace Go.Proofs.YtpcobefhgkiolaaGreatDoor
open Go.RowKit
end Go.Proofs.YtpcobefhgkiolaaGreatDoor

