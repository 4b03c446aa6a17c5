/- -/
import Derived.Test.YtpcobefhgkiolaaGreatDoorBBatR
import Derived.Test.YtpcobefhgkiolaaGreatDoorBBatRef
import Derived.Test.YtpcobefhgkiolaaGreatDoorBSchT
import Derived.Test.YtpcobefhgkiolaaGreatDoorBRdr
import Derived.Test.YtpcobefhgkiolaaGreatDoorBSchema
import Derived.Test.YtpcobefhgkiolaaGreatDoorBTrcL
import Derived.Test.YtpcobefhgkiolaaGreatDoorBTrcR
import Derived.Test.YtpcobefhgkiolaaGreatDoorBTrcS
import Derived.Test.YtpcobefhgkiolaaGreatDoorBWrtP
import Derived.Test.YtpcobefhgkiolaaGreatDoorBEntR
import Derived.Test.YtpcobefhgkiolaaGreatDoorBZN
import Derived.BigRegion
import Derived.Deep.RegionLaw
set_option linter.unusedVariables false
set_option linter.unusedSimpArgs false
set_option maxRecDepth 1000000
namespace Go.Proofs.YtpcobefhgkiolaaGreatDoor
open Go.RowKit Go.Shelf
end Go.Proofs.YtpcobefhgkiolaaGreatDoor


/- -/
namespace Go.Proofs.YtpcobefhgkiolaaGreatDoor
open Go.RowKit Go.Shelf
end Go.Proofs.YtpcobefhgkiolaaGreatDoor


/- -/
namespace Go.Proofs.YtpcobefhgkiolaaGreatDoor
open Go.RowKit Go.Shelf
end Go.Proofs.YtpcobefhgkiolaaGreatDoor


/- -/
namespace Go.Proofs.YtpcobefhgkiolaaGreatDoor
open Go.RowKit Go.Shelf
end Go.Proofs.YtpcobefhgkiolaaGreatDoor

