/- -/
import Derived.Test.YtmbpdpcinhhclaaGreatDoorEColSh
import Derived.Test.YtmbpdpcinhhclaaGreatDoorERdr
import Derived.Deep.RegionWith
import Derived.Test.YtmbpdpcinhhclaaGreatDoorEColTk
set_option linter.unusedVariables false
set_option linter.unusedSimpArgs false
set_option maxRecDepth 1000000
namespace Go.Proofs.YtmbpdpcinhhclaaGreatDoor
open Go.RowKit
end Go.Proofs.YtmbpdpcinhhclaaGreatDoor


/- -/
namespace Go.Proofs.YtmbpdpcinhhclaaGreatDoor
open Go.RowKit
end Go.Proofs.YtmbpdpcinhhclaaGreatDoor


/- -/
namespace Go.Proofs.YtmbpdpcinhhclaaGreatDoor
open Go.RowKit
end Go.Proofs.YtmbpdpcinhhclaaGreatDoor

