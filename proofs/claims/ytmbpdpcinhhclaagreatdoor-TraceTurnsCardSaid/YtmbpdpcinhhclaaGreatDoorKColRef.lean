/- -/
import Derived.Test.YtmbpdpcinhhclaaGreatDoorKColSh
import Derived.Test.YtmbpdpcinhhclaaGreatDoorKRdr
import Derived.Deep.RegionWith
import Derived.Test.YtmbpdpcinhhclaaGreatDoorKColTk
set_option linter.unusedVariables false
set_option linter.unusedSimpArgs false
set_option maxRecDepth 1000000
namespace Go.Proofs.YtmbpdpcinhhclaaGreatDoor
open Go.RowKit

end Go.Proofs.YtmbpdpcinhhclaaGreatDoor


/- -/
namespace Go.Proofs.YtmbpdpcinhhclaaGreatDoor
open Go.RowKit

end Go.Proofs.YtmbpdpcinhhclaaGreatDoor


/- -/
namespace Go.Proofs.YtmbpdpcinhhclaaGreatDoor
open Go.RowKit

end Go.Proofs.YtmbpdpcinhhclaaGreatDoor

