/- -/
import Derived.Test.YtmbpdpcinhhclaaGreatDoorKZSameW
import Derived.Test.YtmbpdpcinhhclaaGreatDoorKRdr
import Derived.Test.YtmbpdpcinhhclaaGreatDoorKColCw
import Derived.Test.YtmbpdpcinhhclaaGreatDoorKColRef
import Derived.RegionTactic
import Derived.BigRegion
import Derived.Deep.AppendLies
import Derived.Test.YtmbpdpcinhhclaaGreatDoorKBatP
import Derived.Test.YtmbpdpcinhhclaaGreatDoorKColRR
import Derived.Test.YtmbpdpcinhhclaaGreatDoorKCrc
import Derived.Test.YtmbpdpcinhhclaaGreatDoorKSchema
import Derived.Test.YtmbpdpcinhhclaaGreatDoorKRow
set_option linter.unusedVariables false
set_option linter.unusedSimpArgs false
set_option maxRecDepth 1000000
namespace Go.Proofs.YtmbpdpcinhhclaaGreatDoor
open Go.RowKit

end Go.Proofs.YtmbpdpcinhhclaaGreatDoor


/- -/
namespace Go.Proofs.YtmbpdpcinhhclaaGreatDoor
open Go.RowKit

end Go.Proofs.YtmbpdpcinhhclaaGreatDoor


/- -/
namespace Go.Proofs.YtmbpdpcinhhclaaGreatDoor
open Go.RowKit Go.Shelf

end Go.Proofs.YtmbpdpcinhhclaaGreatDoor

