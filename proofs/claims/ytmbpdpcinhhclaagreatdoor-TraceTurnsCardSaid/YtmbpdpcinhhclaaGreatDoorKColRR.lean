/- -/
import Derived.Test.YtmbpdpcinhhclaaGreatDoorKColRd
import Derived.Test.YtmbpdpcinhhclaaGreatDoorKZProgA
import Derived.Test.YtmbpdpcinhhclaaGreatDoorKZSameW
import Derived.Deep.QuietTactic
import Derived.BigQuiet
import Derived.Test.YtmbpdpcinhhclaaGreatDoorKColRef
set_option linter.unusedVariables false
set_option linter.unusedSimpArgs false
set_option maxRecDepth 1000000
namespace Go.Proofs.YtmbpdpcinhhclaaGreatDoor
open Go.RowKit Go.Shelf

end Go.Proofs.YtmbpdpcinhhclaaGreatDoor


/- -/
namespace Go.Proofs.YtmbpdpcinhhclaaGreatDoor
open Go.RowKit Go.Shelf

end Go.Proofs.YtmbpdpcinhhclaaGreatDoor


/- -/
namespace Go.Proofs.YtmbpdpcinhhclaaGreatDoor
open Go.RowKit Go.Shelf

end Go.Proofs.YtmbpdpcinhhclaaGreatDoor

