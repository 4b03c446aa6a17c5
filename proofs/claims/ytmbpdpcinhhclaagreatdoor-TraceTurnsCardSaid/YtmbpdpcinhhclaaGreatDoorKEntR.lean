/- -/
import Derived.Test.YtmbpdpcinhhclaaGreatDoorKColRd
import Derived.Test.YtmbpdpcinhhclaaGreatDoorKEntP
import Derived.Test.YtmbpdpcinhhclaaGreatDoorKBatRef
import Derived.Test.YtmbpdpcinhhclaaGreatDoorKFrame
import Derived.Test.YtmbpdpcinhhclaaGreatDoorKSchW
import Derived.Test.YtmbpdpcinhhclaaGreatDoorKCrc
import Derived.Test.YtmbpdpcinhhclaaGreatDoorKBaseA
import Derived.Test.YtmbpdpcinhhclaaGreatDoorKZN
import Derived.Test.YtmbpdpcinhhclaaGreatDoorKColRR
import Derived.Test.YtmbpdpcinhhclaaGreatDoorKZRefS
set_option linter.unusedVariables false
set_option linter.unusedSimpArgs false
set_option maxRecDepth 1000000
namespace Go.Proofs.YtmbpdpcinhhclaaGreatDoor
open Go.RowKit Go.Shelf

end Go.Proofs.YtmbpdpcinhhclaaGreatDoor


/- -/
namespace Go.Proofs.YtmbpdpcinhhclaaGreatDoor
open Go.RowKit Go.Shelf

end Go.Proofs.YtmbpdpcinhhclaaGreatDoor

