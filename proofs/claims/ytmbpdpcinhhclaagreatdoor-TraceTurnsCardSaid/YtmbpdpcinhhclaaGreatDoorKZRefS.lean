/- -/
import Derived.Test.YtmbpdpcinhhclaaGreatDoorKCrc
import Derived.Test.YtmbpdpcinhhclaaGreatDoorKW
import Derived.Test.YtmbpdpcinhhclaaGreatDoorKBaseA
set_option linter.unusedVariables false
set_option linter.unusedSimpArgs false
set_option maxRecDepth 1000000
namespace Go.Proofs.YtmbpdpcinhhclaaGreatDoor
open Go.RowKit Go.Shelf

end Go.Proofs.YtmbpdpcinhhclaaGreatDoor


/- -/
namespace Go.Proofs.YtmbpdpcinhhclaaGreatDoor
open Go.RowKit Go.Shelf


section
variable {w w' : World} {base : Nat}

end



end Go.Proofs.YtmbpdpcinhhclaaGreatDoor


/- -/
namespace Go.Proofs.YtmbpdpcinhhclaaGreatDoor
open Go.RowKit Go.Shelf

end Go.Proofs.YtmbpdpcinhhclaaGreatDoor

