/- -/
import Derived.Test.YtmbpdpcinhhclaaGreatDoorKBaseB
import Derived.Test.YtmbpdpcinhhclaaGreatDoorKZRefS
set_option linter.unusedVariables false
set_option linter.unusedSimpArgs false
set_option maxRecDepth 1000000
namespace Go.Proofs.YtmbpdpcinhhclaaGreatDoor
open Go.RowKit

section
variable {w w' : World} {v : Value} {ps : List PairB} {base b : Nat}
end

end Go.Proofs.YtmbpdpcinhhclaaGreatDoor


/- -/
namespace Go.Proofs.YtmbpdpcinhhclaaGreatDoor
open Go.RowKit Go.Shelf

end Go.Proofs.YtmbpdpcinhhclaaGreatDoor


/- -/
namespace Go.Proofs.YtmbpdpcinhhclaaGreatDoor
open Go.RowKit Go.Shelf

end Go.Proofs.YtmbpdpcinhhclaaGreatDoor

