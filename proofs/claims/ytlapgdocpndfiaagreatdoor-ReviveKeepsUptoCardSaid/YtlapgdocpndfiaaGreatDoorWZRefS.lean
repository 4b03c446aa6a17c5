/- -/
import Derived.Test.YtlapgdocpndfiaaGreatDoorWCrc
set_option linter.unusedVariables false
set_option linter.unusedSimpArgs false
set_option maxRecDepth 1000000
namespace Go.Proofs.YtlapgdocpndfiaaGreatDoor
open Go.RowKit Go.Shelf
/- -/
section
variable {w w':World} {base:Nat}
end
/- -/
