/- -/
import Derived.Test.YtlapgdocpndfiaaGreatDoorWZRefS
set_option linter.unusedVariables false
set_option linter.unusedSimpArgs false
set_option maxRecDepth 1000000
namespace Go.Proofs.YtlapgdocpndfiaaGreatDoor
open Go.RowKit
section
variable {w w':World} {v:Value} {ps:List PairB} {base b:Nat}
end
/- -/
open Go.Shelf
/- -/
