/-
  Package column: Read.
-/
import Derived.Test.YteiphdcgffapbaaGreatDoorGColRd
import Derived.Test.YteiphdcgffapbaaGreatDoorGColRef
set_option linter.unusedVariables false
set_option linter.unusedSimpArgs false
set_option maxRecDepth 1000000
namespace Go.Proofs.YteiphdcgffapbaaGreatDoor
open Go.RowKit Go.Shelf

end Go.Proofs.YteiphdcgffapbaaGreatDoor


/-
  The document's own answers for layer 9 (deckleref09): Take, Read.
-/
namespace Go.Proofs.YteiphdcgffapbaaGreatDoor
open Go.RowKit Go.Shelf

end Go.Proofs.YteiphdcgffapbaaGreatDoor

