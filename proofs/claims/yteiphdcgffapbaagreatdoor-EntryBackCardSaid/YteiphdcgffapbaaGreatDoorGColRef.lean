/-
  The document's own answers for layer 9 (deckleref09): Take of what isn't Bool.
-/
import Derived.Test.YteiphdcgffapbaaGreatDoorColRefOne
import Derived.Test.YteiphdcgffapbaaGreatDoorGColTk
set_option linter.unusedVariables false
set_option linter.unusedSimpArgs false
set_option maxRecDepth 1000000
namespace Go.Proofs.YteiphdcgffapbaaGreatDoor
open Go.RowKit

end Go.Proofs.YteiphdcgffapbaaGreatDoor


/-
  The document's own answers for layer 9 (deckleref09): Take of Bools; of what may not be taken.
-/
namespace Go.Proofs.YteiphdcgffapbaaGreatDoor
open Go.RowKit

end Go.Proofs.YteiphdcgffapbaaGreatDoor

