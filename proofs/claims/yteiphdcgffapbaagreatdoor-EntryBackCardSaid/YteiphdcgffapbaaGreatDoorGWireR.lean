/-
  The walks of the document's own answers for layer 1.
-/
import Derived.Test.YteiphdcgffapbaaGreatDoorGWire
set_option linter.unusedVariables false
set_option linter.unusedSimpArgs false
set_option maxRecDepth 1000000
namespace Go.Proofs.YteiphdcgffapbaaGreatDoor
open Go.RowKit

end Go.Proofs.YteiphdcgffapbaaGreatDoor


/-
  The walks of the document's own answers for layer 1 that get: GetUint, GetBytes.
-/
namespace Go.Proofs.YteiphdcgffapbaaGreatDoor
open Go.RowKit

end Go.Proofs.YteiphdcgffapbaaGreatDoor

