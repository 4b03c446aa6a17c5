/-
  The walks of layer 11's functions: Write, Size, parts, Next.
-/
import Derived.Test.YteiphdcgffapbaaGreatDoorGEntP
import Derived.Test.YteiphdcgffapbaaGreatDoorGCrcW
import Derived.RegionTactic
import Derived.BigRegion
import Derived.Test.YteiphdcgffapbaaGreatDoorGWireR
set_option linter.unusedVariables false
set_option linter.unusedSimpArgs false
set_option maxRecDepth 1000000
namespace Go.Proofs.YteiphdcgffapbaaGreatDoor
open Go.RowKit

end Go.Proofs.YteiphdcgffapbaaGreatDoor


/-
  The walks of the document's own answers for layer 11: Write, Size, Next.
-/
namespace Go.Proofs.YteiphdcgffapbaaGreatDoor
open Go.RowKit

end Go.Proofs.YteiphdcgffapbaaGreatDoor

