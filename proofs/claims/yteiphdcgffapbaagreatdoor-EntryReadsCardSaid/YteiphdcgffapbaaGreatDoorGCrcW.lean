/-
  The walks of the document's own answers for layer 2: Sum, Put, Seal, Open.
-/
import Derived.Test.YteiphdcgffapbaaGreatDoorGCrc
import Derived.Test.YteiphdcgffapbaaGreatDoorGBaseA
import Derived.Laws.BitsAll
import Derived.Lib.SlBytesConst
set_option linter.unusedVariables false
set_option linter.unusedSimpArgs false
set_option maxRecDepth 1000000
namespace Go.Proofs.YteiphdcgffapbaaGreatDoor
open Go.RowKit

/-! ## Put, Seal, Open -/

end Go.Proofs.YteiphdcgffapbaaGreatDoor


/-
  The walks of layer 2's functions: More, Sum, Put, Seal, Open.
-/
namespace Go.Proofs.YteiphdcgffapbaaGreatDoor
open Go.RowKit

end Go.Proofs.YteiphdcgffapbaaGreatDoor

