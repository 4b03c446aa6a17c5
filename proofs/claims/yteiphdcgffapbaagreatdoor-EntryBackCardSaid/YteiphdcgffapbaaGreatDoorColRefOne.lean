/-
  The document's own answers for layer 9 (deckleref09): one cell off its reader.
-/
import Derived.Test.YteiphdcgffapbaaGreatDoorGColSh
import Derived.Test.YteiphdcgffapbaaGreatDoorGRdr
import Derived.Deep.RegionWith
set_option linter.unusedVariables false
set_option linter.unusedSimpArgs false
set_option maxRecDepth 1000000
namespace Go.Proofs.YteiphdcgffapbaaGreatDoor
open Go.RowKit

end Go.Proofs.YteiphdcgffapbaaGreatDoor
