/-
  batch.Write: the landed code; its columns, cell by cell.
-/
import Derived.Test.YteiphdcgffapbaaGreatDoorGBatP
import Derived.Test.YteiphdcgffapbaaGreatDoorGBaseB
import Derived.Test.YteiphdcgffapbaaGreatDoorGColCw
import Derived.Test.YteiphdcgffapbaaGreatDoorGZProgA
import Derived.Deep.RegionHeld3
set_option linter.unusedVariables false
set_option linter.unusedSimpArgs false
set_option maxRecDepth 1000000
namespace Go.Proofs.YteiphdcgffapbaaGreatDoor
open Go.RowKit Go.Shelf

section
variable {w w' : World} {v : Value} {cs : List CellB} {base : Nat}
end

end Go.Proofs.YteiphdcgffapbaaGreatDoor
