/-
  A place where a subscriber may stand, as it stands in memory.
-/
import Derived.Test.YtokpphhmmcoeaaaGreatDoorGBaseA
set_option linter.unusedVariables false
set_option linter.unusedSimpArgs false
set_option maxRecDepth 1000000
namespace Go.Proofs.YtokpphhmmcoeaaaGreatDoor
open Go.RowKit

/-- A place, as it stands in memory. -/
abbrev CurB := Int × Int × Int

def cuV (t : CurB) : List Value := [.int .i64 t.1, .int .i64 t.2.1, .int .u32 t.2.2]

end Go.Proofs.YtokpphhmmcoeaaaGreatDoor
