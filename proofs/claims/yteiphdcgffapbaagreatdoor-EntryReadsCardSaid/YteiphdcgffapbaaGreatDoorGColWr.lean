/-
  Package column: the bytes of a column that begins with a number, of Bools, of texts.
-/
import Derived.Test.YteiphdcgffapbaaGreatDoorColW
import Derived.Deep.RegionWith
import Derived.RegionTactic
set_option linter.unusedVariables false
set_option linter.unusedSimpArgs false
set_option maxRecDepth 1000000
namespace Go.Proofs.YteiphdcgffapbaaGreatDoor
open Go.RowKit

/-- 'l[1:]'. -/
theorem RdE.rest {w : World} {v : Value} {c : CellB} {cs : List CellB} (h : RdE w v (c :: cs)) :
    ∃ v', (∀ u, (Instr.slice 62 v (some (.int .i64 1)) none none).run Tryz.prog u = .ok v' u) ∧ RdE w v' cs := by
  obtain ⟨v', h1, h2⟩ := RdG.from cellOk h 1 (by simp)
  exact ⟨v', h1, h2 w h⟩

end Go.Proofs.YteiphdcgffapbaaGreatDoor


/-
  Package column: the bytes of Bools.
-/
namespace Go.Proofs.YteiphdcgffapbaaGreatDoor
open Go.RowKit

end Go.Proofs.YteiphdcgffapbaaGreatDoor


/-
  Package column: the bytes of texts.
-/
namespace Go.Proofs.YteiphdcgffapbaaGreatDoor
open Go.RowKit

end Go.Proofs.YteiphdcgffapbaaGreatDoor

