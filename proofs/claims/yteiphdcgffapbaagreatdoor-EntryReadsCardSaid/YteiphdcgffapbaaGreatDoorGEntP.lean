/-
  A frame's bytes, and what the calls of layer 11 answer, told in lists of bytes. No program.
-/
import Derived.Test.YteiphdcgffapbaaGreatDoorGWire
import Derived.Test.YteiphdcgffapbaaGreatDoorGCrc
import Derived.Test.YteiphdcgffapbaaGreatDoorGBatD
import Derived.Test.YteiphdcgffapbaaGreatDoorGEnt
set_option linter.unusedVariables false
set_option linter.unusedSimpArgs false
set_option maxRecDepth 1000000
namespace Go.Proofs.YteiphdcgffapbaaGreatDoor

/-! ## How long -/

/-! ## What is put is got -/

/-! ## What is got -/

end Go.Proofs.YteiphdcgffapbaaGreatDoor


/-
  What layer 12 tells of entries' bytes, in lists (no program in it).
-/
namespace Go.Proofs.YteiphdcgffapbaaGreatDoor
open Go.RowKit Go.Shelf

/-- What is taken off a payload: the number, the pairs; the place; the error. -/
def entT (cs : List ColB) (l : List UInt8) : (Nat × List Bp) × Nat × Nat :=
  if (rdU l 0 281474976710656).2.2 ≠ 0 then ((0, []), (rdU l 0 281474976710656).2.1, (rdU l 0 281474976710656).2.2)
  else (((rdU l 0 281474976710656).1, (batS cs l (rdU l 0 281474976710656).2.1).1), (batS cs l (rdU l 0 281474976710656).2.1).2.1, (batS cs l (rdU l 0 281474976710656).2.1).2.2)
/-- What Read answers: the error; else the kind, the number and the pairs. -/
def entRE (cs : List ColB) (kind : Int) (l : List UInt8) : Nat :=
  if errS (colsL cs) ≠ 0 then errS (colsL cs) else if kind ≠ 1 ∧ kind ≠ 2 then 10 else told l (entT cs l).2.1 (entT cs l).2.2
def entRV (cs : List ColB) (kind : Int) (l : List UInt8) : Int × Int × List Bp :=
  if entRE cs kind l = 0 then (2 - kind, ((entT cs l).1.1 : Int), (entT cs l).1.2) else (0, 0, [])

theorem entT_no {cs : List ColB} {l : List UInt8} (h : (rdU l 0 281474976710656).2.2 ≠ 0) : (entT cs l).2.1 = (rdU l 0 281474976710656).2.1 ∧ (entT cs l).2.2 = (rdU l 0 281474976710656).2.2 := by
  unfold entT; rw [if_pos h]; exact ⟨rfl, rfl⟩
theorem entT_ok {cs : List ColB} {l : List UInt8} (h : (rdU l 0 281474976710656).2.2 = 0) :
    (entT cs l).1.1 = (rdU l 0 281474976710656).1 ∧ (entT cs l).1.2 = (batS cs l (rdU l 0 281474976710656).2.1).1 ∧ (entT cs l).2 = (batS cs l (rdU l 0 281474976710656).2.1).2 := by
  unfold entT; rw [if_neg (fun hh => hh h)]; exact ⟨rfl, rfl, rfl⟩

end Go.Proofs.YteiphdcgffapbaaGreatDoor

