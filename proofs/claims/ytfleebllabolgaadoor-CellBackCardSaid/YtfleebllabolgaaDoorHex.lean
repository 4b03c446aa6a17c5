/-
  Bytes' digits as the document's own answer for layer 4 tells them; numbers of either sign.
-/
import Derived.Test.YtfleebllabolgaaDoorDecimal
import Derived.Deep.QuietTactic
import Derived.BigQuiet
import Derived.RegionTactic
import Derived.BigRegion
set_option linter.unusedVariables false
set_option linter.unusedSimpArgs false
namespace Go.Proofs.YtfleebllabolgaaDoor
open Go.RowKit

def hexL (l : List UInt8) : List UInt8 := l.flatMap fun b => [dig (b.toNat / 16), dig (b.toNat % 16)]
def hexC (l : List UInt8) : List UInt8 := if l = [] then [45] else hexL l

theorem hexL_len (l : List UInt8) : (hexL l).length = 2 * l.length := by
  induction l with
  | nil => rfl
  | cons a r ih =>
    unfold hexL at ih ⊢
    rw [List.flatMap_cons, List.length_append, ih, List.length_cons]
    simp; omega

theorem hexL_succ {l : List UInt8} {k : Nat} (h : k < l.length) : hexL (l.take (k + 1)) = (hexL (l.take k) ++ [dig ((l.getD k 0).toNat / 16)]) ++ [dig ((l.getD k 0).toNat % 16)] := by
  unfold hexL
  rw [List.take_succ_eq_append_getElem h, List.flatMap_append]
  simp [List.getD, h]

/-- A number of either sign, as its decimals. -/
def sdec (x : Int) : List UInt8 := if x < 0 then 45 :: dec (-x).toNat else dec x.toNat

end Go.Proofs.YtfleebllabolgaaDoor
