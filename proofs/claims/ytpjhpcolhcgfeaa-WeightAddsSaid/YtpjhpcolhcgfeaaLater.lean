/-
  What stays true of byte slices in every world that has grown.
-/
import Derived.Test.YtpjhpcolhcgfeaaBytes
import Derived.Test.YtpjhpcolhcgfeaaOrd
set_option linter.unusedVariables false
set_option linter.unusedSimpArgs false
set_option maxRecDepth 1000000
namespace Go.Proofs.Ytpjhpcolhcgfeaa
open Go.RowKit

theorem Rd.grew {w w' : World} {v : Value} {l : List UInt8} (h : Rd w v l) (hg : Ord.Grew w w') : Rd w' v l := h.later hg (Nat.le_refl _)

end Go.Proofs.Ytpjhpcolhcgfeaa
