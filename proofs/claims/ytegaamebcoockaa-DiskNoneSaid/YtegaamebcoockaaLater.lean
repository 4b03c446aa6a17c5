/-
  What stays true of byte slices in every world that has grown.
-/
import Derived.Test.YtegaamebcoockaaBytes
import Derived.Test.YtegaamebcoockaaOrd
set_option linter.unusedVariables false
set_option linter.unusedSimpArgs false
set_option maxRecDepth 1000000
namespace Go.Proofs.Ytegaamebcoockaa
open Go.RowKit

theorem Rd.grew {w w' : World} {v : Value} {l : List UInt8} (h : Rd w v l) (hg : Ord.Grew w w') : Rd w' v l := h.later hg (Nat.le_refl _)

theorem Rd.str_later {w : World} {v : Value} {l : List UInt8} (h : Rd w v l) : ∀ x : Ord.GW w, (convert 22 9 v).run Try.prog x.val = .ok (.string ⟨l.toArray⟩) x.val := fun x => (h.grew x.grew).str

theorem str_later {w : World} {base : Nat} {v : Value} {l : List UInt8} (h : Own w base v l) (hs : l.length ≤ 140737488351232) : ∀ x : Ord.GW w, (convert 22 9 v).run Try.prog x.val = .ok (.string ⟨l.toArray⟩) x.val := (h.rd hs).str_later

theorem len_own {w : World} {base : Nat} {v : Value} {l : List UInt8} (h : Own w base v l) (hs : l.length ≤ 140737488351232) : ∀ u, (Builtin.len_ #[22] 3 #[v]).run Try.prog u = .ok (.int .i64 (l.length : Int)) u := (h.rd hs).len

end Go.Proofs.Ytegaamebcoockaa
