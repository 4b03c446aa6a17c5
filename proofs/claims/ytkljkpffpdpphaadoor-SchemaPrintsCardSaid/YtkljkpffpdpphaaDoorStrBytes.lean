/-
  '[]byte(s)'.
-/
import Derived.Test.YtkljkpffpdpphaaDoorCellRef
import Derived.Lib.ConvBytes
set_option linter.unusedVariables false
set_option linter.unusedSimpArgs false
set_option maxRecDepth 1000000
namespace Go.Proofs.YtkljkpffpdpphaaDoor
open Go.RowKit

theorem bytes_of_str {s : ByteArray} {l : List UInt8} (h : RdS s l) (u : World) : ∃ v u', (convert 9 25 (.string s)).run Tryd.prog u = .ok v u' ∧ Rd u' v l ∧ Below u.heap.size u u' := by
  have hz : s.size = l.length := by rw [h.eq]; simp [ByteArray.size]
  have hs := h.small
  refine ⟨_, _, Lib.run_convert_string_bytes u 9 25 5 s Tryd.underlying9 Tryd.underlying25 Tryd.underlying5, ⟨⟨_, _, by rw [hz], ?_, (by intro h; cases h), fun _ => ⟨_, _, rfl⟩⟩, fun i hi => ?_, hs⟩, ?_⟩
  · rw [← hz]; exact grownCap_ge _ _ _ _
  · have hc := Lib.bytesWorld_cell u 5 s i (by omega)
    have e : adr (.slice (some ⟨u.heap.size, 0, none⟩) s.size (grownCap u s.size 0 5)) i = ⟨u.heap.size, i, none⟩ := by simp [adr, Addr.add]; omega
    rw [e, hc]
    unfold at8
    rw [show s.data.toList = l from by rw [h.eq]]
  · exact ⟨rfl, rfl, rfl, by rw [Lib.bytesWorld_size]; omega, fun j hj => Lib.bytesWorld_at_old u _ s j hj⟩

end Go.Proofs.YtkljkpffpdpphaaDoor
