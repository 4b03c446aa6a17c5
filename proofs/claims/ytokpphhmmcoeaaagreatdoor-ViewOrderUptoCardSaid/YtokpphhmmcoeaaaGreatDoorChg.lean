/-
  Lists of pairs that came in.
-/
import Derived.Test.YtokpphhmmcoeaaaGreatDoorGZDefs
import Derived.Test.YtokpphhmmcoeaaaGreatDoorGBaseB
import Derived.Test.YtokpphhmmcoeaaaGreatDoorGBaseA
set_option linter.unusedVariables false
set_option linter.unusedSimpArgs false
set_option maxRecDepth 1000000
namespace Go.Proofs.YtokpphhmmcoeaaaGreatDoor
open Go.RowKit Go.Shelf

/-- Lists of pairs that came in. -/
structure Chg (w : World) (v : Value) (vals : List Value) (pss : List (List PairB)) : Prop where
  rd : RdPs w v vals
  len : pss.length = vals.length
  each : ∀ i, i < vals.length → RdP w (vals.getD i undef) (pss.getD i []) ∧ PSO (pss.getD i [])
theorem Chg.later {w w' : World} {v : Value} {vals : List Value} {pss : List (List PairB)} (h : Chg w v vals pss) (hb : Below w.heap.size w w') : Chg w' v vals pss :=
  ⟨RdG.later h.rd pairsOk hb (Nat.le_refl _), h.len, fun i hi => ⟨(h.each i hi).1.later hb (Nat.le_refl _), (h.each i hi).2⟩⟩
theorem Chg.size {w : World} {v : Value} {vals : List Value} {pss : List (List PairB)} (h : Chg w v vals pss) : ∀ u, (Builtin.len_ #[53] 3 #[v]).run Tryz.prog u = .ok (.int .i64 (pss.length : Int)) u := by
  have := RdG.len h.rd pairsOk
  rw [List.length_map, ← h.len] at this
  exact this
theorem Chg.small {w : World} {v : Value} {vals : List Value} {pss : List (List PairB)} (h : Chg w v vals pss) : pss.length ≤ 140737488351232 := by
  have := RdG.small h.rd
  rw [List.length_map, ← h.len] at this
  exact this
theorem Chg.lit {w : World} {v : Value} {vals : List Value} {pss : List (List PairB)} (h : Chg w v vals pss) : ∃ ao n cap, v = .slice ao n cap := by
  obtain ⟨ao, cap, e, _⟩ := RdG.shape h.rd
  exact ⟨_, _, _, e⟩
/-- One of them: where it lies, and what it is. -/
theorem Chg.get {w : World} {v : Value} {vals : List Value} {pss : List (List PairB)} (h : Chg w v vals pss) {i : Nat} (hi : i < pss.length) : ∃ b o lv, (∀ u, (Instr.indexAt 53 v (.int .i64 (i : Int))).run Tryz.prog u = .ok (.pointer (some ⟨b, o, none⟩)) u) ∧
    w.cell? ⟨b, o, none⟩ = some lv ∧ RdP w lv (pss.getD i []) ∧ PSO (pss.getD i []) := by
  have hi2 : i < vals.length := by rw [← h.len]; exact hi
  have hi' : i < (vals.map fun x => [x]).length := by simpa using hi2
  have hx := RdG.idx h.rd pairsOk i hi'
  obtain ⟨b, o, ha, hc⟩ := RdG.at h.rd hi'
  rw [ha] at hx
  rw [getD_map (fun x => [x]) vals i hi2 undef] at hc
  exact ⟨b, o, _, hx, hc 0 _ rfl, (h.each i hi2).1, (h.each i hi2).2⟩

theorem flatten_snoc {pss : List (List PairB)} {k : Nat} (h : k < pss.length) : (pss.take (k + 1)).flatten = (pss.take k).flatten ++ pss.getD k [] := by
  rw [take_succD h [], List.flatten_append]; simp
theorem flatten_take (pss : List (List PairB)) (k : Nat) : (pss.take k).flatten.length ≤ pss.flatten.length := by
  have e : pss.flatten = (pss.take k).flatten ++ (pss.drop k).flatten := by rw [← List.flatten_append, List.take_append_drop]
  rw [e, List.length_append]; omega
theorem flatten_one {pss : List (List PairB)} {k : Nat} (h : k < pss.length) : (pss.getD k []).length ≤ pss.flatten.length := by
  have h1 := flatten_take pss (k + 1)
  rw [flatten_snoc h, List.length_append] at h1; omega

end Go.Proofs.YtokpphhmmcoeaaaGreatDoor
