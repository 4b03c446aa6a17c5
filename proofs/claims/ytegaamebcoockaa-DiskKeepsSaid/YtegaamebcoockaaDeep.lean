/-
  Slices of slices of bytes that came in: how they read.
-/
import Derived.Test.YtegaamebcoockaaNums
import Derived.Deep.Slices
set_option linter.unusedVariables false
set_option linter.unusedSimpArgs false
set_option maxRecDepth 1000000
namespace Go.Proofs.Ytegaamebcoockaa
open Go.ChangeShapes Go.WideShapes Go.ChangeAt Go.RowKit Go.Deep

/-- The slice value v holds the values us, and these read as the bytes ls. -/
structure RdL (w : World) (v : Value) (us : Nat → Value) (ls : List (List UInt8)) : Prop where
  shape : ∃ ao cap, v = .slice ao ls.length cap ∧ ls.length ≤ cap ∧ (ao = none → cap = 0) ∧ (0 < ls.length → ∃ b o, ao = some ⟨b, o, none⟩)
  cells : ∀ i, i < ls.length → w.cell? (adr v i) = some (us i)
  rds : ∀ i, i < ls.length → Rd w (us i) (ls.getD i [])
  small : ls.length ≤ 140737488351232

theorem RdL.block {w : World} {v : Value} {us : Nat → Value} {ls : List (List UInt8)} (h : RdL w v us ls) {i : Nat} (hi : i < ls.length) : (adr v i).block < w.heap.size :=
  World.block_lt_of_cell? w _ (h.cells i hi)
theorem RdL.later {w w' : World} {v : Value} {us : Nat → Value} {ls : List (List UInt8)} (h : RdL w v us ls) {B : Nat} (hb : Below B w w') (hB : w.heap.size ≤ B) : RdL w' v us ls :=
  ⟨h.shape, fun i hi => by rw [hb.cell (Nat.lt_of_lt_of_le (h.block hi) hB)]; exact h.cells i hi, fun i hi => (h.rds i hi).later hb hB, h.small⟩
theorem RdL.nil (w : World) : RdL w (.slice none 0 0) (fun _ => .slice none 0 0) [] :=
  ⟨⟨none, 0, rfl, Nat.le_refl _, fun _ => rfl, fun h => absurd h (by simp)⟩, fun i hi => absurd hi (by simp), fun i hi => absurd hi (by simp), by simp⟩

section
variable {H : Type} {enc : TypeId × Value → H} {W : World}

theorem weights_mem_all {P : Program} {e : TypeId} {d : DataW H} {n : Nat} (hn : n ∈ d.weights P e) : ∀ {l : List (DataW H)}, d ∈ l → n ∈ DataW.weightsAll P e l
  | [], h => by simp at h
  | a :: r, h => by
    rw [DataW.weightsAll, List.mem_append]
    rcases List.mem_cons.1 h with rfl | h
    · exact .inl hn
    · exact .inr (weights_mem_all hn h)

/-- Bytes in a cell that came in. -/
theorem rd_cell {fuel : Nat} {v : Value} {d : DataW H} {ps : List MemPlace} (hf : DataW.trod enc Try.prog W 0 (fun _ => true) true fuel 22 [v] = some (d, ps)) (hz : ∀ n ∈ d.weights Try.prog 22, n ≤ reachBytes) : ∃ l, Rd W v l := by
  rcases open_ints Try.underlying22 Try.underlying5 cells_u8 hf with ⟨hcs, _⟩ | ⟨x, l, c, zs, hcs, _, hl, hm, hzl, hx, hcell, hwz⟩
  · simp at hcs
    subst hcs
    exact ⟨[], Rd.nil W⟩
  · simp at hcs
    subst hcs
    simp only [Prod.mk.injEq] at hx
    obtain ⟨rfl, _⟩ := hx
    simp only [if_true] at hzl
    have hs := hz _ (by rw [DataW.weights]; simp only [Try.underlying22]; exact List.mem_cons_self ..)
    rw [bytes_u8] at hs
    simp only [lits, List.length_map, List.length_take, List.length_drop, reachBytes] at hs
    have hbnd : ∀ n ∈ zs, 0 ≤ n ∧ n ≤ 255 := fun n hn => bd_u8 (hwz n hn)
    refine ⟨(zs.take l).map fun n => UInt8.ofNat n.toNat, ⟨some x, c, ?_, ?_, (by intro h; cases h), ?_⟩, ?_, ?_⟩
    · simp; omega
    · simp; omega
    · intro hp
      simp at hp
      have h0 := hcell 0 (by omega)
      obtain ⟨b, o, sp⟩ := x
      cases sp with
      | none => exact ⟨b, o, rfl⟩
      | some s =>
        exfalso
        simp only [Addr.add, if_true, World.cell?] at h0
        split at h0 <;> simp at h0
    · intro i hi
      simp at hi
      have h0 := hcell i (by omega)
      have e : at8 ((zs.take l).map fun n => UInt8.ofNat n.toNat) i = zs.getD i 0 := by
        have hz' := hbnd (zs[i]'(by omega)) (List.getElem_mem _)
        rw [at8_eq (by simp; omega)]
        simp [List.getD, show i < zs.length by omega]
        omega
      rw [e]
      exact h0
    · simp; omega

end

end Go.Proofs.Ytegaamebcoockaa
