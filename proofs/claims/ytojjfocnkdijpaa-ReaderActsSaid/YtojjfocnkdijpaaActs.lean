/-
  The calls that ReaderActs is handed: a slice of structs of five cells, as the walks read it.
-/
import Derived.Test.YtojjfocnkdijpaaDeep
import Derived.Deep.MidRow
set_option linter.unusedVariables false
set_option linter.unusedSimpArgs false
namespace Go.Proofs.Ytojjfocnkdijpaa
open Go.ChangeShapes Go.WideShapes Go.ChangeAt Go.RowKit Go.Deep

/-- A call: its kind, how many, at most, whether it is so, and its error. -/
structure Call5 where
  kind : Int
  many : Int
  most : Int
  ok : Bool
  er : Int

instance : Inhabited Call5 := ⟨⟨0, 0, 0, false, 0⟩⟩

def Call5.cells (a : Call5) : List Value := [.int .i64 a.kind, .int .i64 a.many, .int .u64 a.most, .bool a.ok, .int .u8 a.er]
/-- Its numbers are in their kinds' bounds. -/
def Call5.wf (a : Call5) : Prop := (-9223372036854775808 ≤ a.kind ∧ a.kind ≤ 9223372036854775807) ∧ (-9223372036854775808 ≤ a.many ∧ a.many ≤ 9223372036854775807) ∧ (0 ≤ a.most ∧ a.most ≤ 18446744073709551615) ∧ (0 ≤ a.er ∧ a.er ≤ 255)

structure RdA (w : World) (v : Value) (cl : List Call5) : Prop where
  shape : ∃ ao cap, v = .slice ao cl.length cap ∧ cl.length ≤ cap ∧ (ao = none → cap = 0) ∧ (0 < cl.length → ∃ b o, ao = some ⟨b, o, none⟩)
  cells : ∀ i, i < cl.length → ∀ j u, (cl.getD i default).cells[j]? = some u → w.cell? (adr v (i * 5 + j)) = some u
  wf : ∀ i, i < cl.length → (cl.getD i default).wf
  small : cl.length ≤ 140737488351232

theorem adr_add (b o : Nat) (n c k : Nat) : adr (.slice (some ⟨b, o, none⟩) n c) k = ⟨b, o + k, none⟩ := by simp only [adr, Addr.add]; split <;> simp_all

theorem RdA.block {w : World} {v : Value} {cl : List Call5} (h : RdA w v cl) {i : Nat} (hi : i < cl.length) : (adr v (i * 5)).block < w.heap.size :=
  World.block_lt_of_cell? w _ (h.cells i hi 0 _ rfl)
theorem RdA.blk {w : World} {v : Value} {cl : List Call5} (h : RdA w v cl) {i j : Nat} (hi : i < cl.length) : (adr v (i * 5 + j)).block = (adr v (i * 5)).block := by
  obtain ⟨ao, cap, rfl, _, _, hp⟩ := h.shape
  obtain ⟨b, o, rfl⟩ := hp (by omega)
  rw [adr_add, adr_add]
theorem RdA.same {w w' : World} {v : Value} {cl : List Call5} (h : RdA w v cl) (hs : ∀ i, i < cl.length → w'.heap[(adr v (i * 5)).block]? = w.heap[(adr v (i * 5)).block]?) : RdA w' v cl :=
  ⟨h.shape, fun i hi j u hu => (World.cell?_of_block (by rw [h.blk hi]; exact hs i hi)).trans (h.cells i hi j u hu), h.wf, h.small⟩
theorem RdA.later {w w' : World} {v : Value} {cl : List Call5} (h : RdA w v cl) {B : Nat} (hb : Below B w w') (hB : w.heap.size ≤ B) : RdA w' v cl :=
  h.same fun i hi => hb.block _ (Nat.lt_of_lt_of_le (h.block hi) hB)
theorem RdA.nil (w : World) : RdA w (.slice none 0 0) [] :=
  ⟨⟨none, 0, rfl, Nat.le_refl _, fun _ => rfl, fun h => absurd h (by simp)⟩, fun i hi => absurd hi (by simp), fun i hi => absurd hi (by simp), by simp⟩

theorem RdA.len {w : World} {v : Value} {cl : List Call5} (h : RdA w v cl) : ∀ u, (Builtin.len_ #[23] 3 #[v]).run Try.prog u = .ok (.int .i64 (cl.length : Int)) u := by
  intro u
  obtain ⟨⟨ao, cap, rfl, _⟩, _, _, _⟩ := h
  exact run_len_slice u _ _ ao _ _ Try.underlying23

theorem RdA.idx {w : World} {v : Value} {cl : List Call5} (h : RdA w v cl) (i : Nat) (hi : i < cl.length) :
    ∀ u, (Instr.indexAt 23 v (.int .i64 (i : Int))).run Try.prog u = .ok (.pointer (some (adr v (i * 5)))) u := by
  intro u
  obtain ⟨⟨ao, cap, rfl, _, _, hp⟩, _, _, _⟩ := h
  obtain ⟨b, o, rfl⟩ := hp (by omega)
  have := run_indexAt_slice (P := Try.prog) u 23 ⟨b, o, none⟩ cl.length cap .i64 i Try.underlying23
  rw [this, if_pos ⟨by omega, by omega⟩]
  have h1 : (Try.prog.info? (Try.prog.elem 23)).map (·.size) = some 5 := by kernel_rfl
  obtain ⟨inf, hi1, hi2⟩ := Option.map_eq_some_iff.1 h1
  simp [sizeOf, typeInfo, hi1, hi2, Result.andThen, adr]

theorem RdA.at {w : World} {v : Value} {cl : List Call5} (h : RdA w v cl) {i : Nat} (hi : i < cl.length) : ∃ b o, adr v (i * 5) = ⟨b, o, none⟩ ∧ ∀ j u, (cl.getD i default).cells[j]? = some u → w.cell? ⟨b, o + j, none⟩ = some u := by
  obtain ⟨ao, cap, rfl, _, _, hp⟩ := id h.shape
  obtain ⟨b, o, rfl⟩ := hp (by omega)
  refine ⟨b, o + i * 5, adr_add _ _ _ _ _, fun j u hu => ?_⟩
  have := h.cells i hi j u hu
  rw [adr_add, ← Nat.add_assoc] at this
  exact this

theorem RdA.load {w : World} {v : Value} {cl : List Call5} (h : RdA w v cl) (i : Nat) (hi : i < cl.length) :
    (Instr.loadAt 34 (.pointer (some (adr v (i * 5))))).run Try.prog w = .ok (.agg (cl.getD i default).cells.toArray) w := by
  obtain ⟨ao, cap, hv, _, _, hp⟩ := h.shape
  obtain ⟨b, o, rfl⟩ := hp (by omega)
  have hc := h.cells i hi
  subst hv
  rw [adr_add]
  refine run_loadAt_mid w b (o + i * 5) _ _ _ (fun j u hu => ?_) Try.underlying34 rfl (by kernel_rfl)
  have := hc j u hu
  rw [adr_add] at this
  rw [Nat.add_assoc]
  exact this

section
variable {H : Type} {enc : TypeId × Value → H} {W : World}

theorem call_cells {fuel : Nat} {cs : List Value} {d : DataW H} {ps : List MemPlace} (h : DataW.trod enc Try.prog W 0 (fun _ => true) true fuel 34 cs = some (d, ps)) (hl : cs.length = 5) : ∃ a : Call5, cs = a.cells ∧ a.wf := by
  obtain ⟨xs, n, rfl, hx, _, hn, hf⟩ := DataW.trod_struct Try.underlying34 h
  obtain ⟨c0, c1, c2, c3, c4, rfl⟩ : ∃ c0 c1 c2 c3 c4, cs = [c0, c1, c2, c3, c4] := by
    match cs, hl with
    | [c0, c1, c2, c3, c4], _ => exact ⟨c0, c1, c2, c3, c4, rfl⟩
  obtain ⟨x0, x1, x2, x3, x4, rfl⟩ : ∃ x0 x1 x2 x3 x4, xs = [x0, x1, x2, x3, x4] := by
    have hn5 : xs.length = 5 := hn
    match xs, hn5 with
    | [x0, x1, x2, x3, x4], _ => exact ⟨x0, x1, x2, x3, x4, rfl⟩
  have k1 : Try.prog.cellsOf 3 = 1 := by kernel_rfl
  have k2 : Try.prog.cellsOf 32 = 1 := by kernel_rfl
  have k3 : Try.prog.cellsOf 4 = 1 := by kernel_rfl
  have h0 := hf 0 _ rfl
  have h1 := hf 1 _ rfl
  have h2 := hf 2 _ rfl
  have h3 := hf 3 _ rfl
  have h4 := hf 4 _ rfl
  simp [k1, k2, k3, cells_u8] at h0 h1 h2 h3 h4
  obtain ⟨a0, e0, _, w0⟩ := DataW.trod_int Try.underlying3 h0
  obtain ⟨a1, e1, _, w1⟩ := DataW.trod_int Try.underlying3 h1
  obtain ⟨a2, e2, _, w2⟩ := DataW.trod_int Try.underlying32 h2
  obtain ⟨a3, e3, _⟩ := DataW.trod_bool Try.underlying4 h3
  obtain ⟨a4, e4, _, w4⟩ := DataW.trod_int Try.underlying5 h4
  simp at e0 e1 e2 e3 e4
  subst e0 e1 e2 e3 e4
  exact ⟨⟨a0, a1, a2, a3, a4⟩, rfl, bd_i64 w0, bd_i64 w1, bd_u64 w2, bd_u8 w4⟩

theorem acts_open {base : Nat} {v : Value} {d : DataW H} {ps : List MemPlace} {ts : List TypeId} {ds : List (DataW H)} {j : Nat} (hval : Value.okWide Try.prog W .any base 23 v)
    (h : DataW.Trod enc Try.prog W 0 (fun _ => true) true 23 v d ps) (hz : (DataW.weightsEach Try.prog ts ds).all (· ≤ reachBytes) = true) (ht : ts[j]? = some 23) (hd : ds[j]? = some d) : ∃ cl, RdA W v cl := by
  obtain ⟨a0, len, cap, rfl⟩ := okWide_slice Try.underlying23 hval
  obtain ⟨fuel, hf⟩ := h
  have hc5 : Try.prog.cellsOf 34 = 5 := by kernel_rfl
  have hb1 : 1 ≤ Try.prog.bytesOf 34 := Nat.le_of_ble_eq_true (by kernel_rfl)
  rcases open_slice Try.underlying23 hf with ⟨hcs, _⟩ | ⟨x, l, c, m, n, D, Pl, hcs, _, hl, hm, hmm, hx, hcell⟩
  · simp [Value.cells] at hcs
    obtain ⟨rfl, rfl, rfl⟩ := hcs
    exact ⟨[], RdA.nil W⟩
  · simp [Value.cells] at hcs
    obtain ⟨rfl, rfl, rfl⟩ := hcs
    simp only [Prod.mk.injEq] at hx
    obtain ⟨rfl, _⟩ := hx
    simp only [if_true] at hmm
    subst hmm
    have hs := sized_slice hz ht hd Try.underlying23
    simp only [List.length_map, List.length_range, reachBytes] at hs
    have hs2 : len ≤ 140737488351232 := by
      have : (len + (m - len)) * 1 ≤ (len + (m - len)) * Try.prog.bytesOf 34 := Nat.mul_le_mul_left _ hb1
      omega
    rw [hc5] at hcell
    obtain ⟨L, hL⟩ := choose_lt (α := Call5) (p := fun i a => a.wf ∧ ∀ j u, a.cells[j]? = some u → W.cell? ((x.add (i * 5)).add j) = some u) (n := len) (fun i hi => by
      obtain ⟨cs', h1, h2⟩ := hcell i (by omega)
      obtain ⟨_, h3, h4⟩ := World.cells?_some h1
      obtain ⟨a, rfl, hw⟩ := call_cells h2 h3
      refine ⟨a, hw, fun j u hu => ?_⟩
      have hj : j < 5 := by have := (List.getElem?_eq_some_iff.1 hu).1; simpa [Call5.cells] using this
      rw [h4 j hj, hu])
    have hlen : ((List.range len).map L).length = len := by simp
    have e : ∀ i, i < len → ((List.range len).map L).getD i default = L i := fun i hi => by simp [List.getD, hi]
    have hsp : 0 < len → ∃ b o, x = ⟨b, o, none⟩ := by
      intro hp
      have h0 := (hL 0 hp).2 0 _ rfl
      obtain ⟨b, o, sp⟩ := x
      cases sp with
      | none => exact ⟨b, o, rfl⟩
      | some s =>
        exfalso
        simp only [Addr.add, if_true, World.cell?] at h0
        split at h0 <;> simp at h0
    refine ⟨(List.range len).map L, ⟨some x, _, by rw [hlen], by omega, (by intro h; cases h), fun hp => ?_⟩, ?_, ?_, by omega⟩
    · rw [hlen] at hp
      obtain ⟨b, o, rfl⟩ := hsp hp
      exact ⟨b, o, rfl⟩
    · intro i hi
      rw [hlen] at hi
      rw [e i hi]
      intro j u hu
      have := (hL i hi).2 j u hu
      obtain ⟨b, o, rfl⟩ := hsp (by omega)
      rw [adr_add]
      rw [Addr.add_mid, Addr.add_mid, Nat.add_assoc] at this
      exact this
    · intro i hi
      rw [hlen] at hi
      rw [e i hi]
      exact (hL i hi).1
end

end Go.Proofs.Ytojjfocnkdijpaa
