/-
  Slices of int of the call's own that hold places (naturals); two slices of the call's own side by side.
-/
import Derived.Test.YtgikcbljkkmkgaaFrames
set_option linter.unusedVariables false
set_option linter.unusedSimpArgs false
set_option maxRecDepth 1000000
namespace Go.Proofs.Ytgikcbljkkmkgaa
open Go.RowKit

def natE : Elt := ⟨46, 3, 1, 8, .int .i64 0⟩
theorem natOk : natE.Ok := ⟨Try.underlying46, by kernel_rfl, by kernel_rfl, rfl, by decide⟩
def natV (x : Nat) : List Value := [.int .i64 (x : Int)]
def OwnN (w : World) (base : Nat) (v : Value) (l : List Nat) : Prop := OwnG natE w base v (l.map natV)

/-- Two slices of the call's own, of unlike types: the one stays while the other one turns. -/
theorem Own.aside {E : Elt} {w w' : World} {base b' : Nat} {v sv : Value} {l : List UInt8} {vs : List (List Value)} (h : Own w base v l) (hG : OwnG E w b' sv vs) (hT : E.T ≠ 5) (hg : w.grownBy w' sv.ownBlock) : Own w' base v l :=
  h.grown hg fun k hk e => by
    obtain ⟨c1, e1⟩ := h.own_type hk
    obtain ⟨c2, e2⟩ := hG.own_type e.symm
    rw [e1] at e2
    injection e2 with e2
    injection e2 with _ e3 _
    exact hT e3.symm
theorem OwnG.asideB {E : Elt} {w w' : World} {base b' : Nat} {v sv : Value} {l : List UInt8} {vs : List (List Value)} (h : OwnG E w base v vs) (hB : Own w b' sv l) (hT : E.T ≠ 5) (hg : w.grownBy w' sv.ownBlock) : OwnG E w' base v vs :=
  h.grown hg fun k hk e => by
    obtain ⟨c1, e1⟩ := h.own_type hk
    obtain ⟨c2, e2⟩ := hB.own_type e.symm
    rw [e1] at e2
    injection e2 with e2
    injection e2 with _ e3 _
    exact hT e3

section
variable {w w' : World} {v : Value} {l : List Nat} {base : Nat}

theorem OwnN.later {B : Nat} (h : OwnN w base v l) (hb : Below B w w') (hB : w.heap.size ≤ B) : OwnN w' base v l := OwnG.later h hb hB
theorem OwnN.alloc (h : OwnN w base v l) (o : Obj) : OwnN (w.alloc o) base v l := OwnG.alloc h o
theorem OwnN.nil (w : World) (base : Nat) : OwnN w base (.slice none 0 0) [] := OwnG.nil natE w base
theorem ownN_empty (w : World) (base : Nat) (hb : base ≤ w.heap.size) : OwnN (w.alloc (.cells #[] 3)) base (.slice (some ⟨w.heap.size, 0, none⟩) 0 0) [] := ownG_empty natE w base hb
theorem OwnN.len (h : OwnN w base v l) (hs : l.length ≤ 140737488351232) : ∀ u, (Builtin.len_ #[46] 3 #[v]).run Try.prog u = .ok (.int .i64 (l.length : Int)) u := by
  have := RdG.len (OwnG.rd h (by simpa using hs)) natOk
  rw [List.length_map] at this
  exact this
theorem OwnN.get (h : OwnN w base v l) (hs : l.length ≤ 140737488351232) {i : Nat} (hi : i < l.length) : ∃ a,
    (∀ u, (Instr.indexAt 46 v (.int .i64 (i : Int))).run Try.prog u = .ok (.pointer (some a)) u) ∧ w.cell? a = some (.int .i64 ((l.getD i 0 : Nat) : Int)) := by
  have h := OwnG.rd h (by simpa using hs)
  have hi' : i < (l.map natV).length := by simpa using hi
  have hx := RdG.idx h natOk i hi'
  obtain ⟨b, o, ha, hc⟩ := RdG.at h hi'
  rw [ha] at hx
  have eg : (l.map natV).getD i [] = natV (l.getD i 0) := by simp [List.getD, hi]
  rw [eg] at hc
  exact ⟨_, hx, hc 0 _ rfl⟩

/-- 'append(s, x)'. -/
theorem wplN_append {ops : Array Oper} {Q : Exit → Act → World → Prop} {rest : List Oper} {a : Act} {dst : Option Tmp} {ty : TypeId} {pos : String} {aft : Array Edge} {s x : Operand}
    (base : Nat) (sv : Value) (hs : a.eval s = sv) (ho : OwnN w base sv l) (g : Nat) (n : Nat) (hx : a.eval x = .slice (some ⟨g, 0, none⟩) 1 1) (hg : w.heap[g]? = some (.cells #[.int .i64 (n : Int)] 3 (0, 0)))
    (hn : l.length ≤ 1000000000) (hbase : base ≤ w.heap.size)
    (B : Nat) (w0 : World) (hb : Below B w0 w) (hBb : B ≤ base)
    (h : ∀ v' w', OwnN w' base v' (l ++ [n]) → Below B w0 w' → w.grownBy w' sv.ownBlock → wpList Try.prog ops Q rest (a.put dst v') w') :
    wpList Try.prog ops Q (⟨dst, .call ⟨.builtin .append, #[s, x], #[46, 46]⟩, ty, pos, aft, none⟩ :: rest) a w := by
  refine wplG_append natOk base sv hs ho ⟨g, 0, none⟩ (natV n) hx rfl ?_ ?_ (by simp [natE]; omega) (by simp; omega) hbase B w0 hb hBb ?_
  · intro z hz
    simp [natV] at hz
    subst hz; rfl
  · intro j z hj
    have e : Addr.add ⟨g, 0, none⟩ j = ⟨g, j, none⟩ := by simp only [Addr.add]; split <;> simp_all
    rw [e, cell_of_row _ _ _ _ _ _ hg]
    simpa [natV] using hj
  · intro v' w' h1 h2 h4
    exact h v' w' (by unfold OwnN; rw [List.map_append]; exact h1) h2 h4
end

end Go.Proofs.Ytgikcbljkkmkgaa
