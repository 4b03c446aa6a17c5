/-
  Slices of columns and of strings, as the walks read them.
-/
import Derived.Test.YtkljkpffpdpphaaDoorStructs
import Derived.Test.YtkljkpffpdpphaaDoorCellRef
set_option linter.unusedVariables false
set_option linter.unusedSimpArgs false
set_option maxRecDepth 1000000
namespace Go.Proofs.YtkljkpffpdpphaaDoor
open Go.RowKit

/-- A column: its name, its kind. -/
abbrev ColB := ByteArray × Int
def colV (c : ColB) : List Value := [.string c.1, .int .i64 c.2]
def strV (s : ByteArray) : List Value := [.string s]
def colE : Elt := ⟨22, 51, 2, 24, .agg #[.string ⟨#[]⟩, .int .i64 0]⟩
def strE : Elt := ⟨56, 9, 1, 16, .string ⟨#[]⟩⟩
theorem colOk : colE.Ok := ⟨Tryd.underlying22, by kernel_rfl, by kernel_rfl, rfl, by decide⟩
theorem strOk : strE.Ok := ⟨Tryd.underlying56, by kernel_rfl, by kernel_rfl, rfl, by decide⟩

/-- Columns as a program can hold them: no name too long for a string, kinds in their kind's bounds. -/
def CS (cs : List ColB) : Prop := ∀ c ∈ cs, c.1.size ≤ 140737488351232 ∧ -9223372036854775808 ≤ c.2 ∧ c.2 ≤ 9223372036854775807

def RdC (w : World) (v : Value) (cs : List ColB) : Prop := RdG colE w v (cs.map colV)
def OwnC (w : World) (base : Nat) (v : Value) (cs : List ColB) : Prop := OwnG colE w base v (cs.map colV)
def RdT (w : World) (v : Value) (ss : List ByteArray) : Prop := RdG strE w v (ss.map strV)
def OwnT (w : World) (base : Nat) (v : Value) (ss : List ByteArray) : Prop := OwnG strE w base v (ss.map strV)

theorem rdS_of {s : ByteArray} (h : s.size ≤ 140737488351232) : RdS s s.data.toList := ⟨by cases s; rfl, by simpa using h⟩

section
variable {w w' : World} {v : Value} {cs : List ColB} {ss : List ByteArray} {base : Nat}

theorem RdC.small (h : RdC w v cs) : cs.length ≤ 140737488351232 := by have := RdG.small h; simpa using this
theorem RdT.small (h : RdT w v ss) : ss.length ≤ 140737488351232 := by have := RdG.small h; simpa using this
theorem RdC.later (h : RdC w v cs) {B : Nat} (hb : Below B w w') (hB : w.heap.size ≤ B) : RdC w' v cs := RdG.later h colOk hb hB
theorem RdT.later (h : RdT w v ss) {B : Nat} (hb : Below B w w') (hB : w.heap.size ≤ B) : RdT w' v ss := RdG.later h strOk hb hB
theorem RdC.drew (h : RdC w v cs) : RdC w.drew v cs := RdG.drew h
theorem RdT.drew (h : RdT w v ss) : RdT w.drew v ss := RdG.drew h
theorem RdC.nil (w : World) : RdC w (.slice none 0 0) [] := RdG.nil colE w
theorem RdT.nil (w : World) : RdT w (.slice none 0 0) [] := RdG.nil strE w
theorem OwnC.rd (h : OwnC w base v cs) (hs : cs.length ≤ 140737488351232) : RdC w v cs := OwnG.rd h (by simpa using hs)
theorem OwnT.rd (h : OwnT w base v ss) (hs : ss.length ≤ 140737488351232) : RdT w v ss := OwnG.rd h (by simpa using hs)
theorem OwnC.later {B : Nat} (h : OwnC w base v cs) (hb : Below B w w') (hB : w.heap.size ≤ B) : OwnC w' base v cs := OwnG.later h hb hB
theorem OwnT.later {B : Nat} (h : OwnT w base v ss) (hb : Below B w w') (hB : w.heap.size ≤ B) : OwnT w' base v ss := OwnG.later h hb hB
theorem OwnC.lower {b' : Nat} (h : OwnC w base v cs) (hb : b' ≤ base) : OwnC w b' v cs := OwnG.base h hb
theorem OwnC.grown (h : OwnC w base v cs) {r : Option Nat} (hg : w.grownBy w' r) (hne : ∀ k, v.ownBlock = some k → some k ≠ r) : OwnC w' base v cs := OwnG.grown h hg hne
theorem OwnC.alloc (h : OwnC w base v cs) (o : Obj) : OwnC (w.alloc o) base v cs := OwnG.alloc h o
theorem OwnT.alloc (h : OwnT w base v ss) (o : Obj) : OwnT (w.alloc o) base v ss := OwnG.alloc h o
theorem OwnC.drew (h : OwnC w base v cs) : OwnC w.drew base v cs := OwnG.drew h
theorem OwnT.drew (h : OwnT w base v ss) : OwnT w.drew base v ss := OwnG.drew h
theorem OwnC.nil (w : World) (base : Nat) : OwnC w base (.slice none 0 0) [] := OwnG.nil colE w base
theorem OwnT.nil (w : World) (base : Nat) : OwnT w base (.slice none 0 0) [] := OwnG.nil strE w base
theorem OwnC.lt (h : OwnC w base v cs) {k : Nat} (hk : v.ownBlock = some k) : base ≤ k ∧ k < w.heap.size := OwnG.lt h hk
theorem OwnT.lt (h : OwnT w base v ss) {k : Nat} (hk : v.ownBlock = some k) : base ≤ k ∧ k < w.heap.size := OwnG.lt h hk

theorem RdC.len (h : RdC w v cs) : ∀ u, (Builtin.len_ #[22] 3 #[v]).run Tryd.prog u = .ok (.int .i64 (cs.length : Int)) u := by
  have := RdG.len h colOk
  rw [List.length_map] at this
  exact this
theorem RdT.len (h : RdT w v ss) : ∀ u, (Builtin.len_ #[56] 3 #[v]).run Tryd.prog u = .ok (.int .i64 (ss.length : Int)) u := by
  have := RdG.len h strOk
  rw [List.length_map] at this
  exact this

theorem getD_map {α : Type} (f : α → List Value) (l : List α) (i : Nat) (hi : i < l.length) (d : α) : (l.map f).getD i [] = f (l.getD i d) := by
  simp [List.getD, hi]

/-- An element: where it lies, and what it is. -/
theorem RdC.get (h : RdC w v cs) {i : Nat} (hi : i < cs.length) : ∃ b o, (∀ u, (Instr.indexAt 22 v (.int .i64 (i : Int))).run Tryd.prog u = .ok (.pointer (some ⟨b, o, none⟩)) u) ∧
    (∀ w', RdC w' v cs → w'.cell? ⟨b, o, none⟩ = some (.string (cs.getD i default).1) ∧ w'.cell? ⟨b, o + 1, none⟩ = some (.int .i64 (cs.getD i default).2)) ∧ b < w.heap.size := by
  have hi' : i < (cs.map colV).length := by simpa using hi
  have hx := RdG.idx h colOk i hi'
  obtain ⟨b, o, ha, hc⟩ := RdG.at h hi'
  rw [ha] at hx
  refine ⟨b, o, hx, fun w' h' => ?_, ?_⟩
  · obtain ⟨b', o', ha', hc'⟩ := RdG.at h' hi'
    rw [ha] at ha'
    cases ha'
    rw [getD_map colV cs i hi default] at hc'
    exact ⟨hc' 0 _ rfl, hc' 1 _ rfl⟩
  · rw [getD_map colV cs i hi default] at hc
    exact World.block_lt_of_cell? w _ (hc 0 _ rfl)
theorem RdT.get (h : RdT w v ss) {i : Nat} (hi : i < ss.length) : ∃ b o, (∀ u, (Instr.indexAt 56 v (.int .i64 (i : Int))).run Tryd.prog u = .ok (.pointer (some ⟨b, o, none⟩)) u) ∧
    (∀ w', RdT w' v ss → w'.cell? ⟨b, o, none⟩ = some (.string (ss.getD i default))) ∧ b < w.heap.size := by
  have hi' : i < (ss.map strV).length := by simpa using hi
  have hx := RdG.idx h strOk i hi'
  obtain ⟨b, o, ha, hc⟩ := RdG.at h hi'
  rw [ha] at hx
  refine ⟨b, o, hx, fun w' h' => ?_, ?_⟩
  · obtain ⟨b', o', ha', hc'⟩ := RdG.at h' hi'
    rw [ha] at ha'
    cases ha'
    rw [getD_map strV ss i hi default] at hc'
    exact hc' 0 _ rfl
  · rw [getD_map strV ss i hi default] at hc
    exact World.block_lt_of_cell? w _ (hc 0 _ rfl)

/-- 'append(s, api.Column{..})'. -/
theorem wplC_append {ops : Array Oper} {Q : Exit → Act → World → Prop} {rest : List Oper} {a : Act} {dst : Option Tmp} {ty : TypeId} {pos : String} {aft : Array Edge} {s x : Operand}
    (base : Nat) (sv : Value) (hs : a.eval s = sv) (ho : OwnC w base sv cs) (ad : Addr) (c : ColB) (hx : a.eval x = .slice (some ad) 1 1)
    (hc : ∀ j z, (colV c)[j]? = some z → w.cell? (ad.add j) = some z) (hn : (cs.length + 1) * 24 ≤ 140737488355328) (hbase : base ≤ w.heap.size)
    (B : Nat) (w0 : World) (hb : Below B w0 w) (hBb : B ≤ base)
    (h : ∀ v' w', OwnC w' base v' (cs ++ [c]) → Below B w0 w' → w.grownBy w' sv.ownBlock → wpList Tryd.prog ops Q rest (a.put dst v') w') :
    wpList Tryd.prog ops Q (⟨dst, .call ⟨.builtin .append, #[s, x], #[22, 22]⟩, ty, pos, aft, none⟩ :: rest) a w :=
  wplG_append (E := colE) (vs := cs.map colV) colOk base sv hs ho ad (colV c) hx rfl (by intro z hz; simp [colV] at hz; rcases hz with rfl | rfl <;> rfl) hc (by rw [List.length_map]; exact hn) (by rw [List.length_map]; omega) hbase B w0 hb hBb
    (fun v' w' h1 h2 h3 => h v' w' (by unfold OwnC; rw [List.map_append]; exact h1) h2 h3)
/-- 'append(s, a string)'. -/
theorem wplT_append {ops : Array Oper} {Q : Exit → Act → World → Prop} {rest : List Oper} {a : Act} {dst : Option Tmp} {ty : TypeId} {pos : String} {aft : Array Edge} {s x : Operand}
    (base : Nat) (sv : Value) (hs : a.eval s = sv) (ho : OwnT w base sv ss) (ad : Addr) (c : ByteArray) (hx : a.eval x = .slice (some ad) 1 1)
    (hc : ∀ j z, (strV c)[j]? = some z → w.cell? (ad.add j) = some z) (hn : (ss.length + 1) * 16 ≤ 140737488355328) (hbase : base ≤ w.heap.size)
    (B : Nat) (w0 : World) (hb : Below B w0 w) (hBb : B ≤ base)
    (h : ∀ v' w', OwnT w' base v' (ss ++ [c]) → Below B w0 w' → w.grownBy w' sv.ownBlock → wpList Tryd.prog ops Q rest (a.put dst v') w') :
    wpList Tryd.prog ops Q (⟨dst, .call ⟨.builtin .append, #[s, x], #[56, 56]⟩, ty, pos, aft, none⟩ :: rest) a w :=
  wplG_append (E := strE) (vs := ss.map strV) strOk base sv hs ho ad (strV c) hx rfl (by intro z hz; simp [strV] at hz; rw [hz]; rfl) hc (by rw [List.length_map]; exact hn) (by rw [List.length_map]; omega) hbase B w0 hb hBb
    (fun v' w' h1 h2 h3 => h v' w' (by unfold OwnT; rw [List.map_append]; exact h1) h2 h3)

/-- One column, one string, as the slice that append is handed. -/
theorem one_col (w : World) (c : ColB) : ∀ j z, (colV c)[j]? = some z → (w.alloc (.cells #[.string c.1, .int .i64 c.2] 51)).cell? (Addr.add ⟨w.heap.size, 0, none⟩ j) = some z := by
  intro j z hj
  have e : Addr.add ⟨w.heap.size, 0, none⟩ j = ⟨w.heap.size, j, none⟩ := by simp [Addr.add]; omega
  rw [e, cell_of_row _ _ _ _ _ _ (heap_alloc_new w _), List.getElem?_toArray]
  exact hj
theorem one_str (w : World) (c : ByteArray) : ∀ j z, (strV c)[j]? = some z → (w.alloc (.cells #[.string c] 9)).cell? (Addr.add ⟨w.heap.size, 0, none⟩ j) = some z := by
  intro j z hj
  have e : Addr.add ⟨w.heap.size, 0, none⟩ j = ⟨w.heap.size, j, none⟩ := by simp [Addr.add]; omega
  rw [e, cell_of_row _ _ _ _ _ _ (heap_alloc_new w _), List.getElem?_toArray]
  exact hj
end

end Go.Proofs.YtkljkpffpdpphaaDoor
