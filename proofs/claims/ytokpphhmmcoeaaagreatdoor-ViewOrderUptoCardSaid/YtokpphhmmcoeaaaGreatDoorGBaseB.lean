/-
  Slices of columns, as the walks read them.
-/
import Derived.Test.YtokpphhmmcoeaaaGreatDoorGBaseA
import Derived.Deep.RegionHeld3
import Derived.Deep.QuietTactic
import Derived.BigQuiet
import Derived.Lib.ConvBytes
import Derived.WalkSmall
import Derived.WalkSpells
import Derived.Lib.AppendZeros
set_option linter.unusedVariables false
set_option linter.unusedSimpArgs false
set_option maxRecDepth 1000000
namespace Go.Proofs.YtokpphhmmcoeaaaGreatDoor
open Go.RowKit

/-- A column: its name, its kind. -/
abbrev ColB := ByteArray × Int

def colV (c : ColB) : List Value := [.string c.1, .int .i64 c.2]

def colE : Elt := ⟨22, 68, 2, 24, .agg #[.string ⟨#[]⟩, .int .i64 0]⟩

theorem colOk : colE.Ok := ⟨Tryz.underlying22, by kernel_rfl, by kernel_rfl, rfl, by decide⟩

/-- Columns as a program can hold them: no name too long for a string, kinds in their kind's bounds. -/
def CS (cs : List ColB) : Prop := ∀ c ∈ cs, c.1.size ≤ 140737488351232 ∧ -9223372036854775808 ≤ c.2 ∧ c.2 ≤ 9223372036854775807

def RdC (w : World) (v : Value) (cs : List ColB) : Prop := RdG colE w v (cs.map colV)

def OwnC (w : World) (base : Nat) (v : Value) (cs : List ColB) : Prop := OwnG colE w base v (cs.map colV)

section

variable {w w' : World} {v : Value} {cs : List ColB} {ss : List ByteArray} {base : Nat}

theorem RdC.small (h : RdC w v cs) : cs.length ≤ 140737488351232 := by have := RdG.small h; simpa using this

theorem RdC.later (h : RdC w v cs) {B : Nat} (hb : Below B w w') (hB : w.heap.size ≤ B) : RdC w' v cs := RdG.later h colOk hb hB

theorem RdC.drew (h : RdC w v cs) : RdC w.drew v cs := RdG.drew h

theorem RdC.nil (w : World) : RdC w (.slice none 0 0) [] := RdG.nil colE w

theorem OwnC.rd (h : OwnC w base v cs) (hs : cs.length ≤ 140737488351232) : RdC w v cs := OwnG.rd h (by simpa using hs)

theorem OwnC.later {B : Nat} (h : OwnC w base v cs) (hb : Below B w w') (hB : w.heap.size ≤ B) : OwnC w' base v cs := OwnG.later h hb hB

theorem OwnC.lower {b' : Nat} (h : OwnC w base v cs) (hb : b' ≤ base) : OwnC w b' v cs := OwnG.base h hb

theorem OwnC.grown (h : OwnC w base v cs) {r : Option Nat} (hg : w.grownBy w' r) (hne : ∀ k, v.ownBlock = some k → some k ≠ r) : OwnC w' base v cs := OwnG.grown h hg hne

theorem OwnC.alloc (h : OwnC w base v cs) (o : Obj) : OwnC (w.alloc o) base v cs := OwnG.alloc h o

theorem OwnC.drew (h : OwnC w base v cs) : OwnC w.drew base v cs := OwnG.drew h

theorem OwnC.nil (w : World) (base : Nat) : OwnC w base (.slice none 0 0) [] := OwnG.nil colE w base

theorem OwnC.lt (h : OwnC w base v cs) {k : Nat} (hk : v.ownBlock = some k) : base ≤ k ∧ k < w.heap.size := OwnG.lt h hk

theorem RdC.len (h : RdC w v cs) : ∀ u, (Builtin.len_ #[22] 3 #[v]).run Tryz.prog u = .ok (.int .i64 (cs.length : Int)) u := by
  have := RdG.len h colOk
  rw [List.length_map] at this
  exact this

/-- An element: where it lies, and what it is. -/
theorem RdC.get (h : RdC w v cs) {i : Nat} (hi : i < cs.length) : ∃ b o, (∀ u, (Instr.indexAt 22 v (.int .i64 (i : Int))).run Tryz.prog u = .ok (.pointer (some ⟨b, o, none⟩)) u) ∧
    (∀ w', RdC w' v cs → w'.cell? ⟨b, o, none⟩ = some (.string (cs.getD i default).1) ∧ w'.cell? ⟨b, o + 1, none⟩ = some (.int .i64 (cs.getD i default).2)) ∧ b < w.heap.size := by
  have hi' : i < (cs.map colV).length := by simpa using hi
  have hx := RdG.idx h colOk i hi'
  obtain ⟨b, o, ha, hc⟩ := RdG.at h hi'
  rw [ha] at hx
  refine ⟨b, o, hx, fun w' h' => ?_, ?_⟩
  · obtain ⟨b', o', ha', hc'⟩ := RdG.at h' hi'
    rw [ha] at ha'
    cases ha'
    rw [getD_map colV cs i hi default] at hc'
    exact ⟨hc' 0 _ rfl, hc' 1 _ rfl⟩
  · rw [getD_map colV cs i hi default] at hc
    exact World.block_lt_of_cell? w _ (hc 0 _ rfl)

/-- 'append(s, api.Column{..})'. -/
theorem wplC_append {ops : Array Oper} {Q : Exit → Act → World → Prop} {rest : List Oper} {a : Act} {dst : Option Tmp} {ty : TypeId} {pos : String} {aft : Array Edge} {s x : Operand}
    (base : Nat) (sv : Value) (hs : a.eval s = sv) (ho : OwnC w base sv cs) (ad : Addr) (c : ColB) (hx : a.eval x = .slice (some ad) 1 1)
    (hc : ∀ j z, (colV c)[j]? = some z → w.cell? (ad.add j) = some z) (hn : (cs.length + 1) * 24 ≤ 140737488355328) (hbase : base ≤ w.heap.size)
    (B : Nat) (w0 : World) (hb : Below B w0 w) (hBb : B ≤ base)
    (h : ∀ v' w', OwnC w' base v' (cs ++ [c]) → Below B w0 w' → w.grownBy w' sv.ownBlock → wpList Tryz.prog ops Q rest (a.put dst v') w') :
    wpList Tryz.prog ops Q (⟨dst, .call ⟨.builtin .append, #[s, x], #[22, 22]⟩, ty, pos, aft, none⟩ :: rest) a w :=
  wplG_append (E := colE) (vs := cs.map colV) colOk base sv hs ho ad (colV c) hx rfl (by intro z hz; simp [colV] at hz; rcases hz with rfl | rfl <;> rfl) hc (by rw [List.length_map]; exact hn) (by rw [List.length_map]; omega) hbase B w0 hb hBb
    (fun v' w' h1 h2 h3 => h v' w' (by unfold OwnC; rw [List.map_append]; exact h1) h2 h3)

/-- One column, one string, as the slice that append is handed. -/
theorem one_col (w : World) (c : ColB) : ∀ j z, (colV c)[j]? = some z → (w.alloc (.cells #[.string c.1, .int .i64 c.2] 68)).cell? (Addr.add ⟨w.heap.size, 0, none⟩ j) = some z := by
  intro j z hj
  have e : Addr.add ⟨w.heap.size, 0, none⟩ j = ⟨w.heap.size, j, none⟩ := by simp [Addr.add]; omega
  rw [e, cell_of_row _ _ _ _ _ _ (heap_alloc_new w _), List.getElem?_toArray]
  exact hj

end

end Go.Proofs.YtokpphhmmcoeaaaGreatDoor


/-
  Slices of cells, as the walks read them.
-/
namespace Go.Proofs.YtokpphhmmcoeaaaGreatDoor
open Go.RowKit

/-- A cell: its number, its text. -/
abbrev CellB := Nat × ByteArray
def cellVs (c : CellB) : List Value := [.int .u64 (c.1 : Int), .string c.2]
def cellE : Elt := ⟨73, 71, 2, 24, .agg #[.int .u64 0, .string ⟨#[]⟩]⟩
theorem cellOk : cellE.Ok := ⟨Tryz.underlying73, by kernel_rfl, by kernel_rfl, rfl, by decide⟩

/-- A cell as a program can hold it. -/
def ceS (c : CellB) : Prop := c.1 < 18446744073709551616 ∧ c.2.size ≤ 140737488351232
def CES (cs : List CellB) : Prop := ∀ c ∈ cs, ceS c
theorem CES.get {cs : List CellB} (h : CES cs) {k : Nat} (hk : k < cs.length) : ceS (cs.getD k default) := by
  have e : cs.getD k default = cs[k] := by simp [List.getD, hk]
  rw [e]; exact h _ (List.getElem_mem _)
theorem CES.rdS {c : CellB} (h : ceS c) : RdS c.2 c.2.data.toList := rdS_of h.2

def RdE (w : World) (v : Value) (cs : List CellB) : Prop := RdG cellE w v (cs.map cellVs)
def OwnE (w : World) (base : Nat) (v : Value) (cs : List CellB) : Prop := OwnG cellE w base v (cs.map cellVs)

section
variable {w w' : World} {v : Value} {cs : List CellB} {base : Nat}

theorem RdE.small (h : RdE w v cs) : cs.length ≤ 140737488351232 := by have := RdG.small h; simpa using this
theorem RdE.later (h : RdE w v cs) {B : Nat} (hb : Below B w w') (hB : w.heap.size ≤ B) : RdE w' v cs := RdG.later h cellOk hb hB
theorem RdE.drew (h : RdE w v cs) : RdE w.drew v cs := RdG.drew h
theorem RdE.nil (w : World) : RdE w (.slice none 0 0) [] := RdG.nil cellE w
theorem OwnE.rd (h : OwnE w base v cs) (hs : cs.length ≤ 140737488351232) : RdE w v cs := OwnG.rd h (by simpa using hs)
theorem OwnE.later {B : Nat} (h : OwnE w base v cs) (hb : Below B w w') (hB : w.heap.size ≤ B) : OwnE w' base v cs := OwnG.later h hb hB
theorem OwnE.lower {b' : Nat} (h : OwnE w base v cs) (hb : b' ≤ base) : OwnE w b' v cs := OwnG.base h hb
theorem OwnE.grown (h : OwnE w base v cs) {r : Option Nat} (hg : w.grownBy w' r) (hne : ∀ k, v.ownBlock = some k → some k ≠ r) : OwnE w' base v cs := OwnG.grown h hg hne
theorem OwnE.alloc (h : OwnE w base v cs) (o : Obj) : OwnE (w.alloc o) base v cs := OwnG.alloc h o
theorem OwnE.drew (h : OwnE w base v cs) : OwnE w.drew base v cs := OwnG.drew h
theorem OwnE.nil (w : World) (base : Nat) : OwnE w base (.slice none 0 0) [] := OwnG.nil cellE w base
theorem OwnE.lt (h : OwnE w base v cs) {k : Nat} (hk : v.ownBlock = some k) : base ≤ k ∧ k < w.heap.size := OwnG.lt h hk

theorem RdE.len (h : RdE w v cs) : ∀ u, (Builtin.len_ #[73] 3 #[v]).run Tryz.prog u = .ok (.int .i64 (cs.length : Int)) u := by
  have := RdG.len h cellOk
  rw [List.length_map] at this
  exact this

/-- An element: where it lies, and what it is. -/
theorem RdE.get (h : RdE w v cs) {i : Nat} (hi : i < cs.length) : ∃ b o, (∀ u, (Instr.indexAt 73 v (.int .i64 (i : Int))).run Tryz.prog u = .ok (.pointer (some ⟨b, o, none⟩)) u) ∧
    (∀ w', RdE w' v cs → w'.cell? ⟨b, o, none⟩ = some (.int .u64 ((cs.getD i default).1 : Int)) ∧ w'.cell? ⟨b, o + 1, none⟩ = some (.string (cs.getD i default).2)) ∧ b < w.heap.size := by
  have hi' : i < (cs.map cellVs).length := by simpa using hi
  have hx := RdG.idx h cellOk i hi'
  obtain ⟨b, o, ha, hc⟩ := RdG.at h hi'
  rw [ha] at hx
  refine ⟨b, o, hx, fun w' h' => ?_, ?_⟩
  · obtain ⟨b', o', ha', hc'⟩ := RdG.at h' hi'
    rw [ha] at ha'
    cases ha'
    rw [getD_map cellVs cs i hi default] at hc'
    exact ⟨hc' 0 _ rfl, hc' 1 _ rfl⟩
  · rw [getD_map cellVs cs i hi default] at hc
    exact World.block_lt_of_cell? w _ (hc 0 _ rfl)

/-- 'append(s, api.Cell{..})'. -/
theorem wplE_append {ops : Array Oper} {Q : Exit → Act → World → Prop} {rest : List Oper} {a : Act} {dst : Option Tmp} {ty : TypeId} {pos : String} {aft : Array Edge} {s x : Operand}
    (base : Nat) (sv : Value) (hs : a.eval s = sv) (ho : OwnE w base sv cs) (ad : Addr) (c : CellB) (hx : a.eval x = .slice (some ad) 1 1)
    (hc : ∀ j z, (cellVs c)[j]? = some z → w.cell? (ad.add j) = some z) (hn : (cs.length + 1) * 24 ≤ 140737488355328) (hbase : base ≤ w.heap.size)
    (B : Nat) (w0 : World) (hb : Below B w0 w) (hBb : B ≤ base)
    (h : ∀ v' w', OwnE w' base v' (cs ++ [c]) → Below B w0 w' → w.grownBy w' sv.ownBlock → wpList Tryz.prog ops Q rest (a.put dst v') w') :
    wpList Tryz.prog ops Q (⟨dst, .call ⟨.builtin .append, #[s, x], #[73, 73]⟩, ty, pos, aft, none⟩ :: rest) a w :=
  wplG_append (E := cellE) (vs := cs.map cellVs) cellOk base sv hs ho ad (cellVs c) hx rfl (by intro z hz; simp [cellVs] at hz; rcases hz with rfl | rfl <;> rfl) hc (by rw [List.length_map]; exact hn) (by rw [List.length_map]; omega) hbase B w0 hb hBb
    (fun v' w' h1 h2 h3 => h v' w' (by unfold OwnE; rw [List.map_append]; exact h1) h2 h3)

/-- One cell, as the slice that append is handed. -/
theorem one_cellv (w : World) (c : CellB) : ∀ j z, (cellVs c)[j]? = some z → (w.alloc (.cells #[.int .u64 (c.1 : Int), .string c.2] 71)).cell? (Addr.add ⟨w.heap.size, 0, none⟩ j) = some z := by
  intro j z hj
  have e : Addr.add ⟨w.heap.size, 0, none⟩ j = ⟨w.heap.size, j, none⟩ := by simp [Addr.add]; omega
  rw [e, cell_of_row _ _ _ _ _ _ (heap_alloc_new w _), List.getElem?_toArray]
  exact hj
end

end Go.Proofs.YtokpphhmmcoeaaaGreatDoor


/-
  Slices of columns, and of cells, as the walks read them.
-/
namespace Go.Proofs.YtokpphhmmcoeaaaGreatDoor
end Go.Proofs.YtokpphhmmcoeaaaGreatDoor


/-
  The document's own answer for layer 6 (deckleref06): Same.
-/
namespace Go.Proofs.YtokpphhmmcoeaaaGreatDoor
open Go.RowKit

theorem eqE_step {cs ds : List CellB} {k : Nat} (h1 : k < cs.length) (h2 : k < ds.length) (h : cs.take k = ds.take k) (he : cs.getD k default = ds.getD k default) : cs.take (k + 1) = ds.take (k + 1) := by
  rw [take_succD h1 default, take_succD h2 default, h, he]

set_option maxHeartbeats 4000000 in
theorem ref_Same06 (v1 v2 : Value) (cs ds : List CellB) (w : World) (h1 : RdE w v1 cs) (h2 : RdE w v2 ds) :
    Calls Tryz.prog 31 #[v1, v2] w fun e w' => e = .returned (.bool (decide (cs = ds))) ∧ Below w.heap.size w w' := by
  have hl1 := h1.len
  have hl2 := h2.len
  have hs1 := h1.small
  have hs2 := h2.small
  by_cases hn : cs.length = ds.length
  · obtain ⟨n, hn1⟩ : ∃ n, n = cs.length := ⟨_, rfl⟩
    have hn2 : n = ds.length := by omega
    rw [← hn1] at hl1 hs1
    rw [← hn2] at hl2
    have HN1 := Lib.hid hn1
    have HN2 := Lib.hid hn2
    have H1 := Lib.hid h1
    have H2 := Lib.hid h2
    have hb0 := Lib.hid (Below.refl w.heap.size w)
    clear hn hn1 hn2 h1 h2 hs2
    go_enter Tryz.func31, Tryz.ntmps31
    go_wp2
    go_loopw [5] (fun i wr => ∃ k : Nat, k ≤ n ∧ i = .int .i64 k ∧ Hid (cs.take k = ds.take k) ∧ Hid (Below w.heap.size w wr)) (fun i _ => n - (intOf i).toNat)
    case atStart => exact ⟨0, by omega, rfl, Lib.hid rfl, hb0⟩
    case round =>
      obtain ⟨k, hk, rfl, HT, HB⟩ := hrel
      clear hb0
      by_cases hlt : k < n
      · have hr1 := H1.out.later HB.out (Nat.le_refl _)
        have hr2 := H2.out.later HB.out (Nat.le_refl _)
        have k1 : k < cs.length := by rw [← HN1.out]; exact hlt
        have k2 : k < ds.length := by rw [← HN2.out]; exact hlt
        obtain ⟨b1, o1, hi1, hc1, hb1⟩ := hr1.get k1
        obtain ⟨b2, o2, hi2, hc2, hb2⟩ := hr2.get k2
        obtain ⟨c10, c11⟩ := hc1 _ hr1
        obtain ⟨c20, c21⟩ := hc2 _ hr2
        have hes := Lib.hid (fun he => eqE_step k1 k2 HT.out he)
        have hne := Lib.hid (show cs.getD k default ≠ ds.getD k default → cs ≠ ds from fun h hh => h (by rw [hh]))
        clear hr1 hr2 hc1 hc2 k1 k2
        rcases hcg : cs.getD k default with ⟨kd, s⟩
        rcases hdg : ds.getD k default with ⟨ke, t⟩
        rw [hcg] at c10 c11
        rw [hdg] at c20 c21
        rw [hcg, hdg] at hes hne
        dsimp only at c10 c11 c20 c21
        clear hcg hdg
        by_cases hke : kd = ke
        · subst hke
          by_cases hst : s = t
          · subst hst
            have HES := Lib.hid (hes.out rfl)
            clear hes hne
            go_wp2
            go_quiet (fail)
            go_wp2
            go_roundw
            case rel => exact ⟨k + 1, by omega, by go_num, HES, Lib.hid (below_drewN HB.out _)⟩
            case measure => simp [intOf]; omega
          · have HF := Lib.hid (show decide (cs = ds) = false from decide_eq_false (hne.out (fun h => hst (by injection h))))
            obtain ⟨q1, q2⟩ := str_ne hst
            clear hst
            clear hes hne
            go_wp2
            go_quiet (fail)
            go_wp2
            go_ret
            exact ⟨by rw [HF.out]; rfl, below_drewN HB.out _⟩
        · have HF := Lib.hid (show decide (cs = ds) = false from decide_eq_false (hne.out (fun h => hke (by injection h))))
          have q1 : ((kd : Int) == (ke : Int)) = false := by rw [beq_eq_false_iff_ne]; omega
          have q2 : ((kd : Int) != (ke : Int)) = true := by rw [bne_iff_ne]; omega
          have q3 : (kd == ke) = false := by simpa using hke
          have q4 : (kd != ke) = true := by simpa using hke
          clear hke
          clear hes hne
          go_wp2
          go_quiet (fail)
          go_wp2
          go_ret
          exact ⟨by rw [HF.out]; rfl, below_drewN HB.out _⟩
      · obtain rfl : k = n := by omega
        have HF := Lib.hid (show decide (cs = ds) = true from decide_eq_true (by
          have := HT.out
          rwa [List.take_of_length_le (by rw [← HN1.out]; exact Nat.le_refl _), List.take_of_length_le (by rw [← HN2.out]; exact Nat.le_refl _)] at this))
        clear hlt
        go_wp2
        go_ret
        exact ⟨by rw [HF.out]; rfl, HB.out⟩
  · have q : ((cs.length : Int) != (ds.length : Int)) = true := by rw [bne_iff_ne]; omega
    have q' : (cs.length != ds.length) = true := by simpa using hn
    have HF := Lib.hid (show decide (cs = ds) = false from decide_eq_false (fun h => hn (by rw [h])))
    clear hn h1 h2
    go_enter Tryz.func31, Tryz.ntmps31
    go_wp2
    go_ret
    exact ⟨by rw [HF.out]; rfl, Below.refl _ _⟩

end Go.Proofs.YtokpphhmmcoeaaaGreatDoor


/-
  Slices whose elements have one cell or more: 'append(s, t...)' of a whole slice, empty or not; an empty slice of the call's own; a slice that was built.
-/
namespace Go.Proofs.YtokpphhmmcoeaaaGreatDoor
open Go.RowKit

theorem flatG_inv {n : Nat} (hn : 0 < n) : ∀ (vs : List (List Value)), (∀ x ∈ vs, x.length = n) → ∀ j u, vs.flatten[j]? = some u → j / n < vs.length ∧ (vs.getD (j / n) [])[j % n]? = some u
  | [], _, j, u, h => by simp at h
  | x :: r, hw, j, u, h => by
    have hx := hw x (by simp)
    rw [List.flatten_cons] at h
    by_cases hj : j < n
    · rw [List.getElem?_append_left (by omega)] at h
      rw [Nat.div_eq_of_lt hj, Nat.mod_eq_of_lt hj]
      exact ⟨by simp, h⟩
    · rw [List.getElem?_append_right (by omega), hx] at h
      obtain ⟨h1, h2⟩ := flatG_inv hn r (fun y hy => hw y (by simp [hy])) (j - n) u h
      have e : j = (j - n) + n := by omega
      have e1 : j / n = (j - n) / n + 1 := by conv => lhs; rw [e, Nat.add_div_right _ hn]
      have e2 : j % n = (j - n) % n := by conv => lhs; rw [e, Nat.add_mod_right]
      rw [e1, e2]
      exact ⟨by simp; omega, by simpa using h2⟩

theorem flatG_len {n : Nat} : ∀ (vs : List (List Value)), (∀ x ∈ vs, x.length = n) → vs.flatten.length = vs.length * n
  | [], _ => by simp
  | x :: r, hw => by
    rw [List.flatten_cons, List.length_append, hw x (by simp), flatG_len r (fun y hy => hw y (by simp [hy])), List.length_cons, Nat.add_mul]; omega

section
variable {E : Elt} {w w' : World} {v : Value} {cs ds : List (List Value)} {base : Nat}

/-- 'append(s, t...)': s the call's own, t any that reads. -/
theorem wplG_appendAll (hE : E.Ok) {ops : Array Oper} {Q : Exit → Act → World → Prop} {rest : List Oper} {a : Act} {dst : Option Tmp} {ty : TypeId} {pos : String} {aft : Array Edge} {s x : Operand}
    (base : Nat) (sv : Value) (hs : a.eval s = sv) (ho : OwnG E w base sv cs) (xv : Value) (hx : a.eval x = xv) (hr : RdG E w xv ds) (hone : ∀ x ∈ ds, ∀ u ∈ x, u.oneCell' = true)
    (hn : (cs.length + ds.length) * E.bytes ≤ 140737488355328) (hn2 : cs.length + ds.length ≤ 140737488355328) (hbase : base ≤ w.heap.size)
    (B : Nat) (w0 : World) (hb : Below B w0 w) (hBb : B ≤ base)
    (h : ∀ v' w', OwnG E w' base v' (cs ++ ds) → Below B w0 w' → w.grownBy w' sv.ownBlock → wpList Tryz.prog ops Q rest (a.put dst v') w') :
    wpList Tryz.prog ops Q (⟨dst, .call ⟨.builtin .append, #[s, x], #[E.S, E.S]⟩, ty, pos, aft, none⟩ :: rest) a w := by
  obtain ⟨i0, hi, hz0, hz1, hz2⟩ := info_parts hE.info
  obtain ⟨ao, cap, hv, hcap, hnil, hp⟩ := RdG.shape hr
  cases ao with
  | none =>
    obtain rfl : cap = 0 := hnil rfl
    obtain rfl : ds = [] := List.eq_nil_of_length_eq_zero (by omega)
    refine wpList_append_own_none rfl s x E.S rfl base E.T i0 E.n hE.hS hi sv cs.length cs.flatten hs ho.1 (by rw [hx, hv]; rfl) ?_
    exact h sv w (by simpa using ho) hb (World.grownBy.refl _ _)
  | some ad =>
    have hwid := hr.wid
    refine wpList_append_own w rfl s x E.S rfl base E.T i0 E.zero E.n E.bytes hE.hS hi hz0 hz1 hz2 hE.hz hE.hn sv cs.length cs.flatten hs ho.1 ad ds.length cap ds.flatten (by rw [hx, hv]) (flatG_len ds hwid) ?_ ?_ (by unfold maxLen; omega) hn hbase ?_
    · intro j u hj
      obtain ⟨h1, h2⟩ := flatG_inv hE.hn ds hwid j u hj
      obtain ⟨b, o, e⟩ := hp (Nat.lt_of_le_of_lt (Nat.zero_le _) h1)
      injection e with e
      subst e
      have := RdG.cells hr (j / E.n) h1 (j % E.n) u h2
      rw [hv, adr_lit] at this
      have e : o + (j / E.n * E.n + j % E.n) = o + j := by
        have := Nat.div_add_mod j E.n
        rw [Nat.mul_comm] at this
        omega
      rw [e] at this
      have e2 : Addr.add ⟨b, o, none⟩ j = ⟨b, o + j, none⟩ := by simp only [Addr.add]; split <;> simp_all
      rw [e2]; exact this
    · intro u hu
      obtain ⟨y, hy, hz⟩ := List.mem_flatten.1 hu
      exact hone y hy u hz
    · intro v' w' h1' h2 _
      refine h v' w' ⟨?_, ?_, ?_⟩ (hb.grown h2 (by omega) fun k hk => ?_) h2
      · rw [List.length_append, List.flatten_append]; exact h1'
      · intro y hy
        rcases List.mem_append.1 hy with hy | hy
        · exact ho.2.1 y hy
        · exact hwid y hy
      · intro y hy
        rcases List.mem_append.1 hy with hy | hy
        · exact ho.2.2 y hy
        · exact hone y hy
      · exact Nat.le_trans hBb (World.ownsRow.lt ho.1 k hk).1

/-- Where an append's slice lies: in the block that it lay in, or in a new one. -/
def Place (w : World) (v v' : Value) : Prop := v'.ownBlock = v.ownBlock ∨ ∀ g, v'.ownBlock = some g → w.heap.size ≤ g

theorem append_place (hE : E.Ok) {base : Nat} {sv : Value} (ho : OwnG E w base sv cs) {ad : Addr} {m c : Nat} {news : List Value} (hl : news.length = m * E.n)
    (hnews : ∀ j u, news[j]? = some u → w.cell? (ad.add j) = some u) (h1 : ∀ u ∈ news, u.oneCell' = true) (hn : (cs.length + m) * E.bytes ≤ 140737488355328) (hn2 : cs.length + m ≤ 140737488355328)
    {ty : TypeId} {v' : Value} {w' : World} (hr : (Builtin.append_ #[E.S, E.S] ty #[sv, .slice (some ad) m c]).run Tryz.prog w = .ok v' w') : Place w sv v' := by
  obtain ⟨i0, hi, hz0, hz1, hz2⟩ := info_parts hE.info
  have hb48 : (cs.length + m) * i0.bytes ≤ 140737488355328 := by rw [hz2]; exact hn
  have hown := ho.1
  rcases hown.2 with ⟨rfl, h0⟩ | ⟨g, cap, cur, rfl, _, hg, hnc, hcm, hcs, _⟩
  · refine .inr fun g hgv => ?_
    by_cases hm : m = 0
    · subst hm
      have hnil : news = [] := List.eq_nil_of_length_eq_zero (by simpa using hl)
      subst hnil
      have e : (Builtin.append_ #[E.S, E.S] ty #[.slice none 0 0, .slice (some ad) 0 c]).run Tryz.prog w = .ok (.slice none 0 0) w := by
        simp [Builtin.append_, run_underlying hE.hS, sizeOf, typeInfo, hi, Builtin.lenOf, Builtin.firstCells, loadCells, loadCellsFrom]
      rw [e] at hr
      injection hr with e1 e2
      subst e1
      cases hgv
    · rw [h0, Nat.zero_add] at hb48
      have e := run_append_nil (P := Tryz.prog) w E.S ty E.T i0 E.zero hE.hS hi hz0 ad m c news (by rw [hz1]; exact hl) hnews (by omega) (by omega) (by omega)
      rw [e] at hr
      injection hr with e1 e2
      subst e1
      injection hgv with hgv
      exact Nat.le_of_eq hgv
  · by_cases hroom : cs.length + m ≤ cap
    · have e := run_append_room (P := Tryz.prog) w E.S ty E.T i0 hE.hS hi g cs.length cap cur hg ad m c news (by rw [hz1]; exact hl) hnews h1 hroom (by rw [hl, hcs, hz1, ← Nat.add_mul]; exact Nat.mul_le_mul_right _ hroom)
      rw [e] at hr
      injection hr with e1 e2
      subst e1
      exact .inl rfl
    · refine .inr fun g' hgv => ?_
      have holds : ∀ j u, cs.flatten[j]? = some u → w.cell? ((⟨g, 0, none⟩ : Addr).add j) = some u := World.ownsRow.cells (g := g) hown rfl
      have e := run_append_grow (P := Tryz.prog) w E.S ty E.T i0 E.zero hE.hS hi hz0 ⟨g, 0, none⟩ cs.length cap cs.flatten (by rw [hz1]; exact hown.1) holds ad m c news (by rw [hz1]; exact hl) hnews (by omega) (by omega) (growslice_fits (by omega) hb48)
      rw [e] at hr
      injection hr with e1 e2
      subst e1
      injection hgv with hgv
      exact Nat.le_of_eq hgv

/-- 'append(s, t...)' of any that reads, and where the slice lies behind it: one operation. -/
theorem wpG_appendAll (hE : E.Ok) {a : Act} {K : Act → World → Prop} {Q : Exit → Act → World → Prop} {dst : Option Tmp} {ty : TypeId} {pos : String} {aft : Array Edge} {s x : Operand} {gu : Option (Nat × Bool)}
    (base : Nat) (sv : Value) (hs : a.eval s = sv) (ho : OwnG E w base sv cs) (xv : Value) (hx : a.eval x = xv) (hr : RdG E w xv ds) (hone : ∀ x ∈ ds, ∀ u ∈ x, u.oneCell' = true)
    (hn : (cs.length + ds.length) * E.bytes ≤ 140737488355328) (hn2 : cs.length + ds.length ≤ 140737488355328) (hbase : base ≤ w.heap.size)
    (B : Nat) (w0 : World) (hb : Below B w0 w) (hBb : B ≤ base)
    (h : ∀ v' w', OwnG E w' base v' (cs ++ ds) → Below B w0 w' → w.grownBy w' sv.ownBlock → Place w sv v' → K (a.put dst v') w') :
    Oper.wp Tryz.prog ⟨dst, .call ⟨.builtin .append, #[s, x], #[E.S, E.S]⟩, ty, pos, aft, gu⟩ a w K Q := by
  obtain ⟨i0, hi, hz0, hz1, hz2⟩ := info_parts hE.info
  obtain ⟨ao, cap, hv, hcap, hnil, hp⟩ := RdG.shape hr
  cases ao with
  | none =>
    obtain rfl : cap = 0 := hnil rfl
    obtain rfl : ds = [] := List.eq_nil_of_length_eq_zero (by omega)
    have hxe : a.eval x = .slice none 0 0 := by rw [hx, hv]; rfl
    have hrun := run_append_owned_none (P := Tryz.prog) (w := w) base E.S ty E.T i0 E.n hE.hS hi sv cs.length cs.flatten ho.1
    unfold Oper.wp execOp
    simp only [resolve, invoke, builtin, Sem.run_bind, Sem.run_pure, Result.andThen_ok, List.map_toArray, List.map_cons, List.map_nil, hs, hxe, hrun]
    exact h sv w (by simpa using ho) hb (World.grownBy.refl _ _) (.inl rfl)
  | some ad =>
    have hwid := hr.wid
    have hnews : ∀ j u, ds.flatten[j]? = some u → w.cell? (ad.add j) = some u := by
      intro j u hj
      obtain ⟨h1, h2⟩ := flatG_inv hE.hn ds hwid j u hj
      obtain ⟨b, o, e⟩ := hp (Nat.lt_of_le_of_lt (Nat.zero_le _) h1)
      injection e with e
      subst e
      have := RdG.cells hr (j / E.n) h1 (j % E.n) u h2
      rw [hv, adr_lit] at this
      have e : o + (j / E.n * E.n + j % E.n) = o + j := by
        have := Nat.div_add_mod j E.n
        rw [Nat.mul_comm] at this
        omega
      rw [e] at this
      have e2 : Addr.add ⟨b, o, none⟩ j = ⟨b, o + j, none⟩ := by simp only [Addr.add]; split <;> simp_all
      rw [e2]; exact this
    have h1c : ∀ u ∈ ds.flatten, u.oneCell' = true := by
      intro u hu
      obtain ⟨y, hy, hz⟩ := List.mem_flatten.1 hu
      exact hone y hy u hz
    obtain ⟨v', w', hrun, h2, h3, _⟩ := run_append_own (P := Tryz.prog) w base E.S ty E.T i0 E.zero E.n E.bytes hE.hS hi hz0 hz1 hz2 hE.hz hE.hn sv cs.length cs.flatten ho.1 ad ds.length cap ds.flatten (flatG_len ds hwid) hnews h1c (by unfold maxLen; omega) hn hbase
    have hpl := append_place hE ho (flatG_len ds hwid) hnews h1c hn hn2 hrun
    have hxe : a.eval x = .slice (some ad) ds.length cap := by rw [hx, hv]
    unfold Oper.wp execOp
    simp only [resolve, invoke, builtin, Sem.run_bind, Sem.run_pure, Result.andThen_ok, List.map_toArray, List.map_cons, List.map_nil, hs, hxe, hrun]
    refine h v' w' ⟨?_, ?_, ?_⟩ (hb.grown h3 (by omega) fun k hk => ?_) h3 hpl
    · rw [List.length_append, List.flatten_append]; exact h2
    · intro y hy
      rcases List.mem_append.1 hy with hy | hy
      · exact ho.2.1 y hy
      · exact hwid y hy
    · intro y hy
      rcases List.mem_append.1 hy with hy | hy
      · exact ho.2.2 y hy
      · exact hone y hy
    · exact Nat.le_trans hBb (World.ownsRow.lt ho.1 k hk).1

/-- .. as the walks take it. -/
theorem wplG_appendPl (hE : E.Ok) {ops : Array Oper} {Q : Exit → Act → World → Prop} {rest : List Oper} {a : Act} {dst : Option Tmp} {ty : TypeId} {pos : String} {aft : Array Edge} {s x : Operand}
    (base : Nat) (sv : Value) (hs : a.eval s = sv) (ho : OwnG E w base sv cs) (xv : Value) (hx : a.eval x = xv) (hr : RdG E w xv ds) (hone : ∀ x ∈ ds, ∀ u ∈ x, u.oneCell' = true)
    (hn : (cs.length + ds.length) * E.bytes ≤ 140737488355328) (hn2 : cs.length + ds.length ≤ 140737488355328) (hbase : base ≤ w.heap.size)
    (B : Nat) (w0 : World) (hb : Below B w0 w) (hBb : B ≤ base)
    (h : ∀ v' w', OwnG E w' base v' (cs ++ ds) → Below B w0 w' → w.grownBy w' sv.ownBlock → Place w sv v' → wpList Tryz.prog ops Q rest (a.put dst v') w') :
    wpList Tryz.prog ops Q (⟨dst, .call ⟨.builtin .append, #[s, x], #[E.S, E.S]⟩, ty, pos, aft, none⟩ :: rest) a w :=
  wpList_plain rfl fun K hK => wpG_appendAll hE base sv hs ho xv hx hr hone hn hn2 hbase B w0 hb hBb fun v' w' h1 h2 h3 h4 => hK _ _ (h v' w' h1 h2 h3 h4)

/-- One element, as the slice that an append is handed. -/
theorem rdG_one (hE : E.Ok) (u : List Value) (hu : u.length = E.n) (ad : Addr) (had : ∃ b o, ad = ⟨b, o, none⟩) (hc : ∀ j z, u[j]? = some z → w.cell? (ad.add j) = some z) : RdG E w (.slice (some ad) 1 1) [u] := by
  obtain ⟨b, o, rfl⟩ := had
  refine ⟨⟨_, _, rfl, by simp, (by intro h; cases h), fun _ => ⟨b, o, rfl⟩⟩, fun i hi j z hz => ?_, by simpa using hu, by simp⟩
  obtain rfl : i = 0 := by simpa using hi
  rw [adr_lit]
  have := hc j z (by simpa using hz)
  have e : Addr.add ⟨b, o, none⟩ j = ⟨b, o + j, none⟩ := by simp only [Addr.add]; split <;> simp_all
  rw [e] at this
  rw [Nat.zero_mul, Nat.zero_add]
  exact this

theorem ownG_empty (E : Elt) (w : World) (base : Nat) (hb : base ≤ w.heap.size) : OwnG E (w.alloc (.cells #[] E.T)) base (.slice (some ⟨w.heap.size, 0, none⟩) 0 0) [] :=
  ⟨World.ownsRow_made w #[] 0 hb (Nat.zero_le _) (by simp), by simp, by simp⟩

/-- A slice that was built: its elements' cells, one behind the other. -/
theorem ownG_built (E : Elt) (w : World) (base : Nat) (hb : base ≤ w.heap.size) (vs : List (List Value)) (hw : ∀ x ∈ vs, x.length = E.n) (h1 : ∀ x ∈ vs, ∀ u ∈ x, u.oneCell' = true) (hs : vs.length ≤ 140737488351232) :
    OwnG E (w.alloc (.cells vs.flatten.toArray E.T)) base (.slice (some ⟨w.heap.size, 0, none⟩) vs.length vs.length) vs := by
  refine ⟨⟨flatG_len vs hw, .inr ⟨w.heap.size, vs.length, vs.flatten.toArray, rfl, hb, heap_alloc_new _ _, Nat.le_refl _, by unfold maxLen; omega, ?_, ?_⟩⟩, hw, h1⟩
  · show vs.flatten.toArray.size = vs.length * E.n
    rw [List.size_toArray]; exact flatG_len vs hw
  · show vs.flatten.toArray.toList.take (vs.length * E.n) = vs.flatten
    rw [← flatG_len vs hw, List.toList_toArray, List.take_length]

/-- 'append(s, x)' of one element, in a region that draws. -/
theorem wpG_one (hE : E.Ok) {a : Act} {K : Act → World → Prop} {Q : Exit → Act → World → Prop} {dst : Option Tmp} {ty : TypeId} {pos : String} {aft : Array Edge} {s x : Operand} {gu : Option (Nat × Bool)}
    (base : Nat) (sv : Value) (u : List Value) (ad : Addr) 
    (hs : a.eval s = sv) (ho : OwnG E w base sv cs) (hx : a.eval x = .slice (some ad) 1 1) (hu : u.length = E.n) (h1 : ∀ z ∈ u, z.oneCell' = true) (hc : ∀ j z, u[j]? = some z → w.cell? (ad.add j) = some z)
    (hn : (cs.length + 1) * E.bytes ≤ 140737488355328) (hn2 : cs.length + 1 ≤ 140737488355328) (hbase : base ≤ w.heap.size) (B : Nat) (w0 : World) (hb : Below B w0 w) (hBb : B ≤ base)
    (h : ∀ v' w', OwnG E w' base v' (cs ++ [u]) → Below B w0 w' → w.grownBy w' sv.ownBlock → Place w sv v' → K (a.put dst v') w') :
    Oper.wp Tryz.prog ⟨dst, .call ⟨.builtin .append, #[s, x], #[E.S, E.S]⟩, ty, pos, aft, gu⟩ a w K Q := by
  obtain ⟨i0, hi, hz0, hz1, hz2⟩ := info_parts hE.info
  obtain ⟨v', w', hrun, h2, h3, _⟩ := run_append_own (P := Tryz.prog) w base E.S ty E.T i0 E.zero E.n E.bytes hE.hS hi hz0 hz1 hz2 hE.hz hE.hn sv cs.length cs.flatten ho.1 ad 1 1 u (by rw [hu]; omega) hc h1 (by unfold maxLen; omega) hn hbase
  have hpl := append_place hE ho (by rw [hu]; omega) hc h1 hn hn2 hrun
  unfold Oper.wp execOp
  simp only [resolve, invoke, builtin, Sem.run_bind, Sem.run_pure, Result.andThen_ok, List.map_toArray, List.map_cons, List.map_nil, hs, hx, hrun]
  refine h v' w' ⟨?_, ?_, ?_⟩ (hb.grown h3 (by omega) fun k hk => Nat.le_trans hBb (World.ownsRow.lt ho.1 k hk).1) h3 hpl
  · rw [List.length_append, List.flatten_append, List.flatten_singleton]; exact h2
  · intro y hy
    rcases List.mem_append.1 hy with hy | hy
    · exact ho.2.1 y hy
    · rw [List.mem_singleton.1 hy]; exact hu
  · intro y hy
    rcases List.mem_append.1 hy with hy | hy
    · exact ho.2.2 y hy
    · rw [List.mem_singleton.1 hy]; exact h1

theorem stepG_one (hE : E.Ok) {ops : Array Oper} {a : Act} {K : Act → World → Prop} {Q : Exit → Act → World → Prop} {F : Prop} {dst : Option Tmp} {ty : TypeId} {pos : String} {aft : Array Edge} {s x : Operand} {gu : Option (Nat × Bool)}
    (base : Nat) (sv : Value) (u : List Value) (ad : Addr) (hw : Region.wanted ⟨dst, .call ⟨.builtin .append, #[s, x], #[E.S, E.S]⟩, ty, pos, aft, gu⟩ (yielded ops a.tmps) = true)
    (hs : a.eval s = sv) (ho : OwnG E w base sv cs) (hx : a.eval x = .slice (some ad) 1 1) (hu : u.length = E.n) (h1 : ∀ z ∈ u, z.oneCell' = true) (hc : ∀ j z, u[j]? = some z → w.cell? (ad.add j) = some z)
    (hn : (cs.length + 1) * E.bytes ≤ 140737488355328) (hn2 : cs.length + 1 ≤ 140737488355328) (hbase : base ≤ w.heap.size) (B : Nat) (w0 : World) (hb : Below B w0 w) (hBb : B ≤ base)
    (h : ∀ v' w', OwnG E w' base v' (cs ++ [u]) → Below B w0 w' → w.grownBy w' sv.ownBlock → Place w sv v' → K (a.put dst v') w') :
    if Region.wanted ⟨dst, .call ⟨.builtin .append, #[s, x], #[E.S, E.S]⟩, ty, pos, aft, gu⟩ (yielded ops a.tmps) = true then Oper.wp Tryz.prog ⟨dst, .call ⟨.builtin .append, #[s, x], #[E.S, E.S]⟩, ty, pos, aft, gu⟩ a w K Q else F := by
  rw [if_pos hw]
  exact wpG_one hE base sv u ad hs ho hx hu h1 hc hn hn2 hbase B w0 hb hBb h

theorem flatG_set {n : Nat} : ∀ (vs : List (List Value)), (∀ x ∈ vs, x.length = n) → ∀ k j u, k < vs.length → j < n → vs.flatten.set (k * n + j) u = (vs.set k ((vs.getD k []).set j u)).flatten
  | [], _, k, j, u, hk, _ => absurd hk (by simp)
  | x :: r, hw, 0, j, u, _, hj => by
    have hx := hw x (by simp)
    rw [Nat.zero_mul, Nat.zero_add, List.flatten_cons, List.set_append_left _ _ (by omega)]
    simp
  | x :: r, hw, k + 1, j, u, hk, hj => by
    have hx := hw x (by simp)
    have ih := flatG_set r (fun y hy => hw y (by simp [hy])) k j u (by simpa using hk) hj
    rw [List.flatten_cons, List.set_append_right _ _ (by rw [hx, Nat.add_mul]; omega), hx, show (k + 1) * n + j - n = k * n + j from by rw [Nat.add_mul]; omega, ih]
    simp

/-- Where the elements of a slice of the call's own lie, in this world and in each in which it is its own. -/
theorem OwnG.spot (hE : E.Ok) (h : OwnG E w base v cs) (hp : 0 < cs.length) (hs : cs.length ≤ 140737488351232) : ∃ g cap, v = .slice (some ⟨g, 0, none⟩) cs.length cap ∧ base ≤ g ∧
    (∀ k, k < cs.length → ∀ u, (Instr.indexAt E.S v (.int .i64 (k : Int))).run Tryz.prog u = .ok (.pointer (some ⟨g, k * E.n, none⟩)) u) ∧
    ∀ w' vs, vs.length = cs.length → OwnG E w' base v vs → ∀ k, k < cs.length → (vs.getD k []).length = E.n ∧ ∀ j, j < E.n → w'.cell? ⟨g, k * E.n + j, none⟩ = (vs.getD k [])[j]? ∧ w'.frozen? ⟨g, k * E.n + j, none⟩ = false ∧
      ∀ u : Value, u.oneCell' = true → OwnG E (w'.setCell ⟨g, k * E.n + j, none⟩ u) base v (vs.set k ((vs.getD k []).set j u)) := by
  obtain ⟨g, cap, hv, hbg⟩ : ∃ g cap, v = .slice (some ⟨g, 0, none⟩) cs.length cap ∧ base ≤ g := by
    rcases h.1.2 with ⟨_, hn⟩ | ⟨g, cap, cur, hv, hbg, _⟩
    · omega
    · exact ⟨g, cap, hv, hbg⟩
  have hrd := OwnG.rd h hs
  refine ⟨g, cap, hv, hbg, fun k hk u => ?_, fun w' vs hl ho k hk => ?_⟩
  · have := RdG.idx hrd hE k hk u
    rw [hv, adr_lit, Nat.zero_add] at this
    rw [hv]; exact this
  · have hrd' := OwnG.rd ho (by omega)
    have hlen : (vs.getD k []).length = E.n := hrd'.get (by omega)
    obtain ⟨⟨h0, h2⟩, hwid, hone⟩ := ho
    rcases h2 with ⟨_, hn⟩ | ⟨g', cap', cur, hv', hbg', hg, hn, hm, hcs, ht⟩
    · omega
    have e := hv.symm.trans hv'
    simp only [Value.slice.injEq, Option.some.injEq, Addr.mk.injEq] at e
    obtain ⟨⟨rfl, _⟩, _, rfl⟩ := e
    refine ⟨hlen, fun j hj => ⟨?_, frozen_of_row _ _ _ _ _ hg, fun u hu => ⟨⟨?_, .inr ⟨g, cap, cur.setIfInBounds (k * E.n + j) u, by rw [List.length_set]; exact hv', hbg', block_setCell hg _, by rw [List.length_set]; exact hn, hm, by simpa using hcs, ?_⟩⟩, ?_, ?_⟩⟩⟩
    · have hc := hrd'.cells k (by omega) j ((vs.getD k [])[j]'(by omega)) (List.getElem?_eq_getElem _)
      rw [hv, adr_lit, Nat.zero_add] at hc
      rw [hc, List.getElem?_eq_getElem (by omega)]
    · rw [← flatG_set vs hwid k j u (by omega) hj, List.length_set, List.length_set]; exact h0
    · rw [← flatG_set vs hwid k j u (by omega) hj, List.length_set, Array.toList_setIfInBounds, List.take_set, ht]
    · intro y hy
      rcases List.mem_or_eq_of_mem_set hy with hy | rfl
      · exact hwid y hy
      · rw [List.length_set]; exact hlen
    · intro y hy z hz
      rcases List.mem_or_eq_of_mem_set hy with hy | rfl
      · exact hone y hy z hz
      · rcases List.mem_or_eq_of_mem_set hz with hz | rfl
        · exact hone _ (by
            have : vs.getD k [] = vs[k]'(by omega) := by simp [List.getD, show k < vs.length by omega]
            rw [this]; exact List.getElem_mem _) z hz
        · exact hu
end

end Go.Proofs.YtokpphhmmcoeaaaGreatDoor


/-
  's[lo:hi]' of slices whose elements have several cells.
-/
namespace Go.Proofs.YtokpphhmmcoeaaaGreatDoor
open Go.RowKit

section
variable {E : Elt} {w : World} {v : Value} {vs : List (List Value)}

theorem RdG.cut (hE : E.Ok) (h : RdG E w v vs) (lo hi : Nat) (h1 : lo ≤ hi) (h2 : hi ≤ vs.length) :
    ∃ v', (∀ u, (Instr.slice E.S v (some (.int .i64 (lo : Int))) (some (.int .i64 (hi : Int))) none).run Tryz.prog u = .ok v' u) ∧ ∀ w', RdG E w' v vs → RdG E w' v' ((vs.take hi).drop lo) := by
  obtain ⟨⟨ao, cap, rfl, hcap, hnil, hsome⟩, hcel, hwid, hsm⟩ := h
  refine ⟨.slice (if cap = lo then ao else ao.map (·.add (lo * E.n))) (hi - lo) (cap - lo), fun u => ?_, fun w' h' => ?_⟩
  · rw [run_slice_lh (P := Tryz.prog) u E.S ao vs.length cap (by rw [hE.hel]; exact hE.hS) .i64 .i64 lo hi (by omega) (by omega) (by omega)]
    obtain ⟨inf, hi1, hi2⟩ := Option.map_eq_some_iff.1 hE.info
    have hsz : inf.size = E.n := by
      have := congrArg (fun x => x.2.1) hi2
      exact this
    have hi1' : Tryz.prog.info? (Tryz.prog.elem E.S) = some inf := by rw [hE.hel]; exact hi1
    simp [sizeOf, typeInfo, hi1', hsz, Result.andThen, sliced]
  · have hlen : ((vs.take hi).drop lo).length = hi - lo := by simp; omega
    have hadr : ∀ b o, 0 < hi - lo → ao = some ⟨b, o, none⟩ → (if cap = lo then ao else ao.map (·.add (lo * E.n))) = some ⟨b, o + lo * E.n, none⟩ := by
      intro b o hp he
      subst he
      rw [if_neg (by omega)]
      simp [Addr.add]
    refine ⟨⟨_, _, by rw [hlen], by rw [hlen]; omega, ?_, ?_⟩, ?_, ?_, by rw [hlen]; omega⟩
    · intro hn
      by_cases hc : cap = lo
      · omega
      · rw [if_neg hc] at hn
        have : ao = none := by cases ao <;> simp_all
        have := hnil this
        omega
    · intro hp
      rw [hlen] at hp
      obtain ⟨b, o, he⟩ := hsome (by omega)
      exact ⟨b, o + lo * E.n, hadr b o hp he⟩
    · intro i hi' j u hu
      rw [hlen] at hi'
      obtain ⟨b, o, he⟩ := hsome (by omega)
      have eg : ((vs.take hi).drop lo).getD i [] = vs.getD (lo + i) [] := by
        simp [List.getD]
        rw [List.getElem?_take_of_lt (by omega)]
      rw [eg] at hu
      have hc := h'.cells (lo + i) (by omega) j u hu
      rw [hadr b o (by omega) he]
      subst he
      rw [adr_lit] at hc ⊢
      rw [← hc]
      congr 2
      rw [Nat.add_mul]; omega
    · intro x hx
      exact hwid x (List.mem_of_mem_take (List.mem_of_mem_drop hx))

theorem RdG.from (hE : E.Ok) (h : RdG E w v vs) (lo : Nat) (h1 : lo ≤ vs.length) :
    ∃ v', (∀ u, (Instr.slice E.S v (some (.int .i64 (lo : Int))) none none).run Tryz.prog u = .ok v' u) ∧ ∀ w', RdG E w' v vs → RdG E w' v' (vs.drop lo) := by
  obtain ⟨v', hr, hd⟩ := h.cut hE lo vs.length h1 (Nat.le_refl _)
  refine ⟨v', fun u => ?_, fun w' h' => by have := hd w' h'; rwa [List.take_length] at this⟩
  obtain ⟨⟨ao, cap, rfl, hcap, hnil, hsome⟩, hcel, hwid, hsm⟩ := h
  rw [← hr u, run_slice_lh (P := Tryz.prog) u E.S ao vs.length cap (by rw [hE.hel]; exact hE.hS) .i64 .i64 lo vs.length (by omega) (by omega) (by omega),
    run_slice_l (P := Tryz.prog) u E.S ao vs.length cap (by rw [hE.hel]; exact hE.hS) .i64 lo (by omega) (by omega)]
  simp

theorem RdG.upto (hE : E.Ok) (h : RdG E w v vs) (hi : Nat) (h1 : hi ≤ vs.length) :
    ∃ v', (∀ u, (Instr.slice E.S v none (some (.int .i64 (hi : Int))) none).run Tryz.prog u = .ok v' u) ∧ ∀ w', RdG E w' v vs → RdG E w' v' (vs.take hi) := by
  obtain ⟨v', hr, hd⟩ := h.cut hE 0 hi (Nat.zero_le _) h1
  refine ⟨v', fun u => ?_, fun w' h' => by have := hd w' h'; rwa [List.drop_zero] at this⟩
  obtain ⟨⟨ao, cap, rfl, hcap, hnil, hsome⟩, hcel, hwid, hsm⟩ := h
  rw [← hr u, run_slice_lh (P := Tryz.prog) u E.S ao vs.length cap (by rw [hE.hel]; exact hE.hS) .i64 .i64 ((0 : Nat) : Int) hi (by omega) (by omega) (by omega),
    run_slice_h (P := Tryz.prog) u E.S ao vs.length cap (by rw [hE.hel]; exact hE.hS) .i64 hi (by omega) (by omega)]
  simp
end
end Go.Proofs.YtokpphhmmcoeaaaGreatDoor


/-
  '[]byte(s)'.
-/
namespace Go.Proofs.YtokpphhmmcoeaaaGreatDoor
open Go.RowKit

theorem bytes_of_str {s : ByteArray} {l : List UInt8} (h : RdS s l) (u : World) : ∃ v u', (convert 9 84 (.string s)).run Tryz.prog u = .ok v u' ∧ Rd u' v l ∧ Below u.heap.size u u' := by
  have hz : s.size = l.length := by rw [h.eq]; simp [ByteArray.size]
  have hs := h.small
  refine ⟨_, _, Lib.run_convert_string_bytes u 9 84 5 s Tryz.underlying9 Tryz.underlying84 Tryz.underlying5, ⟨⟨_, _, by rw [hz], ?_, (by intro h; cases h), fun _ => ⟨_, _, rfl⟩⟩, fun i hi => ?_, hs⟩, ?_⟩
  · rw [← hz]; exact grownCap_ge _ _ _ _
  · have hc := Lib.bytesWorld_cell u 5 s i (by omega)
    have e : adr (.slice (some ⟨u.heap.size, 0, none⟩) s.size (grownCap u s.size 0 5)) i = ⟨u.heap.size, i, none⟩ := by simp [adr, Addr.add]; omega
    rw [e, hc]
    unfold at8
    rw [show s.data.toList = l from by rw [h.eq]]
  · exact ⟨rfl, rfl, rfl, by rw [Lib.bytesWorld_size]; omega, fun j hj => Lib.bytesWorld_at_old u _ s j hj⟩

end Go.Proofs.YtokpphhmmcoeaaaGreatDoor


/-
  Slices of pairs (a row's slice, and its weight), as the walks read and own them.
-/
namespace Go.Proofs.YtokpphhmmcoeaaaGreatDoor
open Go.RowKit

/-- A row, and how often it is there. -/
abbrev PairB := List CellB × Int
/-- .. and the value that its row is read of. -/
abbrev TriB := Value × PairB
def triV (t : TriB) : List Value := [t.1, .int .i64 t.2.2]
def pairE : Elt := ⟨27, 75, 2, 32, .agg #[.slice none 0 0, .int .i64 0]⟩
theorem pairOk : pairE.Ok := ⟨Tryz.underlying27, by kernel_rfl, by kernel_rfl, rfl, by decide⟩
def inW (x : Int) : Prop := -9223372036854775808 ≤ x ∧ x ≤ 9223372036854775807
/-- Pairs as a program can hold them. -/
def PSO (ps : List PairB) : Prop := ∀ p ∈ ps, CES p.1 ∧ inW p.2
theorem PSO.get {ps : List PairB} (h : PSO ps) {k : Nat} (hk : k < ps.length) : CES (ps.getD k default).1 ∧ inW (ps.getD k default).2 := by
  have e : ps.getD k default = ps[k] := by simp [List.getD, hk]
  rw [e]; exact h _ (List.getElem_mem _)
theorem PSO.append {ps qs : List PairB} (h : PSO ps) (h' : PSO qs) : PSO (ps ++ qs) := fun p hp => by
  rcases List.mem_append.1 hp with hp | hp
  · exact h p hp
  · exact h' p hp
theorem PSO.sub {ps qs : List PairB} (h : PSO ps) (hs : ∀ p ∈ qs, p ∈ ps) : PSO qs := fun p hp => h p (hs p hp)

/-- The slice value v reads as the pairs ps. -/
def RdP (w : World) (v : Value) (ps : List PairB) : Prop := ∃ ts : List TriB, ps = ts.map (·.2) ∧ RdG pairE w v (ts.map triV) ∧ ∀ t ∈ ts, RdE w t.1 t.2.1

section
variable {w w' : World} {v : Value} {ps qs : List PairB} {base : Nat}

theorem RdP.small (h : RdP w v ps) : ps.length ≤ 140737488351232 := by
  obtain ⟨ts, rfl, h, _⟩ := h
  have := h.small; simpa using this
theorem RdP.later (h : RdP w v ps) {B : Nat} (hb : Below B w w') (hB : w.heap.size ≤ B) : RdP w' v ps := by
  obtain ⟨ts, e, h, hr⟩ := h
  exact ⟨ts, e, h.later pairOk hb hB, fun t ht => (hr t ht).later hb hB⟩
theorem RdP.drew (h : RdP w v ps) : RdP w.drew v ps := h.later ((Below.refl w.heap.size w).drew) (Nat.le_refl _)
theorem RdP.nil (w : World) : RdP w (.slice none 0 0) [] := ⟨[], rfl, RdG.nil pairE w, by simp⟩
theorem RdP.len (h : RdP w v ps) : ∀ u, (Builtin.len_ #[27] 3 #[v]).run Tryz.prog u = .ok (.int .i64 (ps.length : Int)) u := by
  obtain ⟨ts, rfl, h, _⟩ := h
  have := RdG.len h pairOk
  rw [List.length_map] at this ⊢
  exact this

/-- An element: where it lies, the value of its row, and what it is. -/
theorem RdP.get (h : RdP w v ps) {i : Nat} (hi : i < ps.length) : ∃ b o rv, (∀ u, (Instr.indexAt 27 v (.int .i64 (i : Int))).run Tryz.prog u = .ok (.pointer (some ⟨b, o, none⟩)) u) ∧
    w.cell? ⟨b, o, none⟩ = some rv ∧ w.cell? ⟨b, o + 1, none⟩ = some (.int .i64 (ps.getD i default).2) ∧ RdE w rv (ps.getD i default).1 ∧ b < w.heap.size := by
  obtain ⟨ts, rfl, h, hr⟩ := h
  rw [List.length_map] at hi
  have hi' : i < (ts.map triV).length := by simpa using hi
  have hx := RdG.idx h pairOk i hi'
  obtain ⟨b, o, ha, hc⟩ := RdG.at h hi'
  rw [ha] at hx
  have eg : (ts.map triV).getD i [] = triV ts[i] := by simp [List.getD, hi]
  have ep : (ts.map (·.2)).getD i default = ts[i].2 := by simp [List.getD, hi]
  rw [eg] at hc
  rw [ep]
  exact ⟨b, o, ts[i].1, hx, hc 0 _ rfl, hc 1 _ rfl, hr _ (List.getElem_mem _), World.block_lt_of_cell? w _ (hc 0 _ rfl)⟩

/-- Of a row's value no cell lies in block g. -/
def offB (rv : Value) (n g : Nat) : Prop := ∀ i, i < n → (adr rv (i * 2)).block ≠ g
/-- Pairs in a slice of the call's own. -/
def OwnP (w : World) (base : Nat) (v : Value) (ps : List PairB) : Prop := ∃ ts : List TriB, ps = ts.map (·.2) ∧ OwnG pairE w base v (ts.map triV) ∧ ∀ t ∈ ts, RdE w t.1 t.2.1 ∧ ∀ g, v.ownBlock = some g → offB t.1 t.2.1.length g

theorem OwnP.rd (h : OwnP w base v ps) (hs : ps.length ≤ 140737488351232) : RdP w v ps := by
  obtain ⟨ts, rfl, h, hr⟩ := h
  exact ⟨ts, rfl, h.rd (by simpa using hs), fun t ht => (hr t ht).1⟩
theorem OwnP.later {B : Nat} (h : OwnP w base v ps) (hb : Below B w w') (hB : w.heap.size ≤ B) : OwnP w' base v ps := by
  obtain ⟨ts, e, h, hr⟩ := h
  exact ⟨ts, e, h.later hb hB, fun t ht => ⟨(hr t ht).1.later hb hB, (hr t ht).2⟩⟩
theorem OwnP.alloc (h : OwnP w base v ps) (o : Obj) : OwnP (w.alloc o) base v ps := h.later ((Below.refl w.heap.size w).alloc (Nat.le_refl _) o) (Nat.le_refl _)
theorem OwnP.drew (h : OwnP w base v ps) : OwnP w.drew base v ps := h.later ((Below.refl w.heap.size w).drew) (Nat.le_refl _)
theorem OwnP.nil (w : World) (base : Nat) : OwnP w base (.slice none 0 0) [] := ⟨[], rfl, OwnG.nil pairE w base, by simp⟩
theorem OwnP.lower {b' : Nat} (h : OwnP w base v ps) (hb : b' ≤ base) : OwnP w b' v ps := by
  obtain ⟨ts, e, h, hr⟩ := h
  exact ⟨ts, e, h.base hb, hr⟩
theorem OwnP.lt (h : OwnP w base v ps) {k : Nat} (hk : v.ownBlock = some k) : base ≤ k ∧ k < w.heap.size := by
  obtain ⟨ts, e, h, hr⟩ := h
  exact h.lt hk
theorem ownP_empty (w : World) (base : Nat) (hb : base ≤ w.heap.size) : OwnP (w.alloc (.cells #[] 75)) base (.slice (some ⟨w.heap.size, 0, none⟩) 0 0) [] := ⟨[], rfl, ownG_empty pairE w base hb, by simp⟩

/-- A row that reads, while another block turns. -/
theorem RdE.aside {rv : Value} {r : List CellB} (h : RdE w rv r) {g : Option Nat} (hg : w.grownBy w' g) (hne : ∀ k, g = some k → offB rv r.length k) : RdE w' rv r := by
  refine RdG.same h fun i hi => ?_
  have hi' : i < r.length := by simpa using hi
  refine hg.block _ (RdG.block h cellOk hi) fun e => ?_
  have := hne _ e.symm i hi'
  exact this rfl
theorem RdE.offNew {rv : Value} {r : List CellB} (h : RdE w rv r) {g : Nat} (hg : w.heap.size ≤ g) : offB rv r.length g := fun i hi => by
  have := RdG.block h cellOk (i := i) (by simpa using hi)
  have e : (adr rv (i * cellE.n)).block = (adr rv (i * 2)).block := rfl
  omega

theorem RdE.lit {rv : Value} {r : List CellB} (h : RdE w rv r) : ∃ ao n cap, rv = .slice ao n cap := by
  obtain ⟨ao, cap, e, _⟩ := RdG.shape h
  exact ⟨_, _, _, e⟩
theorem rowv_one {rv : Value} {r : List CellB} (h : RdE w rv r) : rv.oneCell' = true := by
  obtain ⟨ao, cap, e, _⟩ := RdG.shape h
  rw [e]; rfl
theorem triV_one {t : TriB} (h : RdE w t.1 t.2.1) : ∀ z ∈ triV t, z.oneCell' = true := by
  intro z hz
  simp [triV] at hz
  rcases hz with rfl | rfl
  · exact rowv_one h
  · rfl

theorem rows_after {v' : Value} {ts : List TriB} (hr : ∀ t ∈ ts, RdE w t.1 t.2.1 ∧ ∀ g, v.ownBlock = some g → offB t.1 t.2.1.length g) (hg : w.grownBy w' v.ownBlock)
    (hv : v'.ownBlock = v.ownBlock ∨ ∀ g, v'.ownBlock = some g → w.heap.size ≤ g) : ∀ t ∈ ts, RdE w' t.1 t.2.1 ∧ ∀ g, v'.ownBlock = some g → offB t.1 t.2.1.length g := fun t ht => by
  obtain ⟨h1, h2⟩ := hr t ht
  refine ⟨h1.aside hg h2, fun g hgv => ?_⟩
  rcases hv with e | hv
  · exact h2 g (by rw [← e]; exact hgv)
  · exact h1.offNew (hv g hgv)

/-- Rows behind an append to the slice of their pairs. -/
theorem rows_place {v' : Value} {ts : List TriB} (hr : ∀ t ∈ ts, RdE w t.1 t.2.1 ∧ ∀ g, v.ownBlock = some g → offB t.1 t.2.1.length g) (hg : w.grownBy w' v.ownBlock) (hp : Place w v v') :
    ∀ t ∈ ts, RdE w' t.1 t.2.1 ∧ ∀ g, v'.ownBlock = some g → offB t.1 t.2.1.length g := rows_after hr hg hp

/-- 'append(s, t...)' of pairs, one operation. -/
theorem wpP_appendAll {a : Act} {K : Act → World → Prop} {Q : Exit → Act → World → Prop} {dst : Option Tmp} {ty : TypeId} {pos : String} {aft : Array Edge} {s x : Operand} {gu : Option (Nat × Bool)}
    (base : Nat) (sv : Value) (hs : a.eval s = sv) (ho : OwnP w base sv ps) (xv : Value) (hx : a.eval x = xv) (us : List TriB) (hr : RdG pairE w xv (us.map triV)) (hrow : ∀ t ∈ us, RdE w t.1 t.2.1 ∧ ∀ g, sv.ownBlock = some g → offB t.1 t.2.1.length g)
    (hn : (ps.length + us.length) * 32 ≤ 140737488355328) (hbase : base ≤ w.heap.size)
    (B : Nat) (w0 : World) (hb : Below B w0 w) (hBb : B ≤ base)
    (h : ∀ v' w', OwnP w' base v' (ps ++ us.map (·.2)) → Below B w0 w' → w.grownBy w' sv.ownBlock → Place w sv v' → K (a.put dst v') w') :
    Oper.wp Tryz.prog ⟨dst, .call ⟨.builtin .append, #[s, x], #[27, 27]⟩, ty, pos, aft, gu⟩ a w K Q := by
  obtain ⟨ts, rfl, hg, hts⟩ := ho
  rw [List.length_map] at hn
  refine wpG_appendAll pairOk base sv hs hg xv hx hr ?_ (by rw [List.length_map, List.length_map]; exact hn) (by rw [List.length_map, List.length_map]; omega) hbase B w0 hb hBb (fun v' w' h1 h2 h3 h4 => h v' w' ⟨ts ++ us, by rw [List.map_append], by rw [List.map_append]; exact h1, ?_⟩ h2 h3 h4)
  · intro y hy
    obtain ⟨t, ht, rfl⟩ := List.mem_map.1 hy
    exact triV_one (hrow t ht).1
  · intro t ht
    have hall : ∀ t ∈ ts ++ us, RdE w t.1 t.2.1 ∧ ∀ g, sv.ownBlock = some g → offB t.1 t.2.1.length g := fun t ht => by
      rcases List.mem_append.1 ht with ht | ht
      · exact hts t ht
      · exact hrow t ht
    exact rows_place hall h3 h4 t ht

/-- 'append(s, t...)' of pairs: s the call's own, t any that reads and has no row in s's own block. -/
theorem wplP_appendAll {ops : Array Oper} {Q : Exit → Act → World → Prop} {rest : List Oper} {a : Act} {dst : Option Tmp} {ty : TypeId} {pos : String} {aft : Array Edge} {s x : Operand}
    (base : Nat) (sv : Value) (hs : a.eval s = sv) (ho : OwnP w base sv ps) (xv : Value) (hx : a.eval x = xv) (us : List TriB) (hr : RdG pairE w xv (us.map triV)) (hrow : ∀ t ∈ us, RdE w t.1 t.2.1 ∧ ∀ g, sv.ownBlock = some g → offB t.1 t.2.1.length g)
    (hn : (ps.length + us.length) * 32 ≤ 140737488355328) (hbase : base ≤ w.heap.size)
    (B : Nat) (w0 : World) (hb : Below B w0 w) (hBb : B ≤ base)
    (h : ∀ v' w', OwnP w' base v' (ps ++ us.map (·.2)) → Below B w0 w' → w.grownBy w' sv.ownBlock → Place w sv v' → wpList Tryz.prog ops Q rest (a.put dst v') w') :
    wpList Tryz.prog ops Q (⟨dst, .call ⟨.builtin .append, #[s, x], #[27, 27]⟩, ty, pos, aft, none⟩ :: rest) a w := by
  obtain ⟨ts, rfl, hg, hts⟩ := ho
  rw [List.length_map] at hn
  refine wplG_appendPl pairOk base sv hs hg xv hx hr ?_ (by rw [List.length_map, List.length_map]; exact hn) (by rw [List.length_map, List.length_map]; omega) hbase B w0 hb hBb (fun v' w' h1 h2 h3 h4 => h v' w' ⟨ts ++ us, by rw [List.map_append], by rw [List.map_append]; exact h1, ?_⟩ h2 h3 h4)
  · intro y hy
    obtain ⟨t, ht, rfl⟩ := List.mem_map.1 hy
    exact triV_one (hrow t ht).1
  · intro t ht
    have hall : ∀ t ∈ ts ++ us, RdE w t.1 t.2.1 ∧ ∀ g, sv.ownBlock = some g → offB t.1 t.2.1.length g := fun t ht => by
      rcases List.mem_append.1 ht with ht | ht
      · exact hts t ht
      · exact hrow t ht
    exact rows_place hall h3 h4 t ht

/-- 'append(s, api.Pair{row, weight})'. -/
theorem wplP_append {ops : Array Oper} {Q : Exit → Act → World → Prop} {rest : List Oper} {a : Act} {dst : Option Tmp} {ty : TypeId} {pos : String} {aft : Array Edge} {s x : Operand}
    (base : Nat) (sv : Value) (hs : a.eval s = sv) (ho : OwnP w base sv ps) (g : Nat) (rv : Value) (p : PairB) (hx : a.eval x = .slice (some ⟨g, 0, none⟩) 1 1) (hg : w.heap[g]? = some (.cells #[rv, .int .i64 p.2] 75 (0, 0)))
    (hr : RdE w rv p.1) (hoff : ∀ g, sv.ownBlock = some g → offB rv p.1.length g) (hn : (ps.length + 1) * 32 ≤ 140737488355328) (hbase : base ≤ w.heap.size)
    (B : Nat) (w0 : World) (hb : Below B w0 w) (hBb : B ≤ base)
    (h : ∀ v' w', OwnP w' base v' (ps ++ [p]) → Below B w0 w' → w.grownBy w' sv.ownBlock → Place w sv v' → wpList Tryz.prog ops Q rest (a.put dst v') w') :
    wpList Tryz.prog ops Q (⟨dst, .call ⟨.builtin .append, #[s, x], #[27, 27]⟩, ty, pos, aft, none⟩ :: rest) a w := by
  refine wplP_appendAll base sv hs ho _ hx [(rv, p)] (rdG_one pairOk _ rfl ⟨g, 0, none⟩ ⟨g, 0, rfl⟩ fun j z hj => ?_) (by simp; exact ⟨hr, hoff⟩) (by simpa using hn) hbase B w0 hb hBb h
  have e : Addr.add ⟨g, 0, none⟩ j = ⟨g, j, none⟩ := by simp only [Addr.add]; split <;> simp_all
  rw [e, cell_of_row _ _ _ _ _ _ hg]
  simpa [triV] using hj

/-- A slice of pairs that reads, beside a block of the call's own that lies behind all that there was. -/
theorem RdP.parts (h : RdP w v ps) : ∃ us : List TriB, ps = us.map (·.2) ∧ RdG pairE w v (us.map triV) ∧ (∀ t ∈ us, RdE w t.1 t.2.1) ∧ ∀ (w1 : World) (B : Nat), Below w.heap.size w w1 → ∀ sv : Value, (∀ g, sv.ownBlock = some g → w.heap.size ≤ g) →
    RdG pairE w1 v (us.map triV) ∧ ∀ t ∈ us, RdE w1 t.1 t.2.1 ∧ ∀ g, sv.ownBlock = some g → offB t.1 t.2.1.length g := by
  obtain ⟨ts, e, h1, h2⟩ := h
  refine ⟨ts, e, h1, h2, fun w1 B hb sv hsv => ⟨h1.later pairOk hb (Nat.le_refl _), fun t ht => ⟨(h2 t ht).later hb (Nat.le_refl _), fun g hg => (h2 t ht).offNew (hsv g hg)⟩⟩⟩

theorem cellVs_oneP (cs : List CellB) : ∀ x ∈ cs.map cellVs, ∀ u ∈ x, u.oneCell' = true := by
  intro x hx u hu
  obtain ⟨c, _, rfl⟩ := List.mem_map.1 hx
  simp [cellVs] at hu
  rcases hu with rfl | rfl <;> rfl
/-- 'append(s, t...)' of cells. -/
theorem wplE_appendAll {cs ds : List CellB} {ops : Array Oper} {Q : Exit → Act → World → Prop} {rest : List Oper} {a : Act} {dst : Option Tmp} {ty : TypeId} {pos : String} {aft : Array Edge} {s x : Operand}
    (base : Nat) (sv : Value) (hs : a.eval s = sv) (ho : OwnE w base sv cs) (xv : Value) (hx : a.eval x = xv) (hr : RdE w xv ds)
    (hn : (cs.length + ds.length) * 24 ≤ 140737488355328) (hbase : base ≤ w.heap.size)
    (B : Nat) (w0 : World) (hb : Below B w0 w) (hBb : B ≤ base)
    (h : ∀ v' w', OwnE w' base v' (cs ++ ds) → Below B w0 w' → w.grownBy w' sv.ownBlock → wpList Tryz.prog ops Q rest (a.put dst v') w') :
    wpList Tryz.prog ops Q (⟨dst, .call ⟨.builtin .append, #[s, x], #[73, 73]⟩, ty, pos, aft, none⟩ :: rest) a w :=
  wplG_appendAll (E := cellE) cellOk base sv hs ho xv hx hr (cellVs_oneP ds) (by rw [List.length_map, List.length_map]; exact hn) (by rw [List.length_map, List.length_map]; omega) hbase B w0 hb hBb
    (fun v' w' h1 h2 h3 => h v' w' (by unfold OwnE; rw [List.map_append]; exact h1) h2 h3)
theorem ownE_empty (w : World) (base : Nat) (hb : base ≤ w.heap.size) : OwnE (w.alloc (.cells #[] 71)) base (.slice (some ⟨w.heap.size, 0, none⟩) 0 0) [] := ownG_empty cellE w base hb
/-- A slice of the call's own lies behind what was there. -/
theorem OwnE.offB {cs : List CellB} (h : OwnE w base v cs) {g : Nat} (hg : g < base) : offB v cs.length g := fun i hi => by
  obtain ⟨⟨_, h2⟩, _⟩ := h
  rw [List.length_map] at h2
  rcases h2 with ⟨rfl, hn⟩ | ⟨g', cap, cur, rfl, hbg, _⟩
  · omega
  · have : (adr (.slice (some ⟨g', 0, none⟩) cs.length cap) (i * 2)).block = g' := by rw [adr_lit]
    omega

/-- 's[lo:hi]' of pairs. -/
theorem RdP.cut (h : RdP w v ps) (lo hi : Nat) (h1 : lo ≤ hi) (h2 : hi ≤ ps.length) :
    ∃ v', (∀ u, (Instr.slice 27 v (some (.int .i64 (lo : Int))) (some (.int .i64 (hi : Int))) none).run Tryz.prog u = .ok v' u) ∧ ∀ w', w.heap.size ≤ w'.heap.size → Below w.heap.size w w' → RdP w' v' ((ps.take hi).drop lo) := by
  obtain ⟨ts, rfl, hg, hr⟩ := h
  rw [List.length_map] at h2
  obtain ⟨v', e1, e2⟩ := RdG.cut pairOk hg lo hi h1 (by rw [List.length_map]; exact h2)
  refine ⟨v', e1, fun w' _ hb => ⟨(ts.take hi).drop lo, by rw [List.map_drop, List.map_take], by rw [List.map_drop, List.map_take]; exact e2 w' (hg.later pairOk hb (Nat.le_refl _)), fun t ht => (hr t (List.mem_of_mem_take (List.mem_of_mem_drop ht))).later hb (Nat.le_refl _)⟩⟩
theorem RdP.from (h : RdP w v ps) (lo : Nat) (h1 : lo ≤ ps.length) :
    ∃ v', (∀ u, (Instr.slice 27 v (some (.int .i64 (lo : Int))) none none).run Tryz.prog u = .ok v' u) ∧ ∀ w', Below w.heap.size w w' → RdP w' v' (ps.drop lo) := by
  obtain ⟨ts, rfl, hg, hr⟩ := h
  rw [List.length_map] at h1
  obtain ⟨v', e1, e2⟩ := RdG.from pairOk hg lo (by rw [List.length_map]; exact h1)
  refine ⟨v', e1, fun w' hb => ⟨ts.drop lo, by rw [List.map_drop], by rw [List.map_drop]; exact e2 w' (hg.later pairOk hb (Nat.le_refl _)), fun t ht => (hr t (List.mem_of_mem_drop ht)).later hb (Nat.le_refl _)⟩⟩
theorem RdP.upto (h : RdP w v ps) (hi : Nat) (h1 : hi ≤ ps.length) :
    ∃ v', (∀ u, (Instr.slice 27 v none (some (.int .i64 (hi : Int))) none).run Tryz.prog u = .ok v' u) ∧ ∀ w', Below w.heap.size w w' → RdP w' v' (ps.take hi) := by
  obtain ⟨ts, rfl, hg, hr⟩ := h
  rw [List.length_map] at h1
  obtain ⟨v', e1, e2⟩ := RdG.upto pairOk hg hi (by rw [List.length_map]; exact h1)
  refine ⟨v', e1, fun w' hb => ⟨ts.take hi, by rw [List.map_take], by rw [List.map_take]; exact e2 w' (hg.later pairOk hb (Nat.le_refl _)), fun t ht => (hr t (List.mem_of_mem_take ht)).later hb (Nat.le_refl _)⟩⟩
/-- What reads, appended to a slice of the call's own that lies behind it. -/
theorem RdP.app (h : RdP w v ps) : ∃ us : List TriB, us.map (·.2) = ps ∧ us.length = ps.length ∧ ∀ (w1 : World), Below w.heap.size w w1 → RdG pairE w1 v (us.map triV) ∧ ∀ sv : Value, (∀ g, sv.ownBlock = some g → w.heap.size ≤ g) → ∀ t ∈ us, RdE w1 t.1 t.2.1 ∧ ∀ g, sv.ownBlock = some g → offB t.1 t.2.1.length g := by
  obtain ⟨us, e, _, _, h3⟩ := h.parts
  refine ⟨us, e.symm, by rw [e, List.length_map], fun w1 hb => ⟨(h3 w1 0 hb (.slice none 0 0) (fun g hg => by cases hg)).1, fun sv hsv => (h3 w1 0 hb sv hsv).2⟩⟩
end

end Go.Proofs.YtokpphhmmcoeaaaGreatDoor


/-
  Pairs that a call has made: they, and all their rows, lie in blocks from base on.
-/
namespace Go.Proofs.YtokpphhmmcoeaaaGreatDoor
open Go.RowKit

/-- The row's value reads as r, and lies in blocks from base on. -/
def NewE (w : World) (base : Nat) (rv : Value) (r : List CellB) : Prop := RdE w rv r ∧ ∀ i, i < r.length → base ≤ (adr rv (i * 2)).block
def NewP (w : World) (base : Nat) (v : Value) (ps : List PairB) : Prop :=
  ∃ ts : List TriB, ps = ts.map (·.2) ∧ RdG pairE w v (ts.map triV) ∧ (∀ i, i < ts.length → base ≤ (adr v (i * 2)).block) ∧ ∀ t ∈ ts, NewE w base t.1 t.2.1
section
variable {w w' : World} {v rv : Value} {ps : List PairB} {r : List CellB} {base : Nat}
theorem NewP.rd (h : NewP w base v ps) : RdP w v ps := by
  obtain ⟨ts, e, h1, _, h3⟩ := h
  exact ⟨ts, e, h1, fun t ht => (h3 t ht).1⟩
theorem NewP.lower {b' : Nat} (h : NewP w base v ps) (hb : b' ≤ base) : NewP w b' v ps := by
  obtain ⟨ts, e, h1, h2, h3⟩ := h
  exact ⟨ts, e, h1, fun i hi => Nat.le_trans hb (h2 i hi), fun t ht => ⟨(h3 t ht).1, fun i hi => Nat.le_trans hb ((h3 t ht).2 i hi)⟩⟩
theorem NewP.later {B : Nat} (h : NewP w base v ps) (hb : Below B w w') (hB : w.heap.size ≤ B) : NewP w' base v ps := by
  obtain ⟨ts, e, h1, h2, h3⟩ := h
  exact ⟨ts, e, h1.later pairOk hb hB, h2, fun t ht => ⟨(h3 t ht).1.later hb hB, (h3 t ht).2⟩⟩
theorem NewE.only {S : Nat → Prop} (h : NewE w base rv r) (hO : Only S w w') (hq : ∀ q, base ≤ q → ¬ S q) : NewE w' base rv r := by
  refine ⟨RdG.same h.1 fun i hi => ?_, h.2⟩
  have hi' : i < r.length := by simpa using hi
  exact hO.block _ (RdG.block h.1 cellOk hi) (hq _ (h.2 i hi'))
theorem NewP.only {S : Nat → Prop} (h : NewP w base v ps) (hO : Only S w w') (hq : ∀ q, base ≤ q → ¬ S q) : NewP w' base v ps := by
  obtain ⟨ts, e, h1, h2, h3⟩ := h
  refine ⟨ts, e, RdG.same h1 fun i hi => ?_, h2, fun t ht => (h3 t ht).only hO hq⟩
  have hi' : i < ts.length := by simpa using hi
  exact hO.block _ (RdG.block h1 pairOk hi) (hq _ (h2 i hi'))
theorem NewP.nil (w : World) (base : Nat) : NewP w base (.slice none 0 0) [] := ⟨[], rfl, RdG.nil pairE w, fun i hi => absurd hi (by simp), fun t ht => absurd ht (by simp)⟩
end

end Go.Proofs.YtokpphhmmcoeaaaGreatDoor


/-
  slices.Clone, of pairs and of cells.
-/
namespace Go.Proofs.YtokpphhmmcoeaaaGreatDoor
open Go.RowKit

set_option maxHeartbeats 1000000 in
theorem cells_Clone (v : Value) (r : List CellB) (w : World) (h : RdE w v r) (hn : r.length * 24 ≤ 140737488351232) :
    Calls Tryz.prog 41 #[v] w fun e w' => ∃ v', e = .returned v' ∧ OwnE w' w.heap.size v' r ∧ Below w.heap.size w w' := by
  obtain ⟨ao, cap, hv, hcap, hnil, _⟩ := RdG.shape h
  generalize hgl : (r.map cellVs).length = n9 at hv hcap
  rw [List.length_map] at hgl
  cases ao with
  | none =>
    obtain rfl : cap = 0 := hnil rfl
    obtain rfl : n9 = 0 := by omega
    obtain rfl : r = [] := List.eq_nil_of_length_eq_zero hgl
    clear h hnil hcap hgl
    subst hv
    have hq := fun u : World => Lib.run_eql_slice_nil (P := Tryz.prog) u 73 71 none 0 0 0 0 Tryz.underlying73
    go_enter Tryz.func41, Tryz.ntmps41
    go_wp2
    go_ret
    exact ⟨_, rfl, OwnE.nil _ _, Below.refl _ _⟩
  | some ad =>
    subst hv
    have HR := Lib.hid (h.later ((Below.refl w.heap.size w).alloc (Nat.le_refl _) (.cells #[] 71)) (Nat.le_refl _))
    have HO := Lib.hid (ownE_empty w w.heap.size (Nat.le_refl _))
    have HB := Lib.hid ((Below.refl w.heap.size w).alloc (Nat.le_refl _) (.cells #[] 71))
    clear h hnil hcap hgl
    have hq := fun u : World => Lib.run_eql_slice_nil (P := Tryz.prog) u 73 71 (some ad) n9 cap 0 0 Tryz.underlying73
    go_enter Tryz.func41, Tryz.ntmps41
    go_wp2_with (with_reducible refine wplE_appendAll w.heap.size _ ?hs HO.out _ ?hx HR.out ?hn ?hbase w.heap.size w HB.out (Nat.le_refl _) ?_)
    case hs => rfl
    case hx => rfl
    case hn => simp; omega
    case hbase => simp
    intro v4 w4 ho4 hb4 _
    rw [List.nil_append] at ho4
    have HO4 := Lib.hid ho4
    have HB4 := Lib.hid hb4
    clear ho4 hb4
    go_wp2
    go_ret
    exact ⟨_, rfl, HO4.out, HB4.out⟩

/-- 'append(s, t...)' of pairs, by their cells. -/
theorem wplT_appendAllP {w : World} {cs ds : List (List Value)} {ops : Array Oper} {Q : Exit → Act → World → Prop} {rest : List Oper} {a : Act} {dst : Option Tmp} {ty : TypeId} {pos : String} {aft : Array Edge} {s x : Operand}
    (base : Nat) (sv : Value) (hs : a.eval s = sv) (ho : OwnG pairE w base sv cs) (xv : Value) (hx : a.eval x = xv) (hr : RdG pairE w xv ds) (hone : ∀ x ∈ ds, ∀ u ∈ x, u.oneCell' = true)
    (hn : (cs.length + ds.length) * 32 ≤ 140737488355328) (hbase : base ≤ w.heap.size)
    (B : Nat) (w0 : World) (hb : Below B w0 w) (hBb : B ≤ base)
    (h : ∀ v' w', OwnG pairE w' base v' (cs ++ ds) → Below B w0 w' → w.grownBy w' sv.ownBlock → wpList Tryz.prog ops Q rest (a.put dst v') w') :
    wpList Tryz.prog ops Q (⟨dst, .call ⟨.builtin .append, #[s, x], #[27, 27]⟩, ty, pos, aft, none⟩ :: rest) a w :=
  wplG_appendAll (E := pairE) pairOk base sv hs ho xv hx hr hone hn (by omega) hbase B w0 hb hBb h

set_option maxHeartbeats 1000000 in
theorem pairs_Clone (v : Value) (us : List TriB) (w : World) (h : RdG pairE w v (us.map triV)) (hr : ∀ t ∈ us, RdE w t.1 t.2.1) (hn : us.length * 32 ≤ 140737488351360) :
    Calls Tryz.prog 36 #[v] w fun e w' => ∃ v', e = .returned v' ∧ OwnG pairE w' w.heap.size v' (us.map triV) ∧ Below w.heap.size w w' := by
  obtain ⟨ao, cap, hv, hcap, hnil, _⟩ := RdG.shape h
  generalize hgl : (us.map triV).length = n9 at hv hcap
  rw [List.length_map] at hgl
  cases ao with
  | none =>
    obtain rfl : cap = 0 := hnil rfl
    obtain rfl : n9 = 0 := by omega
    obtain rfl : us = [] := List.eq_nil_of_length_eq_zero hgl
    clear h hnil hcap hgl
    subst hv
    have hq := fun u : World => Lib.run_eql_slice_nil (P := Tryz.prog) u 27 75 none 0 0 0 0 Tryz.underlying27
    go_enter Tryz.func36, Tryz.ntmps36
    go_wp2
    go_ret
    exact ⟨_, rfl, OwnG.nil _ _ _, Below.refl _ _⟩
  | some ad =>
    subst hv
    have HR := Lib.hid (RdG.later h pairOk ((Below.refl w.heap.size w).alloc (Nat.le_refl _) (.cells #[] 75)) (Nat.le_refl _))
    have H1 := Lib.hid (show ∀ x ∈ us.map triV, ∀ u ∈ x, u.oneCell' = true from fun x hx u hu => by
      obtain ⟨t, ht, rfl⟩ := List.mem_map.1 hx
      exact triV_one (hr t ht) u hu)
    have HO := Lib.hid (show OwnG pairE (w.alloc (.cells #[] 75)) w.heap.size (.slice (some ⟨w.heap.size, 0, none⟩) 0 0) [] from ownG_empty pairE w w.heap.size (Nat.le_refl _))
    have HB := Lib.hid ((Below.refl w.heap.size w).alloc (Nat.le_refl _) (.cells #[] 75))
    clear h hnil hcap hgl
    have hq := fun u : World => Lib.run_eql_slice_nil (P := Tryz.prog) u 27 75 (some ad) n9 cap 0 0 Tryz.underlying27
    go_enter Tryz.func36, Tryz.ntmps36
    go_wp2_with (with_reducible refine wplT_appendAllP w.heap.size _ ?hs HO.out _ ?hx HR.out H1.out ?hn ?hbase w.heap.size w HB.out (Nat.le_refl _) ?_)
    case hs => rfl
    case hx => rfl
    case hn => simp; omega
    case hbase => simp
    intro v4 w4 ho4 hb4 _
    rw [List.nil_append] at ho4
    have HO4 := Lib.hid ho4
    have HB4 := Lib.hid hb4
    clear ho4 hb4
    go_wp2
    go_ret
    exact ⟨_, rfl, HO4.out, HB4.out⟩

end Go.Proofs.YtokpphhmmcoeaaaGreatDoor


/-
  slices.Grow and slices.Concat, of pairs.
-/
namespace Go.Proofs.YtokpphhmmcoeaaaGreatDoor
open Go.RowKit

/-- 'append(nil, make([]api.Pair, n)...)', n at least one: new places, all empty. -/
theorem wplP_zeros {w : World} {ops : Array Oper} {Q : Exit → Act → World → Prop} {rest : List Oper} {a : Act} {dst : Option Tmp} {ty : TypeId} {pos : String} {aft : Array Edge} {s x : Operand}
    (n : Nat) (hs : a.eval s = .slice none 0 0) (hx : a.eval x = .int .i64 (n : Int)) (h0 : 0 < n) (hn : n * 32 ≤ 140737488355328)
    (h : ∀ cap (c : Array Value), n ≤ cap → cap ≤ maxLen → c.size = cap * 2 → wpList Tryz.prog ops Q rest (a.put dst (.slice (some ⟨w.heap.size, 0, none⟩) n cap)) (w.drew.alloc (.cells c 75))) :
    wpList Tryz.prog ops Q (⟨dst, .call ⟨.builtin .append, #[s, x], #[27, 3]⟩, ty, pos, aft, none⟩ :: rest) a w := by
  obtain ⟨i0, hi, hz0, hz1, hz2⟩ := info_parts pairOk.info
  have hz1' : i0.size = 2 := hz1
  have hz2' : i0.bytes = 32 := hz2
  refine Lib.wpList_append_run w rfl s x _ _ rfl _ _ hs hx _ _ (Lib.run_append_nil_zeros w 27 3 ty 75 i0 pairE.zero .i64 .i64 Tryz.underlying27 Tryz.underlying3 hi hz0 n h0 (by omega) (by omega) (by rw [hz2']; omega)) ?_
  refine h _ _ (grownCap_ge w n 0 _) (grownCap_le_maxLen w n 0 _ (by unfold maxLen; omega)) ?_
  have hge := grownCap_ge w n 0 75
  have hc : pairE.zero.cells.size = 2 := rfl
  rw [Array.size_append, size_zeroCells, size_zeroCells, hc]
  omega

set_option maxHeartbeats 1000000 in
theorem pairs_Grow (n : Nat) (hn : n * 32 ≤ 140737488355328) (w : World) :
    Calls Tryz.prog 116 #[.slice none 0 0, .int .i64 (n : Int)] w fun e w' => ∃ v, e = .returned v ∧ OwnG pairE w' w.heap.size v [] ∧ Below w.heap.size w w' := by
  have h9 : n ≤ 140737488355328 := by omega
  by_cases h0 : n = 0
  · subst h0
    go_enter Tryz.func116, Tryz.ntmps116
    go_wp2
    go_ret
    exact ⟨_, rfl, OwnG.nil _ _ _, Below.refl _ _⟩
  · have hpos : decide ((0 : Int) < (n : Int)) = true := decide_eq_true (by omega)
    go_enter Tryz.func116, Tryz.ntmps116
    go_wp2_with (with_reducible refine wplP_zeros n ?hs ?hx ?h0 ?hn ?_)
    case hs => rfl
    case hx => rfl
    case h0 => omega
    case hn => omega
    intro cap c h1 h2 h3
    have HO := Lib.hid (show OwnG pairE (w.drew.alloc (.cells c 75)) w.heap.size (.slice (some ⟨w.heap.size, 0, none⟩) 0 cap) [] from
      ⟨⟨rfl, .inr ⟨w.heap.size, cap, c, rfl, Nat.le_refl _, heap_alloc_new w.drew _, by simp, h2, h3, by simp⟩⟩, by simp, by simp⟩)
    have HB := Lib.hid ((Below.refl w.heap.size w).drew.alloc (Nat.le_refl _) (.cells c 75))
    have h4 : cap ≤ 9223372036854775807 := by unfold maxLen at h2; omega
    clear h2 h3
    go_wp2
    go_ret
    exact ⟨_, rfl, HO.out, HB.out⟩

/-- Slices of pairs, in a slice. -/
def slsE : Elt := ⟨53, 27, 1, 24, .slice none 0 0⟩
theorem slsOk : slsE.Ok := ⟨Tryz.underlying53, by kernel_rfl, by kernel_rfl, rfl, by decide⟩
theorem rdS_two (w : World) (va vb : Value) : RdG slsE (w.alloc (.cells #[va, vb] 27)) (.slice (some ⟨w.heap.size, 0, none⟩) 2 2) [[va], [vb]] := by
  have hg := heap_alloc_new w (.cells #[va, vb] 27)
  refine ⟨⟨_, _, rfl, by simp, (by intro h; cases h), fun _ => ⟨_, _, rfl⟩⟩, fun i hi j u hj => ?_, by simp [slsE], by simp⟩
  rw [adr_lit, cell_of_row _ _ _ _ _ _ hg]
  obtain rfl | rfl : i = 0 ∨ i = 1 := by simp at hi; omega
  · cases j with
    | zero => simpa [slsE] using hj
    | succ j => simp at hj
  · cases j with
    | zero => simpa [slsE] using hj
    | succ j => simp at hj
theorem slsAt {w : World} {v va vb : Value} (h : RdG slsE w v [[va], [vb]]) (i : Nat) (hi : i < 2) : ∃ b o, (∀ u, (Instr.indexAt 53 v (.int .i64 (i : Int))).run Tryz.prog u = .ok (.pointer (some ⟨b, o, none⟩)) u) ∧ w.cell? ⟨b, o, none⟩ = some (if i = 0 then va else vb) ∧ b < w.heap.size := by
  have hx := RdG.idx h slsOk i hi
  obtain ⟨b, o, ha, hc⟩ := RdG.at h (i := i) hi
  rw [ha] at hx
  have hc0 := hc 0 (if i = 0 then va else vb) (by obtain rfl | rfl : i = 0 ∨ i = 1 := by omega
                                                  all_goals rfl)
  exact ⟨b, o, hx, hc0, World.block_lt_of_cell? w _ hc0⟩

/-- How many there are in the first k of two. -/
def upto2 (n m k : Nat) : Nat := if k = 0 then 0 else if k = 1 then n else n + m
def upto2L (a b : List TriB) (k : Nat) : List TriB := if k = 0 then [] else if k = 1 then a else a ++ b

set_option maxHeartbeats 4000000 in
theorem pairs_Concat (v va vb : Value) (a b : List TriB) (w : World) (hv : RdG slsE w v [[va], [vb]]) (ha : RdG pairE w va (a.map triV)) (hb : RdG pairE w vb (b.map triV)) (hra : ∀ t ∈ a, RdE w t.1 t.2.1) (hrb : ∀ t ∈ b, RdE w t.1 t.2.1) (hn : (a.length + b.length) * 32 ≤ 140737488355328) :
    Calls Tryz.prog 98 #[v] w fun e w' => ∃ v', e = .returned v' ∧ OwnG pairE w' w.heap.size v' ((a ++ b).map triV) ∧ Below w.heap.size w w' := by
  have hl := RdG.len hv slsOk
  have hla : ∀ u, (Builtin.len_ #[27] 3 #[va]).run Tryz.prog u = .ok (.int .i64 (a.length : Int)) u := by
    have := RdG.len ha pairOk
    rw [List.length_map] at this
    exact this
  have hlb : ∀ u, (Builtin.len_ #[27] 3 #[vb]).run Tryz.prog u = .ok (.int .i64 (b.length : Int)) u := by
    have := RdG.len hb pairOk
    rw [List.length_map] at this
    exact this
  obtain ⟨n, hnn⟩ : ∃ n, n = a.length := ⟨_, rfl⟩
  obtain ⟨m, hmm⟩ : ∃ m, m = b.length := ⟨_, rfl⟩
  have HVV := Lib.hid hv
  obtain ⟨b0, o0, hi0, hc0, hl0⟩ := slsAt hv 0 (by omega)
  obtain ⟨b1, o1, hi1, hc1, hl1⟩ := slsAt hv 1 (by omega)
  rw [if_pos rfl] at hc0
  rw [if_neg (by omega)] at hc1
  rw [← hnn] at hla hn
  rw [← hmm] at hlb hn
  have HA := Lib.hid ha
  have HB := Lib.hid hb
  have HRA := Lib.hid hra
  have HRB := Lib.hid hrb
  have H1A := Lib.hid (show ∀ x ∈ a.map triV, ∀ u ∈ x, u.oneCell' = true from fun x hx u hu => by
    obtain ⟨t, ht, rfl⟩ := List.mem_map.1 hx
    exact triV_one (hra t ht) u hu)
  have H1B := Lib.hid (show ∀ x ∈ b.map triV, ∀ u ∈ x, u.oneCell' = true from fun x hx u hu => by
    obtain ⟨t, ht, rfl⟩ := List.mem_map.1 hx
    exact triV_one (hrb t ht) u hu)
  have HN := Lib.hid hnn
  have HM := Lib.hid hmm
  have GR := Lib.hid (fun (k : Nat) (hk : k * 32 ≤ 140737488355328) (wz : World) => pairs_Grow k hk wz)
  have hl2 : ∀ u, (Builtin.len_ #[53] 3 #[v]).run Tryz.prog u = .ok (.int .i64 2) u := hl
  clear hv ha hb hra hrb hnn hmm hl
  go_enter Tryz.func98, Tryz.ntmps98
  go_wp2
  go_loopw [3, 11] (fun x i wr => ∃ k : Nat, k ≤ 2 ∧ i = .int .i64 k ∧ x = .int .i64 (upto2 n m k : Nat) ∧ w = wr) (fun _ i _ => 2 - (intOf i).toNat)
  case atStart => exact ⟨0, by omega, rfl, rfl, rfl⟩
  case round =>
    obtain ⟨k, hk, rfl, rfl, rfl⟩ := hrel
    obtain rfl | rfl | rfl : k = 0 ∨ k = 1 ∨ k = 2 := by omega
    · rw [show upto2 n m 0 = 0 from rfl, show ((0 : Nat) : Int) = 0 from rfl] at *
      go_wp2
      go_roundw
      case rel => exact ⟨1, by omega, rfl, by show Value.int IntKind.i64 _ = Value.int IntKind.i64 _; rfl, trivial⟩
      case measure => simp [intOf]
    · rw [show upto2 n m 1 = n from rfl, show ((1 : Nat) : Int) = 1 from rfl] at *
      go_wp2
      go_roundw
      case rel => exact ⟨2, by omega, rfl, by show Value.int IntKind.i64 _ = Value.int IntKind.i64 ((n + m : Nat) : Int); push_cast; rfl, trivial⟩
      case measure => simp [intOf]
    · rw [show upto2 n m 2 = n + m from rfl, show ((2 : Nat) : Int) = 2 from rfl] at *
      go_wp2_with fail
      refine (GR.out (n + m) (by omega) _).mono ?_
      rintro e w1 ⟨v1, rfl, ho1, hb1⟩
      have HO1 := Lib.hid ho1
      have HB1 := Lib.hid hb1
      clear ho1 hb1 GR
      go_wp2
      go_loopw [6, 27] (fun tv i wq => ∃ (k : Nat) (tx : Value), tx = tv ∧ k ≤ 2 ∧ i = .int .i64 k ∧ Hid (OwnG pairE wq w.heap.size tx ((upto2L a b k).map triV)) ∧ Hid (Below w.heap.size w wq)) (fun _ i _ => 2 - (intOf i).toNat)
      case atStart => exact ⟨0, _, rfl, by omega, rfl, HO1, HB1⟩
      case round =>
        clear HO1 HB1
        obtain ⟨k, tx, rfl, hk, rfl, HO, HBB⟩ := hrel
        obtain rfl | rfl | rfl : k = 0 ∨ k = 1 ∨ k = 2 := by omega
        · rw [show ((0 : Nat) : Int) = 0 from rfl] at *
          have hc2 := (HBB.out.cell (p := ⟨b0, o0, none⟩) hl0).trans hc0
          have HR := Lib.hid (RdG.later HA.out pairOk HBB.out (Nat.le_refl _))
          have HO2 := Lib.hid (show OwnG pairE wr w.heap.size tx (([] : List TriB).map triV) from HO.out)
          have hs2 := HBB.out.size
          clear HO
          go_wp2_with (with_reducible refine wplT_appendAllP w.heap.size _ ?hs HO2.out _ ?hx HR.out H1A.out ?hn ?hbase w.heap.size w HBB.out (Nat.le_refl _) ?_)
          case hs => rfl
          case hx => rfl
          case hn => simp; rw [← HN.out]; omega
          case hbase => omega
          intro v4 w4 ho4 hb4 _
          have HO4 := Lib.hid (show OwnG pairE w4 w.heap.size v4 ((upto2L a b 1).map triV) from by
            rw [← List.map_append] at ho4; exact ho4)
          have HB4 := Lib.hid hb4
          clear ho4 hb4 HO2 HR
          go_wp2
          go_roundw
          case rel => exact ⟨1, _, rfl, by omega, rfl, HO4, HB4⟩
          case measure => simp [intOf]
        · rw [show ((1 : Nat) : Int) = 1 from rfl] at *
          have hc2 := (HBB.out.cell (p := ⟨b1, o1, none⟩) hl1).trans hc1
          have HR := Lib.hid (RdG.later HB.out pairOk HBB.out (Nat.le_refl _))
          have HO2 := Lib.hid (show OwnG pairE wr w.heap.size tx ((a : List TriB).map triV) from HO.out)
          have hs2 := HBB.out.size
          clear HO
          go_wp2_with (with_reducible refine wplT_appendAllP w.heap.size _ ?hs HO2.out _ ?hx HR.out H1B.out ?hn ?hbase w.heap.size w HBB.out (Nat.le_refl _) ?_)
          case hs => rfl
          case hx => rfl
          case hn => simp; rw [← HN.out, ← HM.out]; omega
          case hbase => omega
          intro v4 w4 ho4 hb4 _
          have HO4 := Lib.hid (show OwnG pairE w4 w.heap.size v4 ((upto2L a b 2).map triV) from by
            rw [← List.map_append] at ho4; exact ho4)
          have HB4 := Lib.hid hb4
          clear ho4 hb4 HO2 HR
          go_wp2
          go_roundw
          case rel => exact ⟨2, _, rfl, by omega, rfl, HO4, HB4⟩
          case measure => simp [intOf]
        · rw [show ((2 : Nat) : Int) = 2 from rfl] at *
          go_wp2
          go_ret
          exact ⟨_, rfl, HO.out, HBB.out⟩

end Go.Proofs.YtokpphhmmcoeaaaGreatDoor


/-
  An example's schema of two columns, and a row of it.
-/
namespace Go.Proofs.YtokpphhmmcoeaaaGreatDoor
open Go.RowKit

theorem flat_twoE (cs : List CellB) : ∀ x ∈ cs.map cellVs, x.length = cellE.n := fun x hx => by
  obtain ⟨c, _, rfl⟩ := List.mem_map.1 hx; rfl
theorem one_twoE (cs : List CellB) : ∀ x ∈ cs.map cellVs, ∀ u ∈ x, u.oneCell' = true := fun x hx u hu => by
  obtain ⟨c, _, rfl⟩ := List.mem_map.1 hx
  simp [cellVs] at hu
  rcases hu with rfl | rfl <;> rfl

def ex10C : List ColB := [(⟨#[105, 100]⟩, 0), (⟨#[110, 97, 109, 101]⟩, 4)]
def ex10A : List CellB := [(1, ⟨#[]⟩), (0, ⟨#[97]⟩)]
theorem ex10C_ok : CS ex10C := by
  intro c hc
  unfold ex10C at hc
  simp at hc
  rcases hc with rfl | rfl <;> exact ⟨by decide, by decide, by decide⟩

theorem cell_Int10 (x : Int) (n : Nat) (hn : x % 18446744073709551616 = (n : Int)) (w : World) :
    Calls Tryz.prog 25 #[.int .i64 x] w fun e w' => e = .returned (.agg #[.int .u64 (n : Int), .string ⟨#[]⟩]) ∧ Below w.heap.size w w' := by
  have hw : IntKind.u64.wrap x = (n : Int) := by
    have : IntKind.u64.wrap x = x % 18446744073709551616 := by simp [IntKind.wrap, IntKind.signed, IntKind.bits]
    omega
  clear hn
  go_enter Tryz.func25, Tryz.ntmps25
  go_wp2
  refine bodyPost_ret (by simp [results, Tryz.results25, go_sem]; try rfl) rfl ?_
  exact ⟨rfl, (Below.refl _ _).alloc (Nat.le_refl _) _⟩

theorem rdC_two10 (w : World) (a b : ColB) : RdC (w.alloc (.cells #[.string a.1, .int .i64 a.2, .string b.1, .int .i64 b.2] 68)) (.slice (some ⟨w.heap.size, 0, none⟩) 2 2) [a, b] := by
  have ho := ownG_built colE w w.heap.size (Nat.le_refl _) ([a, b].map colV) (by intro x hx; obtain ⟨t, _, rfl⟩ := List.mem_map.1 hx; rfl) (by
    intro x hx u hu
    obtain ⟨t, ht, rfl⟩ := List.mem_map.1 hx
    simp [colV] at hu
    rcases hu with rfl | rfl <;> rfl) (by simp)
  exact OwnG.rd ho (by simp)
theorem rdE_two10 (w : World) (a b : CellB) : RdE (w.alloc (.cells #[.int .u64 (a.1 : Int), .string a.2, .int .u64 (b.1 : Int), .string b.2] 71)) (.slice (some ⟨w.heap.size, 0, none⟩) 2 2) [a, b] := by
  have ho := ownG_built cellE w w.heap.size (Nat.le_refl _) ([a, b].map cellVs) (flat_twoE _) (one_twoE _) (by simp)
  exact OwnG.rd ho (by simp)

end Go.Proofs.YtokpphhmmcoeaaaGreatDoor

