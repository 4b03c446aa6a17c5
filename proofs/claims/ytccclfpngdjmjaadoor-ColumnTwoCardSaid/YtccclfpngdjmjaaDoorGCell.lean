/-
  UTF-8 as the library's ValidString answers, and as the document's own answer tells it: they are one. No program.
-/
import Derived.Test.YtccclfpngdjmjaaDoorGBaseA
import Derived.Lib.ValidLaws
import Derived.Lib.DecodeNEq
import Derived.Test.YtccclfpngdjmjaaDoorShelf1
import Derived.Test.YtccclfpngdjmjaaDoorGCmp
import Derived.Lib.Bytealg
set_option linter.unusedVariables false
set_option linter.unusedSimpArgs false
set_option maxRecDepth 1000000
namespace Go.Proofs.YtccclfpngdjmjaaDoor
open Go.Lib

theorem cont_iff {b : Nat} (hb : b < 256) : b / 64 = 2 ↔ ¬ (b < 128 ∨ 191 < b) := by omega

theorem valid_two (c : UInt8) (r : List UInt8) (h : 194 ≤ c.toNat ∧ c.toNat < 224) (ih : ∀ r' : List UInt8, r'.length ≤ r.length → validD r' = utf8 r') : validD (c :: r) = utf8 (c :: r) := by
  have hl : leadOf c.toNat = some (1, c.toNat % 32, 128) := by unfold leadOf; rw [if_pos (by omega)]
  rw [validD_lead _ (by simp) (by simp; omega), utf8_lead (by omega) hl]
  simp only [List.getD_cons_zero, List.getD_cons_succ]
  rw [firstT_C2 h]
  rw [show accLo (2 / 16) = 128 from by decide, show accHi (2 / 16) = 191 from by decide, show (2 % 8 : Nat) = 2 from rfl]
  unfold checkN
  rw [if_pos rfl]
  match r with
  | [] => simp [utf8V]
  | b :: r' =>
    have hb : b.toNat < 256 := b.toNat_lt
    simp only [List.getD_cons_zero, List.length_cons, utf8V]
    by_cases h1 : b.toNat / 64 = 2
    · have h2 := (cont_iff hb).1 h1
      rw [if_neg (by omega), if_pos h1]
      simp only [List.drop_succ_cons, List.drop_zero]
      rw [show runeOK 128 (64 * (c.toNat % 32) + b.toNat % 64) = true from by unfold runeOK; simp; omega, Bool.true_and]
      exact ih r' (by simp)
    · have h2 := fun h => h1 ((cont_iff hb).2 h)
      rw [if_pos (by omega), if_neg h1]

theorem valid_three (c : UInt8) (r : List UInt8) (lo hi ft : Nat) (h : 224 ≤ c.toNat ∧ c.toNat < 240) (hft : firstT c.toNat = ft) (h8 : ft % 8 = 3) (hlo : accLo (ft / 16) = lo) (hhi : accHi (ft / 16) = hi)
    (hr : (lo = 128 ∧ hi = 191 ∧ c.toNat ≠ 224 ∧ c.toNat ≠ 237) ∨ (lo = 160 ∧ hi = 191 ∧ c.toNat = 224) ∨ (lo = 128 ∧ hi = 159 ∧ c.toNat = 237)) (ih : ∀ r' : List UInt8, r'.length ≤ r.length → validD r' = utf8 r') : validD (c :: r) = utf8 (c :: r) := by
  have hl : leadOf c.toNat = some (2, c.toNat % 16, 2048) := by unfold leadOf; rw [if_neg (by omega), if_pos (by omega)]
  rw [validD_lead _ (by simp) (by simp; omega), utf8_lead (by omega) hl]
  simp only [List.getD_cons_zero, List.getD_cons_succ]
  rw [hft, hlo, hhi, h8]
  unfold checkN
  rw [if_neg (by decide), if_pos rfl]
  match r with
  | [] => simp [utf8V]
  | [b] =>
    simp only [utf8V, List.length_cons, List.length_nil]
    rw [if_pos (.inl (by omega))]
    by_cases h1 : b.toNat / 64 = 2
    · rw [if_pos h1]
    · rw [if_neg h1]
  | b :: d :: r' =>
    have hb : b.toNat < 256 := b.toNat_lt
    have hd : d.toNat < 256 := d.toNat_lt
    simp only [List.getD_cons_zero, List.getD_cons_succ, List.length_cons, utf8V]
    by_cases h1 : b.toNat / 64 = 2
    · by_cases h2 : d.toNat / 64 = 2
      · rw [if_pos h1, if_pos h2]
        simp only [List.drop_succ_cons, List.drop_zero]
        by_cases h3 : b.toNat < lo ∨ hi < b.toNat
        · rw [if_pos (by omega)]
          rw [show runeOK 2048 (64 * (64 * (c.toNat % 16) + b.toNat % 64) + d.toNat % 64) = false from by unfold runeOK; simp; omega, Bool.false_and]
        · rw [if_neg (by omega)]
          rw [show runeOK 2048 (64 * (64 * (c.toNat % 16) + b.toNat % 64) + d.toNat % 64) = true from by unfold runeOK; simp; omega, Bool.true_and]
          exact ih r' (by simp; omega)
      · rw [if_pos h1, if_neg h2, if_pos (by omega)]
    · rw [if_neg h1, if_pos (by omega)]

theorem valid_four (c : UInt8) (r : List UInt8) (lo hi ft : Nat) (h : 240 ≤ c.toNat ∧ c.toNat < 245) (hft : firstT c.toNat = ft) (h8 : ft % 8 = 4) (hlo : accLo (ft / 16) = lo) (hhi : accHi (ft / 16) = hi)
    (hr : (lo = 128 ∧ hi = 191 ∧ c.toNat ≠ 240 ∧ c.toNat ≠ 244) ∨ (lo = 144 ∧ hi = 191 ∧ c.toNat = 240) ∨ (lo = 128 ∧ hi = 143 ∧ c.toNat = 244)) (ih : ∀ r' : List UInt8, r'.length ≤ r.length → validD r' = utf8 r') : validD (c :: r) = utf8 (c :: r) := by
  have hl : leadOf c.toNat = some (3, c.toNat % 8, 65536) := by unfold leadOf; rw [if_neg (by omega), if_neg (by omega), if_pos (by omega)]
  rw [validD_lead _ (by simp) (by simp; omega), utf8_lead (by omega) hl]
  simp only [List.getD_cons_zero, List.getD_cons_succ]
  rw [hft, hlo, hhi, h8]
  unfold checkN
  rw [if_neg (by decide), if_neg (by decide), if_pos rfl]
  match r with
  | [] => simp [utf8V]
  | [b] =>
    simp only [utf8V, List.length_cons, List.length_nil]
    rw [if_pos (.inl (by omega))]
    by_cases h1 : b.toNat / 64 = 2
    · rw [if_pos h1]
    · rw [if_neg h1]
  | [b, d] =>
    simp only [utf8V, List.length_cons, List.length_nil]
    rw [if_pos (.inl (by omega))]
    by_cases h1 : b.toNat / 64 = 2
    · by_cases h2 : d.toNat / 64 = 2
      · rw [if_pos h1, if_pos h2]
      · rw [if_pos h1, if_neg h2]
    · rw [if_neg h1]
  | b :: d :: g :: r' =>
    have hb : b.toNat < 256 := b.toNat_lt
    have hd : d.toNat < 256 := d.toNat_lt
    have hg : g.toNat < 256 := g.toNat_lt
    simp only [List.getD_cons_zero, List.getD_cons_succ, List.length_cons, utf8V]
    by_cases h1 : b.toNat / 64 = 2
    · by_cases h2 : d.toNat / 64 = 2
      · by_cases h4 : g.toNat / 64 = 2
        · rw [if_pos h1, if_pos h2, if_pos h4]
          simp only [List.drop_succ_cons, List.drop_zero]
          by_cases h3 : b.toNat < lo ∨ hi < b.toNat
          · rw [if_pos (by omega)]
            rw [show runeOK 65536 (64 * (64 * (64 * (c.toNat % 8) + b.toNat % 64) + d.toNat % 64) + g.toNat % 64) = false from by unfold runeOK; simp; omega, Bool.false_and]
          · rw [if_neg (by omega)]
            rw [show runeOK 65536 (64 * (64 * (64 * (c.toNat % 8) + b.toNat % 64) + d.toNat % 64) + g.toNat % 64) = true from by unfold runeOK; simp; omega, Bool.true_and]
            exact ih r' (by simp; omega)
        · rw [if_pos h1, if_pos h2, if_neg h4, if_pos (by omega)]
      · rw [if_pos h1, if_neg h2, if_pos (by omega)]
    · rw [if_neg h1, if_pos (by omega)]

theorem utf8_valid_to : ∀ (k : Nat) (l : List UInt8), l.length ≤ k → validD l = utf8 l
  | _, [], _ => by rw [validD_nil, utf8_nil]
  | 0, c :: r, h => by simp at h
  | k + 1, c :: r, h => by
    have hk : r.length ≤ k := by simpa using h
    have ih : ∀ r' : List UInt8, r'.length ≤ r.length → validD r' = utf8 r' := fun r' hr => utf8_valid_to k r' (by omega)
    have hc : c.toNat < 256 := c.toNat_lt
    by_cases h0 : c.toNat < 128
    · rw [validD_cons c r h0, utf8_low h0]; exact ih r (Nat.le_refl _)
    · by_cases h1 : c.toNat < 194
      · rw [validD_lead _ (by simp) (by simp; omega), utf8_none (by omega) (by unfold leadOf; rw [if_neg (by omega), if_neg (by omega), if_neg (by omega)])]
        simp only [List.getD_cons_zero]
        rw [show firstT c.toNat = 241 from by simp [firstT, show ¬ c.toNat < 128 by omega, h1]]
        rfl
      · by_cases h2 : c.toNat < 224
        · exact valid_two c r ⟨by omega, h2⟩ ih
        · by_cases h3 : c.toNat < 240
          · by_cases e0 : c.toNat = 224
            · exact valid_three c r 160 191 19 ⟨by omega, h3⟩ (firstT_E0 e0) rfl (by decide) (by decide) (.inr (.inl ⟨rfl, rfl, e0⟩)) ih
            · by_cases e1 : c.toNat = 237
              · exact valid_three c r 128 159 35 ⟨by omega, h3⟩ (firstT_ED e1) rfl (by decide) (by decide) (.inr (.inr ⟨rfl, rfl, e1⟩)) ih
              · exact valid_three c r 128 191 3 ⟨by omega, h3⟩ (firstT_E1 (by omega)) rfl (by decide) (by decide) (.inl ⟨rfl, rfl, e0, e1⟩) ih
          · by_cases h4 : c.toNat < 245
            · by_cases e0 : c.toNat = 240
              · exact valid_four c r 144 191 52 ⟨by omega, h4⟩ (firstT_F0 e0) rfl (by decide) (by decide) (.inr (.inl ⟨rfl, rfl, e0⟩)) ih
              · by_cases e1 : c.toNat = 244
                · exact valid_four c r 128 143 68 ⟨by omega, h4⟩ (firstT_F4 e1) rfl (by decide) (by decide) (.inr (.inr ⟨rfl, rfl, e1⟩)) ih
                · exact valid_four c r 128 191 4 ⟨by omega, h4⟩ (firstT_F1 (by omega)) rfl (by decide) (by decide) (.inl ⟨rfl, rfl, e0, e1⟩) ih
            · rw [validD_lead _ (by simp) (by simp; omega), utf8_none (by omega) (by unfold leadOf; rw [if_neg (by omega), if_neg (by omega), if_neg (by omega)])]
              simp only [List.getD_cons_zero]
              rw [show firstT c.toNat = 241 from by unfold firstT; rw [if_neg (by omega), if_neg (by omega), if_neg (by omega), if_neg (by omega), if_neg (by omega), if_neg (by omega), if_neg (by omega), if_neg (by omega), if_neg (by omega), if_neg (by omega)]]
              rfl

theorem utf8_valid (l : List UInt8) : validD l = utf8 l := utf8_valid_to l.length l (Nat.le_refl _)

end Go.Proofs.YtccclfpngdjmjaaDoor


/-
  Package cell: Check and Compare, with what they call of the library (utf8.ValidString, strings.Compare).
-/
namespace Go.Proofs.YtccclfpngdjmjaaDoor
open Go.RowKit Go.Shelf

/-- The library's tables of UTF-8 lie as its initialisers lay them. -/
def Tabs (w : World) : Prop := Lib.Utf8Tabs (Tryd.laysValid_ren.g 3) (Tryd.laysValid_ren.g 4) w
theorem Tabs.later {w w' : World} (h : Tabs w) (hb : Below w.heap.size w w') : Tabs w' := Utf8Tabs_below h hb

theorem RdS.dl {s : ByteArray} {l : List UInt8} (h : RdS s l) : s.data.toList = l := by rw [h.eq]

theorem lib_Valid (s : ByteArray) (l : List UInt8) (w : World) (h : RdS s l) (hT : Tabs w) :
    Calls Tryd.prog 62 #[.string s] w fun e w' => e = .returned (.bool (utf8 l)) ∧ Below w.heap.size w w' := by
  have c : Calls Tryd.prog 62 #[.string s] w _ := Any.utf8_ValidString Tryd.laysValid s w (by rw [h.eq]; have := h.small; simp [ByteArray.size]; omega) hT
  rw [h.dl, utf8_valid] at c
  exact c

/-- Is the cell of the kind, but for its length? -/
def isOfC (kind : Int) (num : Nat) (l : List UInt8) : Bool :=
  if kind = 3 then decide (num = 0) else if kind = 4 then decide (num = 0) && utf8 l else if kind = 2 then l.isEmpty && decide (num ≤ 1) else l.isEmpty

set_option maxHeartbeats 2000000 in
theorem cell_isOf (kind : Int) (hk : 0 ≤ kind ∧ kind ≤ 5) (num : Nat) (s : ByteArray) (l : List UInt8) (w : World) (h : RdS s l) (hT : Tabs w) :
    Calls Tryd.prog 44 #[.int .i64 kind, cellV num s] w fun e w' => e = .returned (.bool (isOfC kind num l)) ∧ Below w.heap.size w w' := by
  have hne : s.toList.isEmpty = l.isEmpty := by rw [h.toList]
  have HB : Below w.heap.size w (w.alloc (.cells #[.int .u64 (num : Int), .string s] 44)) := (Below.refl _ _).alloc (Nat.le_refl _) _
  unfold cellV
  obtain rfl | rfl | rfl | rfl | rfl | rfl : kind = 0 ∨ kind = 1 ∨ kind = 2 ∨ kind = 3 ∨ kind = 4 ∨ kind = 5 := by omega
  · rw [show isOfC 0 num l = l.isEmpty from rfl]
    cases hl : l.isEmpty with
    | true =>
      rw [hl] at hne
      go_enter Tryd.func44, Tryd.ntmps44
      go_wp2
      go_ret
      exact ⟨rfl, HB⟩
    | false =>
      rw [hl] at hne
      go_enter Tryd.func44, Tryd.ntmps44
      go_wp2
      go_ret
      exact ⟨rfl, HB⟩
  · rw [show isOfC 1 num l = l.isEmpty from rfl]
    cases hl : l.isEmpty with
    | true =>
      rw [hl] at hne
      go_enter Tryd.func44, Tryd.ntmps44
      go_wp2
      go_ret
      exact ⟨rfl, HB⟩
    | false =>
      rw [hl] at hne
      go_enter Tryd.func44, Tryd.ntmps44
      go_wp2
      go_ret
      exact ⟨rfl, HB⟩
  · rw [show isOfC 2 num l = (l.isEmpty && decide (num ≤ 1)) from rfl]
    cases hl : l.isEmpty with
    | true =>
      rw [hl] at hne
      by_cases h1 : num ≤ 1
      · have hd : decide ((num : Int) ≤ 1) = true := decide_eq_true (by omega)
        rw [decide_eq_true h1]
        go_enter Tryd.func44, Tryd.ntmps44
        go_wp2
        go_ret
        exact ⟨rfl, HB⟩
      · have hd : decide ((num : Int) ≤ 1) = false := decide_eq_false (by omega)
        rw [decide_eq_false h1]
        go_enter Tryd.func44, Tryd.ntmps44
        go_wp2
        go_ret
        exact ⟨rfl, HB⟩
    | false =>
      rw [hl] at hne
      go_enter Tryd.func44, Tryd.ntmps44
      go_wp2
      go_ret
      exact ⟨rfl, HB⟩
  · rw [show isOfC 3 num l = decide (num = 0) from rfl]
    by_cases h1 : num = 0
    · subst h1
      go_enter Tryd.func44, Tryd.ntmps44
      go_wp2
      go_ret
      exact ⟨rfl, HB⟩
    · have hd : ((num : Int) == 0) = false := by simp; omega
      rw [decide_eq_false h1]
      go_enter Tryd.func44, Tryd.ntmps44
      go_wp2
      go_ret
      exact ⟨rfl, HB⟩
  · rw [show isOfC 4 num l = (decide (num = 0) && utf8 l) from rfl]
    by_cases h1 : num = 0
    · subst h1
      rw [show decide ((0 : Nat) = 0) = true from rfl, Bool.true_and]
      have c := lib_Valid s l _ h (hT.later HB)
      cases hu : utf8 l with
      | true =>
        rw [hu] at c
        go_enter Tryd.func44, Tryd.ntmps44
        go_wp2_with fail
        refine c.mono ?_
        rintro e w1 ⟨rfl, hb⟩
        have HB2 := HB.trans (hb.mono HB.size)
        clear hb HB hu
        go_wp2; go_ret; exact ⟨rfl, HB2⟩
      | false =>
        rw [hu] at c
        go_enter Tryd.func44, Tryd.ntmps44
        go_wp2_with fail
        refine c.mono ?_
        rintro e w1 ⟨rfl, hb⟩
        have HB2 := HB.trans (hb.mono HB.size)
        clear hb HB hu
        go_wp2; go_ret; exact ⟨rfl, HB2⟩
    · have hd : ((num : Int) == 0) = false := by simp; omega
      rw [decide_eq_false h1]
      go_enter Tryd.func44, Tryd.ntmps44
      go_wp2
      go_ret
      exact ⟨rfl, HB⟩
  · rw [show isOfC 5 num l = l.isEmpty from rfl]
    cases hl : l.isEmpty with
    | true =>
      rw [hl] at hne
      go_enter Tryd.func44, Tryd.ntmps44
      go_wp2
      go_ret
      exact ⟨rfl, HB⟩
    | false =>
      rw [hl] at hne
      go_enter Tryd.func44, Tryd.ntmps44
      go_wp2
      go_ret
      exact ⟨rfl, HB⟩

theorem checkC_isOf (kind : Int) (num : Nat) (l : List UInt8) (hk : 0 ≤ kind ∧ kind ≤ 5) : checkC kind num l = if isOfC kind num l = true then (if 256 < l.length then 7 else 0) else 11 := by
  unfold checkC
  rw [if_neg (by omega)]
  obtain rfl | rfl | rfl | rfl | rfl | rfl : kind = 0 ∨ kind = 1 ∨ kind = 2 ∨ kind = 3 ∨ kind = 4 ∨ kind = 5 := by omega
  · rw [show isOfC 0 num l = l.isEmpty from rfl]; cases l <;> simp
  · rw [show isOfC 1 num l = l.isEmpty from rfl]; cases l <;> simp
  · rw [show isOfC 2 num l = (l.isEmpty && decide (num ≤ 1)) from rfl]
    cases l with
    | nil => by_cases h : num ≤ 1 <;> simp [h] <;> omega
    | cons a r => simp
  · rw [show isOfC 3 num l = decide (num = 0) from rfl]; by_cases h : num = 0 <;> simp [h]
  · rw [show isOfC 4 num l = (decide (num = 0) && utf8 l) from rfl]; by_cases h : num = 0 <;> cases hu : utf8 l <;> simp [h]
  · rw [show isOfC 5 num l = l.isEmpty from rfl]; cases l <;> simp

def tabTop : Nat := max (Tryd.laysValid_ren.g 3) (Tryd.laysValid_ren.g 4) + 1
theorem tabs_set {w : World} {p : Addr} (h : Tabs w) (hp : tabTop ≤ p.block) (u : Value) : Tabs (w.setCell p u) := by
  have hb : Below tabTop w (w.setCell p u) := (Below.refl _ _).setCell hp u
  have g3 : Tryd.laysValid_ren.g 3 < tabTop := by unfold tabTop; omega
  have g4 : Tryd.laysValid_ren.g 4 < tabTop := by unfold tabTop; omega
  exact ⟨fun c hc => (World.cell?_of_block (hb.block _ g3)).trans (h.1 c hc), fun i hi => ⟨(World.cell?_of_block (hb.block _ g4)).trans (h.2 i hi).1, (World.cell?_of_block (hb.block _ g4)).trans (h.2 i hi).2⟩⟩
theorem tabs_lt {w : World} (h : Tabs w) : tabTop ≤ w.heap.size := by
  have g3 := World.block_lt_of_cell? w _ (h.1 0 (by omega))
  have g4 := World.block_lt_of_cell? w _ (h.2 0 (by omega)).1
  simp only at g3 g4
  unfold tabTop
  omega

theorem tabs_only {w w' : World} (h : Tabs w) (hk : ∀ j, j < tabTop → w'.heap[j]? = w.heap[j]?) : Tabs w' := by
  have g3 : Tryd.laysValid_ren.g 3 < tabTop := by unfold tabTop; omega
  have g4 : Tryd.laysValid_ren.g 4 < tabTop := by unfold tabTop; omega
  exact ⟨fun c hc => (World.cell?_of_block (hk _ g3)).trans (h.1 c hc), fun i hi => ⟨(World.cell?_of_block (hk _ g4)).trans (h.2 i hi).1, (World.cell?_of_block (hk _ g4)).trans (h.2 i hi).2⟩⟩

theorem keepB {w w' : World} {b : Nat} {o : Obj} (h : w.heap[b]? = some o) (hb : Below w.heap.size w w') : w'.heap[b]? = some o := by
  have hlt : b < w.heap.size := by
    rcases Nat.lt_or_ge b w.heap.size with h' | h'
    · exact h'
    · rw [Array.getElem?_eq_none h'] at h; cases h
  exact (hb.block b hlt).trans h

theorem two_cells {w : World} {b : Nat} {x y : Value} {T : TypeId} (q : w.heap[b]? = some (.cells #[x, y] T (0, 0))) (u v : Value) :
    (w.setCell ⟨b, 0, none⟩ u).cell? ⟨b, 0, none⟩ = some u ∧ ((w.setCell ⟨b, 0, none⟩ u).setCell ⟨b, 1, none⟩ v).cell? ⟨b, 1, none⟩ = some v ∧ ((w.setCell ⟨b, 0, none⟩ u).setCell ⟨b, 1, none⟩ v).cell? ⟨b, 0, none⟩ = some u := by
  have h1 := block_setCell (k := 0) q u
  have h2 := block_setCell (k := 1) h1 v
  exact ⟨new_cellC (i := 0) h1 rfl, new_cellC (i := 1) h2 rfl, new_cellC (i := 0) h2 rfl⟩

theorem new1 (w : World) (x : Obj) : (w.alloc x).heap.size = w.heap.size + 1 ∧ (w.alloc x).heap[w.heap.size]? = some x ∧ Below w.heap.size w (w.alloc x) :=
  ⟨by simp, heap_alloc_new _ _, (Below.refl _ w).alloc (Nat.le_refl _) _⟩

set_option maxHeartbeats 2000000 in
theorem cell_Check (kind : Int) (num : Nat) (s : ByteArray) (l : List UInt8) (w : World) (h : RdS s l) (hT : Tabs w) :
    Calls Tryd.prog 29 #[.int .i64 kind, cellV num s] w fun e w' => e = .returned (.int .i64 (checkC kind num l : Nat)) ∧ Below w.heap.size w w' := by
  obtain ⟨N0, N1, N2⟩ := new1 w (.cells #[.int .u64 (num : Int), .string s] 44)
  obtain ⟨w0, hw0⟩ : ∃ w0, w0 = w.alloc (.cells #[.int .u64 (num : Int), .string s] 44) := ⟨_, rfl⟩
  rw [← hw0] at N0 N1 N2
  have a0 := new_cellC (i := 0) N1 rfl
  have a1 := new_cellC (i := 1) N1 rfl
  have hcv : ∀ n u, cellV n u = .agg #[.int .u64 (n : Int), .string u] := fun _ _ => rfl
  have hlen := h.len
  by_cases hk : 0 ≤ kind ∧ kind ≤ 5
  · have hC := checkC_isOf kind num l hk
    have hD := cell_isOf kind hk num s l w0 h (hT.later N2)
    go_enter Tryd.func29, Tryd.ntmps29
    go_wp2_with fail
    rw [← hw0]
    refine (cell_isKind kind w0).mono ?_
    rintro e w1 ⟨rfl, rfl⟩
    rw [decide_eq_true hk]
    clear hw0
    go_wp2_with fail
    refine hD.mono ?_
    rintro e w2 ⟨rfl, hb⟩
    have HB := Lib.hid (N2.trans (hb.mono N2.size))
    have s1 := (hb.block _ (by omega)).trans N1
    have b1 := new_cellC (i := 1) s1 rfl
    clear hb N1 N2 a0 a1 hD s1
    cases hi : isOfC kind num l with
    | false =>
      rw [hi] at hC
      have HC := Lib.hid hC
      clear hi hC
      go_wp2
      go_ret
      exact ⟨by rw [HC.out]; rfl, HB.out⟩
    | true =>
      rw [hi] at hC
      by_cases hg : 256 < l.length
      · have hd : decide ((l.length : Int) > 256) = true := decide_eq_true (by omega)
        rw [if_pos rfl, if_pos hg] at hC
        have HC := Lib.hid hC
        clear hi hC hg
        go_wp2
        go_ret
        exact ⟨by rw [HC.out]; rfl, HB.out⟩
      · have hd : decide ((l.length : Int) > 256) = false := decide_eq_false (by omega)
        rw [if_pos rfl, if_neg hg] at hC
        have HC := Lib.hid hC
        clear hi hC hg
        go_wp2
        go_ret
        exact ⟨by rw [HC.out]; rfl, HB.out⟩
  · rw [show checkC kind num l = 10 from by unfold checkC; rw [if_pos (by omega)]]
    go_enter Tryd.func29, Tryd.ntmps29
    go_wp2_with fail
    rw [← hw0]
    refine (cell_isKind kind w0).mono ?_
    rintro e w1 ⟨rfl, rfl⟩
    rw [decide_eq_false hk]
    clear hw0
    go_wp2
    go_ret
    exact ⟨rfl, N2⟩

end Go.Proofs.YtccclfpngdjmjaaDoor

