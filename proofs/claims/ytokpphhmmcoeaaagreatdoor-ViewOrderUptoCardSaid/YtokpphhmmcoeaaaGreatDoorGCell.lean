/-
  UTF-8 as the library's ValidString answers, and as the document's own answer tells it: they are one. No program.
-/
import Derived.Test.YtokpphhmmcoeaaaGreatDoorGBaseA
import Derived.Lib.ValidLaws
import Derived.Lib.DecodeNEq
import Derived.Test.YtokpphhmmcoeaaaGreatDoorShelf1
import Derived.Test.YtokpphhmmcoeaaaGreatDoorGCmp
import Derived.Lib.Bytealg
import Derived.Test.YtokpphhmmcoeaaaGreatDoorGBaseB
set_option linter.unusedVariables false
set_option linter.unusedSimpArgs false
set_option maxRecDepth 1000000
namespace Go.Proofs.YtokpphhmmcoeaaaGreatDoor
open Go.Lib

theorem cont_iff {b : Nat} (hb : b < 256) : b / 64 = 2 ↔ ¬ (b < 128 ∨ 191 < b) := by omega

theorem valid_two (c : UInt8) (r : List UInt8) (h : 194 ≤ c.toNat ∧ c.toNat < 224) (ih : ∀ r' : List UInt8, r'.length ≤ r.length → validD r' = utf8 r') : validD (c :: r) = utf8 (c :: r) := by
  have hl : leadOf c.toNat = some (1, c.toNat % 32, 128) := by unfold leadOf; rw [if_pos (by omega)]
  rw [validD_lead _ (by simp) (by simp; omega), utf8_lead (by omega) hl]
  simp only [List.getD_cons_zero, List.getD_cons_succ]
  rw [firstT_C2 h]
  rw [show accLo (2 / 16) = 128 from by decide, show accHi (2 / 16) = 191 from by decide, show (2 % 8 : Nat) = 2 from rfl]
  unfold checkN
  rw [if_pos rfl]
  match r with
  | [] => simp [utf8V]
  | b :: r' =>
    have hb : b.toNat < 256 := b.toNat_lt
    simp only [List.getD_cons_zero, List.length_cons, utf8V]
    by_cases h1 : b.toNat / 64 = 2
    · have h2 := (cont_iff hb).1 h1
      rw [if_neg (by omega), if_pos h1]
      simp only [List.drop_succ_cons, List.drop_zero]
      rw [show runeOK 128 (64 * (c.toNat % 32) + b.toNat % 64) = true from by unfold runeOK; simp; omega, Bool.true_and]
      exact ih r' (by simp)
    · have h2 := fun h => h1 ((cont_iff hb).2 h)
      rw [if_pos (by omega), if_neg h1]

theorem valid_three (c : UInt8) (r : List UInt8) (lo hi ft : Nat) (h : 224 ≤ c.toNat ∧ c.toNat < 240) (hft : firstT c.toNat = ft) (h8 : ft % 8 = 3) (hlo : accLo (ft / 16) = lo) (hhi : accHi (ft / 16) = hi)
    (hr : (lo = 128 ∧ hi = 191 ∧ c.toNat ≠ 224 ∧ c.toNat ≠ 237) ∨ (lo = 160 ∧ hi = 191 ∧ c.toNat = 224) ∨ (lo = 128 ∧ hi = 159 ∧ c.toNat = 237)) (ih : ∀ r' : List UInt8, r'.length ≤ r.length → validD r' = utf8 r') : validD (c :: r) = utf8 (c :: r) := by
  have hl : leadOf c.toNat = some (2, c.toNat % 16, 2048) := by unfold leadOf; rw [if_neg (by omega), if_pos (by omega)]
  rw [validD_lead _ (by simp) (by simp; omega), utf8_lead (by omega) hl]
  simp only [List.getD_cons_zero, List.getD_cons_succ]
  rw [hft, hlo, hhi, h8]
  unfold checkN
  rw [if_neg (by decide), if_pos rfl]
  match r with
  | [] => simp [utf8V]
  | [b] =>
    simp only [utf8V, List.length_cons, List.length_nil]
    rw [if_pos (.inl (by omega))]
    by_cases h1 : b.toNat / 64 = 2
    · rw [if_pos h1]
    · rw [if_neg h1]
  | b :: d :: r' =>
    have hb : b.toNat < 256 := b.toNat_lt
    have hd : d.toNat < 256 := d.toNat_lt
    simp only [List.getD_cons_zero, List.getD_cons_succ, List.length_cons, utf8V]
    by_cases h1 : b.toNat / 64 = 2
    · by_cases h2 : d.toNat / 64 = 2
      · rw [if_pos h1, if_pos h2]
        simp only [List.drop_succ_cons, List.drop_zero]
        by_cases h3 : b.toNat < lo ∨ hi < b.toNat
        · rw [if_pos (by omega)]
          rw [show runeOK 2048 (64 * (64 * (c.toNat % 16) + b.toNat % 64) + d.toNat % 64) = false from by unfold runeOK; simp; omega, Bool.false_and]
        · rw [if_neg (by omega)]
          rw [show runeOK 2048 (64 * (64 * (c.toNat % 16) + b.toNat % 64) + d.toNat % 64) = true from by unfold runeOK; simp; omega, Bool.true_and]
          exact ih r' (by simp; omega)
      · rw [if_pos h1, if_neg h2, if_pos (by omega)]
    · rw [if_neg h1, if_pos (by omega)]

theorem valid_four (c : UInt8) (r : List UInt8) (lo hi ft : Nat) (h : 240 ≤ c.toNat ∧ c.toNat < 245) (hft : firstT c.toNat = ft) (h8 : ft % 8 = 4) (hlo : accLo (ft / 16) = lo) (hhi : accHi (ft / 16) = hi)
    (hr : (lo = 128 ∧ hi = 191 ∧ c.toNat ≠ 240 ∧ c.toNat ≠ 244) ∨ (lo = 144 ∧ hi = 191 ∧ c.toNat = 240) ∨ (lo = 128 ∧ hi = 143 ∧ c.toNat = 244)) (ih : ∀ r' : List UInt8, r'.length ≤ r.length → validD r' = utf8 r') : validD (c :: r) = utf8 (c :: r) := by
  have hl : leadOf c.toNat = some (3, c.toNat % 8, 65536) := by unfold leadOf; rw [if_neg (by omega), if_neg (by omega), if_pos (by omega)]
  rw [validD_lead _ (by simp) (by simp; omega), utf8_lead (by omega) hl]
  simp only [List.getD_cons_zero, List.getD_cons_succ]
  rw [hft, hlo, hhi, h8]
  unfold checkN
  rw [if_neg (by decide), if_neg (by decide), if_pos rfl]
  match r with
  | [] => simp [utf8V]
  | [b] =>
    simp only [utf8V, List.length_cons, List.length_nil]
    rw [if_pos (.inl (by omega))]
    by_cases h1 : b.toNat / 64 = 2
    · rw [if_pos h1]
    · rw [if_neg h1]
  | [b, d] =>
    simp only [utf8V, List.length_cons, List.length_nil]
    rw [if_pos (.inl (by omega))]
    by_cases h1 : b.toNat / 64 = 2
    · by_cases h2 : d.toNat / 64 = 2
      · rw [if_pos h1, if_pos h2]
      · rw [if_pos h1, if_neg h2]
    · rw [if_neg h1]
  | b :: d :: g :: r' =>
    have hb : b.toNat < 256 := b.toNat_lt
    have hd : d.toNat < 256 := d.toNat_lt
    have hg : g.toNat < 256 := g.toNat_lt
    simp only [List.getD_cons_zero, List.getD_cons_succ, List.length_cons, utf8V]
    by_cases h1 : b.toNat / 64 = 2
    · by_cases h2 : d.toNat / 64 = 2
      · by_cases h4 : g.toNat / 64 = 2
        · rw [if_pos h1, if_pos h2, if_pos h4]
          simp only [List.drop_succ_cons, List.drop_zero]
          by_cases h3 : b.toNat < lo ∨ hi < b.toNat
          · rw [if_pos (by omega)]
            rw [show runeOK 65536 (64 * (64 * (64 * (c.toNat % 8) + b.toNat % 64) + d.toNat % 64) + g.toNat % 64) = false from by unfold runeOK; simp; omega, Bool.false_and]
          · rw [if_neg (by omega)]
            rw [show runeOK 65536 (64 * (64 * (64 * (c.toNat % 8) + b.toNat % 64) + d.toNat % 64) + g.toNat % 64) = true from by unfold runeOK; simp; omega, Bool.true_and]
            exact ih r' (by simp; omega)
        · rw [if_pos h1, if_pos h2, if_neg h4, if_pos (by omega)]
      · rw [if_pos h1, if_neg h2, if_pos (by omega)]
    · rw [if_neg h1, if_pos (by omega)]

theorem utf8_valid_to : ∀ (k : Nat) (l : List UInt8), l.length ≤ k → validD l = utf8 l
  | _, [], _ => by rw [validD_nil, utf8_nil]
  | 0, c :: r, h => by simp at h
  | k + 1, c :: r, h => by
    have hk : r.length ≤ k := by simpa using h
    have ih : ∀ r' : List UInt8, r'.length ≤ r.length → validD r' = utf8 r' := fun r' hr => utf8_valid_to k r' (by omega)
    have hc : c.toNat < 256 := c.toNat_lt
    by_cases h0 : c.toNat < 128
    · rw [validD_cons c r h0, utf8_low h0]; exact ih r (Nat.le_refl _)
    · by_cases h1 : c.toNat < 194
      · rw [validD_lead _ (by simp) (by simp; omega), utf8_none (by omega) (by unfold leadOf; rw [if_neg (by omega), if_neg (by omega), if_neg (by omega)])]
        simp only [List.getD_cons_zero]
        rw [show firstT c.toNat = 241 from by simp [firstT, show ¬ c.toNat < 128 by omega, h1]]
        rfl
      · by_cases h2 : c.toNat < 224
        · exact valid_two c r ⟨by omega, h2⟩ ih
        · by_cases h3 : c.toNat < 240
          · by_cases e0 : c.toNat = 224
            · exact valid_three c r 160 191 19 ⟨by omega, h3⟩ (firstT_E0 e0) rfl (by decide) (by decide) (.inr (.inl ⟨rfl, rfl, e0⟩)) ih
            · by_cases e1 : c.toNat = 237
              · exact valid_three c r 128 159 35 ⟨by omega, h3⟩ (firstT_ED e1) rfl (by decide) (by decide) (.inr (.inr ⟨rfl, rfl, e1⟩)) ih
              · exact valid_three c r 128 191 3 ⟨by omega, h3⟩ (firstT_E1 (by omega)) rfl (by decide) (by decide) (.inl ⟨rfl, rfl, e0, e1⟩) ih
          · by_cases h4 : c.toNat < 245
            · by_cases e0 : c.toNat = 240
              · exact valid_four c r 144 191 52 ⟨by omega, h4⟩ (firstT_F0 e0) rfl (by decide) (by decide) (.inr (.inl ⟨rfl, rfl, e0⟩)) ih
              · by_cases e1 : c.toNat = 244
                · exact valid_four c r 128 143 68 ⟨by omega, h4⟩ (firstT_F4 e1) rfl (by decide) (by decide) (.inr (.inr ⟨rfl, rfl, e1⟩)) ih
                · exact valid_four c r 128 191 4 ⟨by omega, h4⟩ (firstT_F1 (by omega)) rfl (by decide) (by decide) (.inl ⟨rfl, rfl, e0, e1⟩) ih
            · rw [validD_lead _ (by simp) (by simp; omega), utf8_none (by omega) (by unfold leadOf; rw [if_neg (by omega), if_neg (by omega), if_neg (by omega)])]
              simp only [List.getD_cons_zero]
              rw [show firstT c.toNat = 241 from by unfold firstT; rw [if_neg (by omega), if_neg (by omega), if_neg (by omega), if_neg (by omega), if_neg (by omega), if_neg (by omega), if_neg (by omega), if_neg (by omega), if_neg (by omega), if_neg (by omega)]]
              rfl

theorem utf8_valid (l : List UInt8) : validD l = utf8 l := utf8_valid_to l.length l (Nat.le_refl _)

end Go.Proofs.YtokpphhmmcoeaaaGreatDoor


/-
  Package cell: Check and Compare, with what they call of the library (utf8.ValidString, strings.Compare).
-/
namespace Go.Proofs.YtokpphhmmcoeaaaGreatDoor
open Go.RowKit Go.Shelf

/-- The library's tables of UTF-8 lie as its initialisers lay them. -/
def Tabs (w : World) : Prop := Lib.Utf8Tabs (Tryz.laysValid_ren.g 3) (Tryz.laysValid_ren.g 4) w
theorem Tabs.later {w w' : World} (h : Tabs w) (hb : Below w.heap.size w w') : Tabs w' := Utf8Tabs_below h hb

theorem RdS.dl {s : ByteArray} {l : List UInt8} (h : RdS s l) : s.data.toList = l := by rw [h.eq]

theorem lib_Valid (s : ByteArray) (l : List UInt8) (w : World) (h : RdS s l) (hT : Tabs w) :
    Calls Tryz.prog 124 #[.string s] w fun e w' => e = .returned (.bool (utf8 l)) ∧ Below w.heap.size w w' := by
  have c : Calls Tryz.prog 124 #[.string s] w _ := Any.utf8_ValidString Tryz.laysValid s w (by rw [h.eq]; have := h.small; simp [ByteArray.size]; omega) hT
  rw [h.dl, utf8_valid] at c
  exact c

theorem lib_Compare (s t : ByteArray) (l m : List UInt8) (w : World) (hs : RdS s l) (ht : RdS t m) :
    Calls Tryz.prog 95 #[.string s, .string t] w fun e w' => e = .returned (.int .i64 (Lib.compareBytes l m)) ∧ w' = w := by
  have c : Calls Tryz.prog 95 #[.string s, .string t] w _ := Any.strings_Compare Tryz.laysCompare s t w
  rw [hs.dl, ht.dl] at c
  exact c

/-- Is the cell of the kind, but for its length? -/
def isOfC (kind : Int) (num : Nat) (l : List UInt8) : Bool :=
  if kind = 3 then decide (num = 0) else if kind = 4 then decide (num = 0) && utf8 l else if kind = 2 then l.isEmpty && decide (num ≤ 1) else l.isEmpty

set_option maxHeartbeats 2000000 in
theorem cell_isOf (kind : Int) (hk : 0 ≤ kind ∧ kind ≤ 5) (num : Nat) (s : ByteArray) (l : List UInt8) (w : World) (h : RdS s l) (hT : Tabs w) :
    Calls Tryz.prog 110 #[.int .i64 kind, cellV num s] w fun e w' => e = .returned (.bool (isOfC kind num l)) ∧ Below w.heap.size w w' := by
  have hne : s.toList.isEmpty = l.isEmpty := by rw [h.toList]
  have HB : Below w.heap.size w (w.alloc (.cells #[.int .u64 (num : Int), .string s] 71)) := (Below.refl _ _).alloc (Nat.le_refl _) _
  unfold cellV
  obtain rfl | rfl | rfl | rfl | rfl | rfl : kind = 0 ∨ kind = 1 ∨ kind = 2 ∨ kind = 3 ∨ kind = 4 ∨ kind = 5 := by omega
  · rw [show isOfC 0 num l = l.isEmpty from rfl]
    cases hl : l.isEmpty with
    | true =>
      rw [hl] at hne
      go_enter Tryz.func110, Tryz.ntmps110
      go_wp2
      go_ret
      exact ⟨rfl, HB⟩
    | false =>
      rw [hl] at hne
      go_enter Tryz.func110, Tryz.ntmps110
      go_wp2
      go_ret
      exact ⟨rfl, HB⟩
  · rw [show isOfC 1 num l = l.isEmpty from rfl]
    cases hl : l.isEmpty with
    | true =>
      rw [hl] at hne
      go_enter Tryz.func110, Tryz.ntmps110
      go_wp2
      go_ret
      exact ⟨rfl, HB⟩
    | false =>
      rw [hl] at hne
      go_enter Tryz.func110, Tryz.ntmps110
      go_wp2
      go_ret
      exact ⟨rfl, HB⟩
  · rw [show isOfC 2 num l = (l.isEmpty && decide (num ≤ 1)) from rfl]
    cases hl : l.isEmpty with
    | true =>
      rw [hl] at hne
      by_cases h1 : num ≤ 1
      · have hd : decide ((num : Int) ≤ 1) = true := decide_eq_true (by omega)
        rw [decide_eq_true h1]
        go_enter Tryz.func110, Tryz.ntmps110
        go_wp2
        go_ret
        exact ⟨rfl, HB⟩
      · have hd : decide ((num : Int) ≤ 1) = false := decide_eq_false (by omega)
        rw [decide_eq_false h1]
        go_enter Tryz.func110, Tryz.ntmps110
        go_wp2
        go_ret
        exact ⟨rfl, HB⟩
    | false =>
      rw [hl] at hne
      go_enter Tryz.func110, Tryz.ntmps110
      go_wp2
      go_ret
      exact ⟨rfl, HB⟩
  · rw [show isOfC 3 num l = decide (num = 0) from rfl]
    by_cases h1 : num = 0
    · subst h1
      go_enter Tryz.func110, Tryz.ntmps110
      go_wp2
      go_ret
      exact ⟨rfl, HB⟩
    · have hd : ((num : Int) == 0) = false := by simp; omega
      rw [decide_eq_false h1]
      go_enter Tryz.func110, Tryz.ntmps110
      go_wp2
      go_ret
      exact ⟨rfl, HB⟩
  · rw [show isOfC 4 num l = (decide (num = 0) && utf8 l) from rfl]
    by_cases h1 : num = 0
    · subst h1
      rw [show decide ((0 : Nat) = 0) = true from rfl, Bool.true_and]
      have c := lib_Valid s l _ h (hT.later HB)
      cases hu : utf8 l with
      | true =>
        rw [hu] at c
        go_enter Tryz.func110, Tryz.ntmps110
        go_wp2_with fail
        refine c.mono ?_
        rintro e w1 ⟨rfl, hb⟩
        have HB2 := HB.trans (hb.mono HB.size)
        clear hb HB hu
        go_wp2; go_ret; exact ⟨rfl, HB2⟩
      | false =>
        rw [hu] at c
        go_enter Tryz.func110, Tryz.ntmps110
        go_wp2_with fail
        refine c.mono ?_
        rintro e w1 ⟨rfl, hb⟩
        have HB2 := HB.trans (hb.mono HB.size)
        clear hb HB hu
        go_wp2; go_ret; exact ⟨rfl, HB2⟩
    · have hd : ((num : Int) == 0) = false := by simp; omega
      rw [decide_eq_false h1]
      go_enter Tryz.func110, Tryz.ntmps110
      go_wp2
      go_ret
      exact ⟨rfl, HB⟩
  · rw [show isOfC 5 num l = l.isEmpty from rfl]
    cases hl : l.isEmpty with
    | true =>
      rw [hl] at hne
      go_enter Tryz.func110, Tryz.ntmps110
      go_wp2
      go_ret
      exact ⟨rfl, HB⟩
    | false =>
      rw [hl] at hne
      go_enter Tryz.func110, Tryz.ntmps110
      go_wp2
      go_ret
      exact ⟨rfl, HB⟩

theorem checkC_isOf (kind : Int) (num : Nat) (l : List UInt8) (hk : 0 ≤ kind ∧ kind ≤ 5) : checkC kind num l = if isOfC kind num l = true then (if 256 < l.length then 7 else 0) else 11 := by
  unfold checkC
  rw [if_neg (by omega)]
  obtain rfl | rfl | rfl | rfl | rfl | rfl : kind = 0 ∨ kind = 1 ∨ kind = 2 ∨ kind = 3 ∨ kind = 4 ∨ kind = 5 := by omega
  · rw [show isOfC 0 num l = l.isEmpty from rfl]; cases l <;> simp
  · rw [show isOfC 1 num l = l.isEmpty from rfl]; cases l <;> simp
  · rw [show isOfC 2 num l = (l.isEmpty && decide (num ≤ 1)) from rfl]
    cases l with
    | nil => by_cases h : num ≤ 1 <;> simp [h] <;> omega
    | cons a r => simp
  · rw [show isOfC 3 num l = decide (num = 0) from rfl]; by_cases h : num = 0 <;> simp [h]
  · rw [show isOfC 4 num l = (decide (num = 0) && utf8 l) from rfl]; by_cases h : num = 0 <;> cases hu : utf8 l <;> simp [h]
  · rw [show isOfC 5 num l = l.isEmpty from rfl]; cases l <;> simp

def tabTop : Nat := max (Tryz.laysValid_ren.g 3) (Tryz.laysValid_ren.g 4) + 1
theorem tabs_set {w : World} {p : Addr} (h : Tabs w) (hp : tabTop ≤ p.block) (u : Value) : Tabs (w.setCell p u) := by
  have hb : Below tabTop w (w.setCell p u) := (Below.refl _ _).setCell hp u
  have g3 : Tryz.laysValid_ren.g 3 < tabTop := by unfold tabTop; omega
  have g4 : Tryz.laysValid_ren.g 4 < tabTop := by unfold tabTop; omega
  exact ⟨fun c hc => (World.cell?_of_block (hb.block _ g3)).trans (h.1 c hc), fun i hi => ⟨(World.cell?_of_block (hb.block _ g4)).trans (h.2 i hi).1, (World.cell?_of_block (hb.block _ g4)).trans (h.2 i hi).2⟩⟩
theorem tabs_lt {w : World} (h : Tabs w) : tabTop ≤ w.heap.size := by
  have g3 := World.block_lt_of_cell? w _ (h.1 0 (by omega))
  have g4 := World.block_lt_of_cell? w _ (h.2 0 (by omega)).1
  simp only at g3 g4
  unfold tabTop
  omega

theorem tabs_only {w w' : World} (h : Tabs w) (hk : ∀ j, j < tabTop → w'.heap[j]? = w.heap[j]?) : Tabs w' := by
  have g3 : Tryz.laysValid_ren.g 3 < tabTop := by unfold tabTop; omega
  have g4 : Tryz.laysValid_ren.g 4 < tabTop := by unfold tabTop; omega
  exact ⟨fun c hc => (World.cell?_of_block (hk _ g3)).trans (h.1 c hc), fun i hi => ⟨(World.cell?_of_block (hk _ g4)).trans (h.2 i hi).1, (World.cell?_of_block (hk _ g4)).trans (h.2 i hi).2⟩⟩

theorem keepB {w w' : World} {b : Nat} {o : Obj} (h : w.heap[b]? = some o) (hb : Below w.heap.size w w') : w'.heap[b]? = some o := by
  have hlt : b < w.heap.size := by
    rcases Nat.lt_or_ge b w.heap.size with h' | h'
    · exact h'
    · rw [Array.getElem?_eq_none h'] at h; cases h
  exact (hb.block b hlt).trans h

theorem two_cells {w : World} {b : Nat} {x y : Value} {T : TypeId} (q : w.heap[b]? = some (.cells #[x, y] T (0, 0))) (u v : Value) :
    (w.setCell ⟨b, 0, none⟩ u).cell? ⟨b, 0, none⟩ = some u ∧ ((w.setCell ⟨b, 0, none⟩ u).setCell ⟨b, 1, none⟩ v).cell? ⟨b, 1, none⟩ = some v ∧ ((w.setCell ⟨b, 0, none⟩ u).setCell ⟨b, 1, none⟩ v).cell? ⟨b, 0, none⟩ = some u := by
  have h1 := block_setCell (k := 0) q u
  have h2 := block_setCell (k := 1) h1 v
  exact ⟨new_cellC (i := 0) h1 rfl, new_cellC (i := 1) h2 rfl, new_cellC (i := 0) h2 rfl⟩

theorem new1 (w : World) (x : Obj) : (w.alloc x).heap.size = w.heap.size + 1 ∧ (w.alloc x).heap[w.heap.size]? = some x ∧ Below w.heap.size w (w.alloc x) :=
  ⟨by simp, heap_alloc_new _ _, (Below.refl _ w).alloc (Nat.le_refl _) _⟩

set_option maxHeartbeats 2000000 in
theorem cell_Check (kind : Int) (num : Nat) (s : ByteArray) (l : List UInt8) (w : World) (h : RdS s l) (hT : Tabs w) :
    Calls Tryz.prog 89 #[.int .i64 kind, cellV num s] w fun e w' => e = .returned (.int .i64 (checkC kind num l : Nat)) ∧ Below w.heap.size w w' := by
  obtain ⟨N0, N1, N2⟩ := new1 w (.cells #[.int .u64 (num : Int), .string s] 71)
  obtain ⟨w0, hw0⟩ : ∃ w0, w0 = w.alloc (.cells #[.int .u64 (num : Int), .string s] 71) := ⟨_, rfl⟩
  rw [← hw0] at N0 N1 N2
  have a0 := new_cellC (i := 0) N1 rfl
  have a1 := new_cellC (i := 1) N1 rfl
  have hcv : ∀ n u, cellV n u = .agg #[.int .u64 (n : Int), .string u] := fun _ _ => rfl
  have hlen := h.len
  by_cases hk : 0 ≤ kind ∧ kind ≤ 5
  · have hC := checkC_isOf kind num l hk
    have hD := cell_isOf kind hk num s l w0 h (hT.later N2)
    go_enter Tryz.func89, Tryz.ntmps89
    go_wp2_with fail
    rw [← hw0]
    refine (cell_isKind kind w0).mono ?_
    rintro e w1 ⟨rfl, rfl⟩
    rw [decide_eq_true hk]
    clear hw0
    go_wp2_with fail
    refine hD.mono ?_
    rintro e w2 ⟨rfl, hb⟩
    have HB := Lib.hid (N2.trans (hb.mono N2.size))
    have s1 := (hb.block _ (by omega)).trans N1
    have b1 := new_cellC (i := 1) s1 rfl
    clear hb N1 N2 a0 a1 hD s1
    cases hi : isOfC kind num l with
    | false =>
      rw [hi] at hC
      have HC := Lib.hid hC
      clear hi hC
      go_wp2
      go_ret
      exact ⟨by rw [HC.out]; rfl, HB.out⟩
    | true =>
      rw [hi] at hC
      by_cases hg : 256 < l.length
      · have hd : decide ((l.length : Int) > 256) = true := decide_eq_true (by omega)
        rw [if_pos rfl, if_pos hg] at hC
        have HC := Lib.hid hC
        clear hi hC hg
        go_wp2
        go_ret
        exact ⟨by rw [HC.out]; rfl, HB.out⟩
      · have hd : decide ((l.length : Int) > 256) = false := decide_eq_false (by omega)
        rw [if_pos rfl, if_neg hg] at hC
        have HC := Lib.hid hC
        clear hi hC hg
        go_wp2
        go_ret
        exact ⟨by rw [HC.out]; rfl, HB.out⟩
  · rw [show checkC kind num l = 10 from by unfold checkC; rw [if_pos (by omega)]]
    go_enter Tryz.func89, Tryz.ntmps89
    go_wp2_with fail
    rw [← hw0]
    refine (cell_isKind kind w0).mono ?_
    rintro e w1 ⟨rfl, rfl⟩
    rw [decide_eq_false hk]
    clear hw0
    go_wp2
    go_ret
    exact ⟨rfl, N2⟩

end Go.Proofs.YtokpphhmmcoeaaaGreatDoor


/-
  Package cell: Compare.
-/
namespace Go.Proofs.YtokpphhmmcoeaaaGreatDoor
open Go.RowKit Go.Shelf

theorem compareBytes_eq : ∀ (l m : List UInt8), Lib.compareBytes l m = if Op.bytesLess l m = true then -1 else if Op.bytesLess m l = true then 1 else 0
  | [], [] => by simp [Lib.compareBytes, Op.bytesLess]
  | [], _ :: _ => by simp [Lib.compareBytes, Op.bytesLess]
  | _ :: _, [] => by simp [Lib.compareBytes, Op.bytesLess]
  | a :: r, b :: t => by
    have ih := compareBytes_eq r t
    unfold Lib.compareBytes Op.bytesLess
    by_cases h1 : a < b
    · have h2 : ¬ b < a := by simp only [UInt8.lt_iff_toNat_lt] at *; omega
      simp [h1, h2]
    · by_cases h2 : b < a
      · have h3 : a ≠ b := fun e => by subst e; exact h1 h2
        simp [h1, h2, h3]
      · have e : a = b := by
          have h3 : ¬ a.toNat < b.toNat := by rw [← UInt8.lt_iff_toNat_lt]; exact h1
          have h4 : ¬ b.toNat < a.toNat := by rw [← UInt8.lt_iff_toNat_lt]; exact h2
          exact UInt8.toNat_inj.1 (by omega)
        subst e
        simp [h1, ih]

theorem gw_cell {w : World} {b : Nat} {c : Array Value} {t : TypeId} {i : Nat} {u : Value} (h : w.heap[b]? = some (.cells c t (0, 0))) (hu : c[i]? = some u) (a : Ord.GW w.drew) : a.val.cell? ⟨b, i, none⟩ = some u := by
  have hlt : b < w.heap.size := by
    rcases Nat.lt_or_ge b w.heap.size with h' | h'
    · exact h'
    · rw [Array.getElem?_eq_none h'] at h; cases h
  exact new_cellC ((a.grew.block b hlt).trans h) hu

section
variable {x y : Nat} {l m : List UInt8}
theorem cmpC_num {kind : Int} (h1 : checkC kind x l = 0) (h2 : checkC kind y m = 0) : cmpC kind x l y m = if aheadK kind x l y m = true then -1 else if aheadK kind y m x l = true then 1 else 0 := by
  unfold cmpC
  rw [if_neg (by simp [h1, h2])]
theorem cmpC_0 (h1 : checkC 0 x l = 0) (h2 : checkC 0 y m = 0) : cmpC 0 x l y m = ordZ (wrap64 (x : Int)) (wrap64 (y : Int)) := by
  rw [cmpC_num h1 h2]; simp [aheadK, ordZ]
theorem cmpC_1 (h1 : checkC 1 x l = 0) (h2 : checkC 1 y m = 0) : cmpC 1 x l y m = ordZ (x : Int) (y : Int) := by
  rw [cmpC_num h1 h2]; simp [aheadK, ordZ]
theorem cmpC_2 (h1 : checkC 2 x l = 0) (h2 : checkC 2 y m = 0) : cmpC 2 x l y m = ordZ (x : Int) (y : Int) := by
  rw [cmpC_num h1 h2]; simp [aheadK, ordZ]
theorem cmpC_3 (h1 : checkC 3 x l = 0) (h2 : checkC 3 y m = 0) : cmpC 3 x l y m = Lib.compareBytes l m := by
  rw [cmpC_num h1 h2, compareBytes_eq]; rfl
theorem cmpC_4 (h1 : checkC 4 x l = 0) (h2 : checkC 4 y m = 0) : cmpC 4 x l y m = Lib.compareBytes l m := by
  rw [cmpC_num h1 h2, compareBytes_eq]; rfl
theorem cmpC_5 (h1 : checkC 5 x l = 0) (h2 : checkC 5 y m = 0) : cmpC 5 x l y m = ordZ (tkey x + 9223372036854775808) (tkey y + 9223372036854775808) := by
  rw [cmpC_num h1 h2]; simp [aheadK, ordZ]
end

set_option maxHeartbeats 8000000 in
theorem cell_Compare (kind : Int) (x y : Nat) (hx : x < 18446744073709551616) (hy : y < 18446744073709551616) (s t : ByteArray) (l m : List UInt8) (w : World) (hs : RdS s l) (ht : RdS t m) (hT : Tabs w) :
    Calls Tryz.prog 62 #[.int .i64 kind, cellV x s, cellV y t] w fun e w' => e = .returned (.int .i64 (cmpC kind x l y m)) ∧ Below w.heap.size w w' := by
  obtain ⟨N0, N1, N2, N3⟩ := new2 w (.cells #[.int .u64 (x : Int), .string s] 71) (.cells #[.int .u64 (y : Int), .string t] 71)
  obtain ⟨w0, hw0⟩ : ∃ w0, w0 = (w.alloc (.cells #[.int .u64 (x : Int), .string s] 71)).alloc (.cells #[.int .u64 (y : Int), .string t] 71) := ⟨_, rfl⟩
  rw [← hw0] at N0 N1 N2 N3
  have HB := Lib.hid N3
  have a0 := new_cellC (i := 0) N1 rfl
  have a1 := new_cellC (i := 1) N1 rfl
  have hC := cell_Check kind x s l w0 hs (hT.later N3)
  have hDD := fun (w1 : World) (h1 : Below w0.heap.size w0 w1) => cell_Check kind y t m w1 ht ((hT.later N3).later h1)
  have hcv : ∀ n u, cellV n u = .agg #[.int .u64 (n : Int), .string u] := fun _ _ => rfl
  clear N3 hT
  by_cases hcx : checkC kind x l = 0
  · by_cases hcy : checkC kind y m = 0
    · have hk6 := check_kind hcx
      obtain rfl | rfl | rfl | rfl | rfl | rfl : kind = 0 ∨ kind = 1 ∨ kind = 2 ∨ kind = 3 ∨ kind = 4 ∨ kind = 5 := by omega
      · rw [show cmpC 0 x l y m = ordZ (wrap64 (x : Int)) (wrap64 (y : Int)) from cmpC_0 hcx hcy]
        have HX := Lib.hid hcx
        have HY := Lib.hid hcy
        clear hcx hcy
        go_enter Tryz.func62, Tryz.ntmps62
        go_wp2_with fail
        rw [← hw0]
        clear hw0
        refine hC.mono ?_
        rintro e w1 ⟨rfl, hb1⟩
        rw [HX.out]
        have s0 := (hb1.block _ (by omega)).trans N1
        have s1 := (hb1.block _ (by omega)).trans N2
        have b0 := new_cellC (i := 0) s1 rfl
        have b1 := new_cellC (i := 1) s1 rfl
        have HB1 := Lib.hid (HB.out.trans (hb1.mono (by omega)))
        have hs1 := hb1.size
        have hD := hDD w1 hb1
        clear hb1 N1 N2 hC
        go_wp2_with fail
        refine hD.mono ?_
        rintro e w2 ⟨rfl, hb2⟩
        rw [HY.out]
        have t0 := (hb2.block _ (by omega)).trans s0
        have t1 := (hb2.block _ (by omega)).trans s1
        have c0 := new_cellC (i := 0) t0 rfl
        have c1 := new_cellC (i := 1) t0 rfl
        have d0 := new_cellC (i := 0) t1 rfl
        have d1 := new_cellC (i := 1) t1 rfl
        have HB2 := Lib.hid (HB1.out.trans (hb2.mono HB1.out.size))
        have hs2 := hb2.size
        clear hb2 s0 s1 b0 b1 hD hDD
        go_wp2_with fail
        have g0 := gw_cell (i := 0) t0 rfl
        have g1 := gw_cell (i := 1) t0 rfl
        have g2 := gw_cell (i := 0) t1 rfl
        have g3 := gw_cell (i := 1) t1 rfl
        refine OrdR.wp_region_ord Ord.way [(0, false), (2, false), (1, true), (3, true), (4, true), (5, false)] (by kernel_rfl) rfl (by kernel_rfl) (by kernel_rfl) (fun _ _ _ d _ h => by cases d <;> exact h) ?_
        refine OrdR.ord_still rfl rfl (by kernel_rfl) (fun K hK => ?_)
        go_big_quiet_op
        refine hK _ ?_; clear hK K
        refine OrdR.ord_still rfl rfl (by kernel_rfl) (fun K hK => ?_)
        go_big_quiet_op
        refine hK _ ?_; clear hK K
        refine OrdR.ord_loud rfl (by kernel_rfl) (fun K hK => ?_)
        go_big_op
        refine (cell_Signed x hx s _).mono ?_
        rintro e w3 ⟨rfl, hb3⟩
        have hsd : w2.drew.heap.size = w2.heap.size := rfl
        have t3 := (hb3.block _ (by omega)).trans t1
        have HB3 := Lib.hid (HB2.out.drew.trans (hb3.mono HB2.out.drew.size))
        have d2 := new_cellC (i := 0) t3 rfl
        have d3 := new_cellC (i := 1) t3 rfl
        have hs3 := hb3.size
        refine hK _ _ hb3 ?_
        clear hb3
        clear hK K
        refine OrdR.ord_loud rfl (by kernel_rfl) (fun K hK => ?_)
        go_big_op
        refine (cell_Signed y hy t _).mono ?_
        rintro e w4 ⟨rfl, hb4⟩
        have HB4 := Lib.hid (HB3.out.trans (hb4.mono HB3.out.size))
        refine hK _ _ hb4 ?_
        clear hb4
        clear hK K
        refine OrdR.ord_loud rfl (by kernel_rfl) (fun K hK => ?_)
        go_big_op
        refine (cmp_i64 _ _ _).mono ?_
        rintro e w5 ⟨rfl, rfl⟩
        refine hK _ _ (Ord.Grew.refl _) ?_
        clear hK K
        refine OrdR.ord_still rfl rfl (by kernel_rfl) (fun K hK => ?_)
        go_big_quiet_op
        refine hK _ ?_; clear hK K
        refine OrdR.ord_nil ?_
        go_wp2
        go_ret
        exact ⟨rfl, HB4.out⟩
      · rw [show cmpC 1 x l y m = ordZ (x : Int) (y : Int) from cmpC_1 hcx hcy]
        have HX := Lib.hid hcx
        have HY := Lib.hid hcy
        clear hcx hcy
        go_enter Tryz.func62, Tryz.ntmps62
        go_wp2_with fail
        rw [← hw0]
        clear hw0
        refine hC.mono ?_
        rintro e w1 ⟨rfl, hb1⟩
        rw [HX.out]
        have s0 := (hb1.block _ (by omega)).trans N1
        have s1 := (hb1.block _ (by omega)).trans N2
        have b0 := new_cellC (i := 0) s1 rfl
        have b1 := new_cellC (i := 1) s1 rfl
        have HB1 := Lib.hid (HB.out.trans (hb1.mono (by omega)))
        have hs1 := hb1.size
        have hD := hDD w1 hb1
        clear hb1 N1 N2 hC
        go_wp2_with fail
        refine hD.mono ?_
        rintro e w2 ⟨rfl, hb2⟩
        rw [HY.out]
        have t0 := (hb2.block _ (by omega)).trans s0
        have t1 := (hb2.block _ (by omega)).trans s1
        have c0 := new_cellC (i := 0) t0 rfl
        have c1 := new_cellC (i := 1) t0 rfl
        have d0 := new_cellC (i := 0) t1 rfl
        have d1 := new_cellC (i := 1) t1 rfl
        have HB2 := Lib.hid (HB1.out.trans (hb2.mono HB1.out.size))
        have hs2 := hb2.size
        clear hb2 s0 s1 b0 b1 hD hDD
        go_wp2_with fail
        refine (cmp_u64 _ _ _).mono ?_
        rintro e w3 ⟨rfl, rfl⟩
        go_wp2
        go_ret
        exact ⟨rfl, HB2.out⟩
      · rw [show cmpC 2 x l y m = ordZ (x : Int) (y : Int) from cmpC_2 hcx hcy]
        have HX := Lib.hid hcx
        have HY := Lib.hid hcy
        clear hcx hcy
        go_enter Tryz.func62, Tryz.ntmps62
        go_wp2_with fail
        rw [← hw0]
        clear hw0
        refine hC.mono ?_
        rintro e w1 ⟨rfl, hb1⟩
        rw [HX.out]
        have s0 := (hb1.block _ (by omega)).trans N1
        have s1 := (hb1.block _ (by omega)).trans N2
        have b0 := new_cellC (i := 0) s1 rfl
        have b1 := new_cellC (i := 1) s1 rfl
        have HB1 := Lib.hid (HB.out.trans (hb1.mono (by omega)))
        have hs1 := hb1.size
        have hD := hDD w1 hb1
        clear hb1 N1 N2 hC
        go_wp2_with fail
        refine hD.mono ?_
        rintro e w2 ⟨rfl, hb2⟩
        rw [HY.out]
        have t0 := (hb2.block _ (by omega)).trans s0
        have t1 := (hb2.block _ (by omega)).trans s1
        have c0 := new_cellC (i := 0) t0 rfl
        have c1 := new_cellC (i := 1) t0 rfl
        have d0 := new_cellC (i := 0) t1 rfl
        have d1 := new_cellC (i := 1) t1 rfl
        have HB2 := Lib.hid (HB1.out.trans (hb2.mono HB1.out.size))
        have hs2 := hb2.size
        clear hb2 s0 s1 b0 b1 hD hDD
        go_wp2_with fail
        refine (cmp_u64 _ _ _).mono ?_
        rintro e w3 ⟨rfl, rfl⟩
        go_wp2
        go_ret
        exact ⟨rfl, HB2.out⟩
      · rw [show cmpC 3 x l y m = Lib.compareBytes l m from cmpC_3 hcx hcy]
        have HX := Lib.hid hcx
        have HY := Lib.hid hcy
        clear hcx hcy
        go_enter Tryz.func62, Tryz.ntmps62
        go_wp2_with fail
        rw [← hw0]
        clear hw0
        refine hC.mono ?_
        rintro e w1 ⟨rfl, hb1⟩
        rw [HX.out]
        have s0 := (hb1.block _ (by omega)).trans N1
        have s1 := (hb1.block _ (by omega)).trans N2
        have b0 := new_cellC (i := 0) s1 rfl
        have b1 := new_cellC (i := 1) s1 rfl
        have HB1 := Lib.hid (HB.out.trans (hb1.mono (by omega)))
        have hs1 := hb1.size
        have hD := hDD w1 hb1
        clear hb1 N1 N2 hC
        go_wp2_with fail
        refine hD.mono ?_
        rintro e w2 ⟨rfl, hb2⟩
        rw [HY.out]
        have t0 := (hb2.block _ (by omega)).trans s0
        have t1 := (hb2.block _ (by omega)).trans s1
        have c0 := new_cellC (i := 0) t0 rfl
        have c1 := new_cellC (i := 1) t0 rfl
        have d0 := new_cellC (i := 0) t1 rfl
        have d1 := new_cellC (i := 1) t1 rfl
        have HB2 := Lib.hid (HB1.out.trans (hb2.mono HB1.out.size))
        have hs2 := hb2.size
        clear hb2 s0 s1 b0 b1 hD hDD
        go_wp2_with fail
        refine (lib_Compare s t l m _ hs ht).mono ?_
        rintro e w3 ⟨rfl, rfl⟩
        go_wp2
        go_ret
        exact ⟨rfl, HB2.out⟩
      · rw [show cmpC 4 x l y m = Lib.compareBytes l m from cmpC_4 hcx hcy]
        have HX := Lib.hid hcx
        have HY := Lib.hid hcy
        clear hcx hcy
        go_enter Tryz.func62, Tryz.ntmps62
        go_wp2_with fail
        rw [← hw0]
        clear hw0
        refine hC.mono ?_
        rintro e w1 ⟨rfl, hb1⟩
        rw [HX.out]
        have s0 := (hb1.block _ (by omega)).trans N1
        have s1 := (hb1.block _ (by omega)).trans N2
        have b0 := new_cellC (i := 0) s1 rfl
        have b1 := new_cellC (i := 1) s1 rfl
        have HB1 := Lib.hid (HB.out.trans (hb1.mono (by omega)))
        have hs1 := hb1.size
        have hD := hDD w1 hb1
        clear hb1 N1 N2 hC
        go_wp2_with fail
        refine hD.mono ?_
        rintro e w2 ⟨rfl, hb2⟩
        rw [HY.out]
        have t0 := (hb2.block _ (by omega)).trans s0
        have t1 := (hb2.block _ (by omega)).trans s1
        have c0 := new_cellC (i := 0) t0 rfl
        have c1 := new_cellC (i := 1) t0 rfl
        have d0 := new_cellC (i := 0) t1 rfl
        have d1 := new_cellC (i := 1) t1 rfl
        have HB2 := Lib.hid (HB1.out.trans (hb2.mono HB1.out.size))
        have hs2 := hb2.size
        clear hb2 s0 s1 b0 b1 hD hDD
        go_wp2_with fail
        refine (lib_Compare s t l m _ hs ht).mono ?_
        rintro e w3 ⟨rfl, rfl⟩
        go_wp2
        go_ret
        exact ⟨rfl, HB2.out⟩
      · rw [show cmpC 5 x l y m = ordZ (tkey x + 9223372036854775808) (tkey y + 9223372036854775808) from cmpC_5 hcx hcy]
        have HX := Lib.hid hcx
        have HY := Lib.hid hcy
        clear hcx hcy
        go_enter Tryz.func62, Tryz.ntmps62
        go_wp2_with fail
        rw [← hw0]
        clear hw0
        refine hC.mono ?_
        rintro e w1 ⟨rfl, hb1⟩
        rw [HX.out]
        have s0 := (hb1.block _ (by omega)).trans N1
        have s1 := (hb1.block _ (by omega)).trans N2
        have b0 := new_cellC (i := 0) s1 rfl
        have b1 := new_cellC (i := 1) s1 rfl
        have HB1 := Lib.hid (HB.out.trans (hb1.mono (by omega)))
        have hs1 := hb1.size
        have hD := hDD w1 hb1
        clear hb1 N1 N2 hC
        go_wp2_with fail
        refine hD.mono ?_
        rintro e w2 ⟨rfl, hb2⟩
        rw [HY.out]
        have t0 := (hb2.block _ (by omega)).trans s0
        have t1 := (hb2.block _ (by omega)).trans s1
        have c0 := new_cellC (i := 0) t0 rfl
        have c1 := new_cellC (i := 1) t0 rfl
        have d0 := new_cellC (i := 0) t1 rfl
        have d1 := new_cellC (i := 1) t1 rfl
        have HB2 := Lib.hid (HB1.out.trans (hb2.mono HB1.out.size))
        have hs2 := hb2.size
        clear hb2 s0 s1 b0 b1 hD hDD
        go_wp2_with fail
        have g0 := gw_cell (i := 0) t0 rfl
        have g1 := gw_cell (i := 1) t0 rfl
        have g2 := gw_cell (i := 0) t1 rfl
        have g3 := gw_cell (i := 1) t1 rfl
        refine OrdR.wp_region_ord Ord.way [(0, false), (1, false), (3, false), (4, false), (2, true), (5, true), (6, true), (7, false)] (by kernel_rfl) rfl (by kernel_rfl) (by kernel_rfl) (fun _ _ _ d _ h => by cases d <;> exact h) ?_
        refine OrdR.ord_still rfl rfl (by kernel_rfl) (fun K hK => ?_)
        go_big_quiet_op
        refine hK _ ?_; clear hK K
        refine OrdR.ord_still rfl rfl (by kernel_rfl) (fun K hK => ?_)
        go_big_quiet_op
        refine hK _ ?_; clear hK K
        refine OrdR.ord_still rfl rfl (by kernel_rfl) (fun K hK => ?_)
        go_big_quiet_op
        refine hK _ ?_; clear hK K
        refine OrdR.ord_still rfl rfl (by kernel_rfl) (fun K hK => ?_)
        go_big_quiet_op
        refine hK _ ?_; clear hK K
        refine OrdR.ord_loud rfl (by kernel_rfl) (fun K hK => ?_)
        go_big_op
        refine (cell_rank x hx _).mono ?_
        rintro e w3 ⟨rfl, rfl⟩
        refine hK _ _ (Ord.Grew.refl _) ?_
        clear hK K
        refine OrdR.ord_loud rfl (by kernel_rfl) (fun K hK => ?_)
        go_big_op
        refine (cell_rank y hy _).mono ?_
        rintro e w4 ⟨rfl, rfl⟩
        refine hK _ _ (Ord.Grew.refl _) ?_
        clear hK K
        refine OrdR.ord_loud rfl (by kernel_rfl) (fun K hK => ?_)
        go_big_op
        refine (cmp_u64 _ _ _).mono ?_
        rintro e w5 ⟨rfl, rfl⟩
        refine hK _ _ (Ord.Grew.refl _) ?_
        clear hK K
        refine OrdR.ord_still rfl rfl (by kernel_rfl) (fun K hK => ?_)
        go_big_quiet_op
        refine hK _ ?_; clear hK K
        refine OrdR.ord_nil ?_
        go_wp2
        go_ret
        exact ⟨rfl, HB2.out.drew⟩
    · rw [show cmpC kind x l y m = 0 from by unfold cmpC; rw [if_pos (.inr hcy)]]
      have HX := Lib.hid hcx
      obtain ⟨cy, hcye⟩ : ∃ cy, checkC kind y m = cy := ⟨_, rfl⟩
      rw [hcye] at hcy hDD
      have hne : ((cy : Int) != 0) = true := by simp; omega
      clear hcx hcye
      go_enter Tryz.func62, Tryz.ntmps62
      go_wp2_with fail
      rw [← hw0]
      clear hw0
      refine hC.mono ?_
      rintro e w1 ⟨rfl, hb1⟩
      rw [HX.out]
      have s1 := (hb1.block _ (by omega)).trans N2
      have b0 := new_cellC (i := 0) s1 rfl
      have b1 := new_cellC (i := 1) s1 rfl
      have HB1 := Lib.hid (HB.out.trans (hb1.mono (by omega)))
      have hD := hDD w1 hb1
      clear hb1 N1 N2 hC hDD
      go_wp2_with fail
      refine hD.mono ?_
      rintro e w2 ⟨rfl, hb2⟩
      have HB2 := Lib.hid (HB1.out.trans (hb2.mono HB1.out.size))
      clear hb2 s1 b0 b1 hD
      go_wp2
      go_ret
      exact ⟨rfl, HB2.out⟩
  · rw [show cmpC kind x l y m = 0 from by unfold cmpC; rw [if_pos (.inl hcx)]]
    obtain ⟨cx, hcxe⟩ : ∃ cx, checkC kind x l = cx := ⟨_, rfl⟩
    rw [hcxe] at hcx hC
    have hne : ((cx : Int) != 0) = true := by simp; omega
    clear hcxe hDD
    go_enter Tryz.func62, Tryz.ntmps62
    go_wp2_with fail
    rw [← hw0]
    clear hw0
    refine hC.mono ?_
    rintro e w1 ⟨rfl, hb1⟩
    have HB1 := Lib.hid (HB.out.trans (hb1.mono (by omega)))
    clear hb1 N1 N2 hC
    go_wp2
    go_ret
    exact ⟨rfl, HB1.out⟩

end Go.Proofs.YtokpphhmmcoeaaaGreatDoor


/-
  The order of cells, as mathematics.
-/
namespace Go.Proofs.YtokpphhmmcoeaaaGreatDoor
open Go.RowKit Go.Shelf

section
theorem ordZ_flip (a b : Int) : ordZ a b = -ordZ b a := by unfold ordZ; split <;> split <;> first | rfl | (split <;> first | rfl | omega) | omega
theorem ordZ_zero (a b : Int) : ordZ a b = 0 ↔ a = b := by
  unfold ordZ
  constructor
  · intro h; split at h
    · cases h
    · split at h
      · cases h
      · omega
  · rintro rfl; rw [if_neg (by omega), if_neg (by omega)]
theorem ordZ_lt (a b : Int) : ordZ a b < 0 ↔ a < b := by
  unfold ordZ
  split
  · simp; assumption
  · split <;> simp <;> omega
theorem ordZ_gt (a b : Int) : 0 < ordZ a b ↔ b < a := by
  unfold ordZ
  split
  · simp; omega
  · split <;> simp <;> omega
theorem ordZ_one (a b : Int) : -1 ≤ ordZ a b ∧ ordZ a b ≤ 1 := by
  unfold ordZ
  split
  · decide
  · split <;> decide

open _root_.Go.Lib in
theorem cb_flip : ∀ l m : List UInt8, compareBytes l m = -compareBytes m l
  | [], [] => rfl
  | [], _ :: _ => rfl
  | _ :: _, [] => rfl
  | a :: r, b :: t => by
    unfold compareBytes
    by_cases h1 : a < b
    · have h2 : ¬ b < a := by simp only [UInt8.lt_iff_toNat_lt] at *; omega
      simp [h1, h2]
    · by_cases h2 : b < a
      · simp [h1, h2]
      · simp [h1, h2, cb_flip r t]
open _root_.Go.Lib in
theorem cb_zero : ∀ l m : List UInt8, compareBytes l m = 0 ↔ l = m
  | [], [] => by simp [compareBytes]
  | [], _ :: _ => by simp [compareBytes]
  | _ :: _, [] => by simp [compareBytes]
  | a :: r, b :: t => by
    unfold compareBytes
    by_cases h1 : a < b
    · have h3 : a ≠ b := fun e => by subst e; simp only [UInt8.lt_iff_toNat_lt] at h1; omega
      simp [h1, h3]
    · by_cases h2 : b < a
      · have h3 : a ≠ b := fun e => by subst e; exact h1 h2
        simp [h1, h2, h3]
      · have e : a = b := by
          simp only [UInt8.lt_iff_toNat_lt] at h1 h2
          exact UInt8.toNat_inj.1 (by omega)
        subst e
        simp [h1, cb_zero r t]
open _root_.Go.Lib in
theorem cb_one : ∀ l m : List UInt8, -1 ≤ compareBytes l m ∧ compareBytes l m ≤ 1
  | [], [] => by simp [compareBytes]
  | [], _ :: _ => by simp [compareBytes]
  | _ :: _, [] => by simp [compareBytes]
  | a :: r, b :: t => by
    unfold compareBytes
    split
    · decide
    · split
      · decide
      · exact cb_one r t
open _root_.Go.Lib in
/-- Not above, and not above: not above; and below, if either is. -/
theorem cb_trans : ∀ l m n : List UInt8, compareBytes l m ≤ 0 → compareBytes m n ≤ 0 → compareBytes l n ≤ 0 ∧ ((compareBytes l m < 0 ∨ compareBytes m n < 0) → compareBytes l n < 0)
  | [], [], [], _, _ => by simp [compareBytes]
  | [], [], _ :: _, _, _ => by simp [compareBytes]
  | [], _ :: _, [], _, h => by simp [compareBytes] at h
  | [], _ :: _, _ :: _, _, _ => by simp [compareBytes]
  | _ :: _, [], _, h, _ => by simp [compareBytes] at h
  | _ :: _, _ :: _, [], _, h => by simp [compareBytes] at h
  | a :: r, b :: t, c :: q, h1, h2 => by
    have IH := _root_.Go.Lib.hid (cb_trans r t q)
    unfold compareBytes at h1 h2 ⊢
    simp only [UInt8.lt_iff_toNat_lt] at h1 h2 ⊢
    by_cases k1 : a.toNat < b.toNat
    · by_cases k2 : b.toNat < c.toNat
      · rw [if_pos (by omega : a.toNat < c.toNat)]; exact ⟨by decide, fun _ => by decide⟩
      · rw [if_neg k2] at h2
        by_cases k3 : c.toNat < b.toNat
        · rw [if_pos k3] at h2; exact absurd h2 (by decide)
        · rw [if_pos (by omega : a.toNat < c.toNat)]; exact ⟨by decide, fun _ => by decide⟩
    · rw [if_neg k1] at h1
      by_cases k4 : b.toNat < a.toNat
      · rw [if_pos k4] at h1; exact absurd h1 (by decide)
      · rw [if_neg k4] at h1
        by_cases k2 : b.toNat < c.toNat
        · rw [if_pos (by omega : a.toNat < c.toNat)]; exact ⟨by decide, fun _ => by decide⟩
        · rw [if_neg k2] at h2
          by_cases k3 : c.toNat < b.toNat
          · rw [if_pos k3] at h2; exact absurd h2 (by decide)
          · rw [if_neg k3] at h2
            rw [if_neg k1, if_neg k4, if_neg k2, if_neg k3, if_neg (by omega : ¬ a.toNat < c.toNat), if_neg (by omega : ¬ c.toNat < a.toNat)]
            exact IH.out h1 h2
end

section
variable {kind : Int} {x y z : Nat} {l m n : List UInt8}

theorem check_num (h : checkC kind x l = 0) (hk : ¬ (kind = 3 ∨ kind = 4)) : l = [] := by
  have h6 := check_kind h
  rw [checkC_isOf kind x l h6] at h
  obtain rfl | rfl | rfl | rfl | rfl | rfl : kind = 0 ∨ kind = 1 ∨ kind = 2 ∨ kind = 3 ∨ kind = 4 ∨ kind = 5 := by omega
  all_goals first | (exfalso; simp at hk; done) | (cases l with
    | nil => rfl
    | cons a r => simp [isOfC] at h)
theorem check_txt (h : checkC kind x l = 0) (hk : kind = 3 ∨ kind = 4) : x = 0 := by
  have h6 := check_kind h
  rw [checkC_isOf kind x l h6] at h
  rcases hk with rfl | rfl
  · by_cases hx : x = 0
    · exact hx
    · simp [isOfC, hx] at h
  · by_cases hx : x = 0
    · exact hx
    · simp [isOfC, hx] at h

/-- The number by which numbers stand. -/
def keyC (kind : Int) (x : Nat) : Int := if kind = 0 then wrap64 (x : Int) else if kind = 5 then tkey x + 9223372036854775808 else (x : Int)
theorem keyC_inj (hx : x < 18446744073709551616) (hy : y < 18446744073709551616) (h : keyC kind x = keyC kind y) : x = y := by
  unfold keyC at h
  by_cases h0 : kind = 0
  · rw [if_pos h0, if_pos h0] at h
    unfold wrap64 at h
    omega
  · rw [if_neg h0, if_neg h0] at h
    by_cases h5 : kind = 5
    · rw [if_pos h5, if_pos h5] at h
      unfold tkey at h
      split at h <;> split at h <;> omega
    · rw [if_neg h5, if_neg h5] at h
      omega
theorem cmpC_key (hk : ¬ (kind = 3 ∨ kind = 4)) (h1 : checkC kind x l = 0) (h2 : checkC kind y m = 0) : cmpC kind x l y m = ordZ (keyC kind x) (keyC kind y) := by
  have h6 := check_kind h1
  have e0 : ∀ q : Nat, keyC 0 q = wrap64 (q : Int) := fun q => by unfold keyC; rw [if_pos rfl]
  have e1 : ∀ q : Nat, keyC 1 q = (q : Int) := fun q => by unfold keyC; rw [if_neg (by decide), if_neg (by decide)]
  have e2 : ∀ q : Nat, keyC 2 q = (q : Int) := fun q => by unfold keyC; rw [if_neg (by decide), if_neg (by decide)]
  have e5 : ∀ q : Nat, keyC 5 q = tkey q + 9223372036854775808 := fun q => by unfold keyC; rw [if_neg (by decide), if_pos rfl]
  obtain rfl | rfl | rfl | rfl | rfl | rfl : kind = 0 ∨ kind = 1 ∨ kind = 2 ∨ kind = 3 ∨ kind = 4 ∨ kind = 5 := by omega
  · rw [e0, e0]; exact cmpC_0 h1 h2
  · rw [e1, e1]; exact cmpC_1 h1 h2
  · rw [e2, e2]; exact cmpC_2 h1 h2
  · simp at hk
  · simp at hk
  · rw [e5, e5]; exact cmpC_5 h1 h2
theorem cmpC_txt (hk : kind = 3 ∨ kind = 4) (h1 : checkC kind x l = 0) (h2 : checkC kind y m = 0) : cmpC kind x l y m = Lib.compareBytes l m := by
  rcases hk with rfl | rfl
  · exact cmpC_3 h1 h2
  · exact cmpC_4 h1 h2

/-- The order of any three cells of a kind. -/
theorem cmpC_laws (hx : x < 18446744073709551616) (hy : y < 18446744073709551616) (h1 : checkC kind x l = 0) (h2 : checkC kind y m = 0) (h3 : checkC kind z n = 0) :
    cmpC kind x l y m = -cmpC kind y m x l ∧ (cmpC kind x l y m = 0 ↔ x = y ∧ l = m) ∧ (-1 ≤ cmpC kind x l y m ∧ cmpC kind x l y m ≤ 1) ∧
    (cmpC kind x l y m ≤ 0 → cmpC kind y m z n ≤ 0 → cmpC kind x l z n ≤ 0) ∧ (cmpC kind x l y m < 0 → cmpC kind y m z n < 0 → cmpC kind x l z n < 0) := by
  by_cases hk : kind = 3 ∨ kind = 4
  · rw [cmpC_txt hk h1 h2, cmpC_txt hk h2 h1, cmpC_txt hk h2 h3, cmpC_txt hk h1 h3]
    have hx0 := check_txt h1 hk
    have hy0 := check_txt h2 hk
    refine ⟨cb_flip l m, ?_, cb_one l m, fun a b => (cb_trans l m n a b).1, fun a b => (cb_trans l m n (by omega) (by omega)).2 (.inl a)⟩
    rw [cb_zero]
    constructor
    · intro h; exact ⟨by omega, h⟩
    · intro h; exact h.2
  · rw [cmpC_key hk h1 h2, cmpC_key hk h2 h1, cmpC_key hk h2 h3, cmpC_key hk h1 h3]
    have hl := check_num h1 hk
    have hm := check_num h2 hk
    refine ⟨ordZ_flip _ _, ?_, ordZ_one _ _, fun a b => ?_, fun a b => ?_⟩
    · rw [ordZ_zero]
      constructor
      · intro h; exact ⟨keyC_inj hx hy h, by rw [hl, hm]⟩
      · rintro ⟨rfl, _⟩; rfl
    · have a1 : ¬ 0 < ordZ (keyC kind x) (keyC kind y) := by omega
      have b1 : ¬ 0 < ordZ (keyC kind y) (keyC kind z) := by omega
      rw [ordZ_gt] at a1 b1
      have : ¬ 0 < ordZ (keyC kind x) (keyC kind z) := by rw [ordZ_gt]; omega
      omega
    · rw [ordZ_lt] at *
      omega
end

end Go.Proofs.YtokpphhmmcoeaaaGreatDoor


/-
  What the document says of rows, in lists (no program in it).
-/
namespace Go.Proofs.YtokpphhmmcoeaaaGreatDoor
open Go.RowKit

abbrev CP := ColB × CellB
def chk (x : CP) : Nat := checkC x.1.2 x.2.1 x.2.2.data.toList
/-- What is wrong with the first cell with which something is. -/
def errP : List CP → Nat
  | [] => 0
  | x :: r => if chk x ≠ 0 then chk x else errP r
theorem errP_append : ∀ (l m : List CP), errP (l ++ m) = if errP l ≠ 0 then errP l else errP m
  | [], m => by simp [errP]
  | x :: r, m => by
    rw [List.cons_append, errP, errP_append r m, errP]
    by_cases h : chk x = 0
    · have h' : ¬ chk x ≠ 0 := fun h9 => h9 h
      rw [if_neg h', if_neg h']
    · rw [if_pos h, if_pos h, if_pos h]
theorem errP_snoc (l : List CP) (x : CP) (h : errP l = 0) : errP (l ++ [x]) = chk x := by
  rw [errP_append, h, if_neg (by simp), errP, errP]
  by_cases h : chk x = 0
  · rw [if_neg (by simpa using h), h]
  · rw [if_pos h]
theorem errP_take {l : List CP} {k : Nat} (h : errP (l.take k) ≠ 0) : errP l = errP (l.take k) := by
  have := errP_append (l.take k) (l.drop k)
  rw [List.take_append_drop, if_pos h] at this
  exact this
theorem checkC_codes (kind : Int) (n : Nat) (l : List UInt8) : checkC kind n l ≤ 11 := by
  unfold checkC
  repeat' split
  all_goals omega
theorem errP_codes : ∀ l : List CP, errP l ≤ 11
  | [] => by simp [errP]
  | x :: r => by
    rw [errP]
    split
    · exact checkC_codes _ _ _
    · exact errP_codes r
theorem errP_zero {l : List CP} (h : errP l = 0) : ∀ x ∈ l, chk x = 0 := by
  induction l with
  | nil => intro x hx; simp at hx
  | cons a r ih =>
    rw [errP] at h
    by_cases ha : chk a = 0
    · rw [if_neg (by simpa using ha)] at h
      intro x hx
      rcases List.mem_cons.1 hx with rfl | hx
      · exact ha
      · exact ih h x hx
    · rw [if_pos ha] at h; exact absurd h ha
theorem errP_of {l : List CP} (h : ∀ x ∈ l, chk x = 0) : errP l = 0 := by
  induction l with
  | nil => rfl
  | cons a r ih =>
    rw [errP, if_neg (by simpa using h a (by simp))]
    exact ih fun x hx => h x (by simp [hx])

/-- What is wrong with a row, its columns being as they may be. -/
def errC (cs : List ColB) (rs : List CellB) : Nat := if rs.length = cs.length then errP (cs.zip rs) else 2
theorem errC_codes (cs : List ColB) (rs : List CellB) : errC cs rs ≤ 11 := by
  unfold errC
  split
  · exact errP_codes _
  · omega
end Go.Proofs.YtokpphhmmcoeaaaGreatDoor

