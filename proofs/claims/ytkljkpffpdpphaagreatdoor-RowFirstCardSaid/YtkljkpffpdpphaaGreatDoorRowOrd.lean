/-
  The order of rows, as mathematics; a schema's beginning and its end.
-/
import Derived.Test.YtkljkpffpdpphaaGreatDoorGRowL
import Derived.Test.YtkljkpffpdpphaaGreatDoorGCmpR
set_option linter.unusedVariables false
set_option linter.unusedSimpArgs false
set_option maxRecDepth 1000000
namespace Go.Proofs.YtkljkpffpdpphaaGreatDoor
open Go.RowKit Go.Shelf

theorem cell_ext {a b : CellB} : (a.1 = b.1 ∧ a.2.data.toList = b.2.data.toList) ↔ a = b := by
  obtain ⟨x, s⟩ := a
  obtain ⟨y, t⟩ := b
  constructor
  · rintro ⟨h1, h2⟩
    dsimp only at h1 h2
    subst h1
    have : s = t := by apply ByteArray.ext; exact Array.toList_inj.1 h2
    rw [this]
  · intro h; injection h with h1 h2; subst h1 h2; exact ⟨rfl, rfl⟩
/-- Two cells of a kind. -/
theorem cmpX_laws {k : Int} {a b c : CellB} (ha : ceS a) (hb : ceS b) (h1 : checkC k a.1 a.2.data.toList = 0) (h2 : checkC k b.1 b.2.data.toList = 0) (h3 : checkC k c.1 c.2.data.toList = 0) :
    cmpX k a b = -cmpX k b a ∧ (cmpX k a b = 0 ↔ a = b) ∧ (-1 ≤ cmpX k a b ∧ cmpX k a b ≤ 1) ∧ (cmpX k a b < 0 → cmpX k b c < 0 → cmpX k a c < 0) := by
  obtain ⟨p1, p2, p3, _, p5⟩ := cmpC_laws (x := a.1) (y := b.1) (z := c.1) (l := a.2.data.toList) (m := b.2.data.toList) (n := c.2.data.toList) (kind := k) ha.1 hb.1 h1 h2 h3
  exact ⟨p1, p2.trans cell_ext, p3, p5⟩

/-- Rows of columns, each cell as it may be. -/
def okR : List ColB → List CellB → Prop
  | [], [] => True
  | c :: cs, x :: r => ceS x ∧ checkC c.2 x.1 x.2.data.toList = 0 ∧ okR cs r
  | _, _ => False
theorem okR_of : ∀ {cs : List ColB} {r : List CellB}, r.length = cs.length → CES r → errP (cs.zip r) = 0 → okR cs r
  | [], [], _, _, _ => trivial
  | [], _ :: _, h, _, _ => by simp at h
  | _ :: _, [], h, _, _ => by simp at h
  | c :: cs, x :: r, h, hE, h0 => by
    have hz := errP_zero h0
    exact ⟨hE x (by simp), hz (c, x) (by simp), okR_of (by simpa using h) (fun y hy => hE y (by simp [hy])) (errP_of fun y hy => hz y (by simp [hy]))⟩
theorem cmpL_nil (l : List (CellB × CellB)) : cmpL [] l = 0 := by
  cases l <;> (rw [cmpL]; intros; contradiction)

theorem cmpL_flip : ∀ {cs : List ColB} {a b : List CellB}, okR cs a → okR cs b → cmpL cs (a.zip b) = -cmpL cs (b.zip a)
  | [], _, _, _, _ => by rw [cmpL_nil, cmpL_nil]; rfl
  | c :: cs, [], _, h, _ => absurd h (by simp [okR])
  | c :: cs, _ :: _, [], _, h => absurd h (by simp [okR])
  | c :: cs, x :: a, y :: b, ha, hb => by
    obtain ⟨p1, p2, _, _⟩ := cmpX_laws ha.1 hb.1 ha.2.1 hb.2.1 hb.2.1
    have ih := cmpL_flip ha.2.2 hb.2.2
    rw [List.zip_cons_cons, List.zip_cons_cons, cmpL, cmpL]
    dsimp only
    by_cases h : cmpX c.2 x y = 0
    · have h' : cmpX c.2 y x = 0 := by omega
      rw [if_neg (fun h9 => h9 h), if_neg (fun h9 => h9 h')]; exact ih
    · have h' : cmpX c.2 y x ≠ 0 := by omega
      rw [if_pos h, if_pos h']; exact p1
theorem cmpL_zero : ∀ {cs : List ColB} {a b : List CellB}, okR cs a → okR cs b → (cmpL cs (a.zip b) = 0 ↔ a = b)
  | [], [], [], _, _ => by rw [cmpL_nil]; simp
  | [], _ :: _, _, h, _ => absurd h (by simp [okR])
  | [], [], _ :: _, _, h => absurd h (by simp [okR])
  | c :: cs, [], _, h, _ => absurd h (by simp [okR])
  | c :: cs, _ :: _, [], _, h => absurd h (by simp [okR])
  | c :: cs, x :: a, y :: b, ha, hb => by
    obtain ⟨_, p2, _, _⟩ := cmpX_laws ha.1 hb.1 ha.2.1 hb.2.1 hb.2.1
    have ih := cmpL_zero ha.2.2 hb.2.2
    rw [List.zip_cons_cons, cmpL]
    dsimp only
    by_cases h : cmpX c.2 x y = 0
    · rw [if_neg (fun h9 => h9 h), ih]
      have := p2.1 h
      subst this
      simp
    · rw [if_pos h]
      constructor
      · intro h9; exact absurd h9 h
      · intro h9; injection h9 with h1 h2; exact absurd (p2.2 h1) h
theorem cmpL_small : ∀ {cs : List ColB} {a b : List CellB}, okR cs a → okR cs b → -1 ≤ cmpL cs (a.zip b) ∧ cmpL cs (a.zip b) ≤ 1
  | [], _, _, _, _ => by rw [cmpL_nil]; omega
  | c :: cs, [], _, h, _ => absurd h (by simp [okR])
  | c :: cs, _ :: _, [], _, h => absurd h (by simp [okR])
  | c :: cs, x :: a, y :: b, ha, hb => by
    obtain ⟨_, _, p3, _⟩ := cmpX_laws ha.1 hb.1 ha.2.1 hb.2.1 hb.2.1
    have ih := cmpL_small ha.2.2 hb.2.2
    rw [List.zip_cons_cons, cmpL]
    dsimp only
    split
    · exact p3
    · exact ih
theorem cmpL_trans : ∀ {cs : List ColB} {a b d : List CellB}, okR cs a → okR cs b → okR cs d → cmpL cs (a.zip b) ≤ 0 → cmpL cs (b.zip d) ≤ 0 → cmpL cs (a.zip d) ≤ 0 ∧ ((cmpL cs (a.zip b) < 0 ∨ cmpL cs (b.zip d) < 0) → cmpL cs (a.zip d) < 0)
  | [], _, _, _, _, _, _ => by rw [cmpL_nil, cmpL_nil, cmpL_nil]; omega
  | c :: cs, [], _, _, h, _, _ => absurd h (by simp [okR])
  | c :: cs, _ :: _, [], _, _, h, _ => absurd h (by simp [okR])
  | c :: cs, _ :: _, _ :: _, [], _, _, h => absurd h (by simp [okR])
  | c :: cs, x :: a, y :: b, z :: d, ha, hb, hd => by
    obtain ⟨_, p2, _, p5⟩ := cmpX_laws ha.1 hb.1 ha.2.1 hb.2.1 hd.2.1
    obtain ⟨_, q2, _, _⟩ := cmpX_laws hb.1 hd.1 hb.2.1 hd.2.1 hd.2.1
    have ih := cmpL_trans ha.2.2 hb.2.2 hd.2.2
    rw [List.zip_cons_cons, List.zip_cons_cons, List.zip_cons_cons, cmpL, cmpL, cmpL]
    dsimp only
    intro h1 h2
    by_cases hp : cmpX c.2 x y = 0
    · have := p2.1 hp
      subst this
      have np : ¬ (cmpX c.2 x x ≠ 0) := fun h9 => h9 hp
      rw [if_neg np] at h1 ⊢
      by_cases hq : cmpX c.2 x z = 0
      · have := q2.1 hq
        subst this
        rw [if_neg np] at h2
        rw [if_neg np, if_neg np]
        exact ih h1 h2
      · rw [if_pos hq] at h2
        rw [if_pos hq]
        exact ⟨h2, fun _ => by omega⟩
    · rw [if_pos hp] at h1 ⊢
      by_cases hq : cmpX c.2 y z = 0
      · have := q2.1 hq
        subst this
        have nq : ¬ (cmpX c.2 y y ≠ 0) := fun h9 => h9 hq
        rw [if_pos hp]
        exact ⟨h1, fun _ => by omega⟩
      · rw [if_pos hq] at h2 ⊢
        have := p5 (by omega) (by omega)
        rw [if_pos (show cmpX c.2 x z ≠ 0 by omega)]
        exact ⟨by omega, fun _ => by omega⟩

theorem okR_row {cs : List ColB} {r : List CellB} (hE : CES r) (h : errRow cs r = 0) : okR cs r := by
  obtain ⟨_, h1, h2⟩ := errRow_len h
  exact okR_of h1 hE h2
theorem cmpR_row {cs : List ColB} {a b : List CellB} (ha : errRow cs a = 0) (hb : errRow cs b = 0) : cmpR cs a b = cmpL cs (a.zip b) := by
  unfold cmpR; rw [if_neg (by omega)]

/-! A schema's beginning, and its end. -/
def okCR (c : Col) : Prop := c.1.length ≤ 32 ∧ c.1 ≠ [] ∧ (c.1.all fun c => letterB c.toNat) = true ∧ 0 ≤ c.2 ∧ c.2 ≤ 5
theorem colErr_iffR (ah : List (List UInt8)) (c : Col) : colErr ah c = 0 ↔ okCR c ∧ c.1 ∉ ah := by
  have hf : fine c.1 ah = true ↔ c.1 ≠ [] ∧ (c.1.all fun c => letterB c.toNat) = true ∧ c.1 ∉ ah := by
    unfold fine
    rw [Bool.and_eq_true, Bool.and_eq_true]
    simp
  constructor
  · intro h
    obtain ⟨h1, h2, h3, h4⟩ := colErr_zero h
    obtain ⟨f1, f2, f3⟩ := hf.1 h2
    exact ⟨⟨h1, f1, f2, h3, h4⟩, f3⟩
  · rintro ⟨⟨h1, f1, f2, h3, h4⟩, f3⟩
    unfold colErr
    rw [if_neg (by omega), if_neg (by rw [hf.2 ⟨f1, f2, f3⟩]; simp), if_neg (by omega)]
theorem errFrom_iffR : ∀ (cs : List Col) (ah : List (List UInt8)), errFrom ah cs = 0 ↔ (∀ c ∈ cs, okCR c) ∧ (names cs).Nodup ∧ ∀ c ∈ cs, c.1 ∉ ah
  | [], ah => by simp [errFrom, names]
  | c :: r, ah => by
    have ih := errFrom_iffR r (ah ++ [c.1])
    have hc := colErr_iffR ah c
    have e : errFrom ah (c :: r) = 0 ↔ colErr ah c = 0 ∧ errFrom (ah ++ [c.1]) r = 0 := by
      rw [errFrom]
      by_cases h : colErr ah c = 0
      · rw [if_neg (by simpa using h)]; simp [h]
      · rw [if_pos (by simpa using h)]; simp [h]
    rw [e, hc, ih]
    unfold names
    rw [List.map_cons, List.nodup_cons]
    constructor
    · rintro ⟨⟨h1, h2⟩, h3, h4, h5⟩
      refine ⟨?_, ⟨?_, h4⟩, ?_⟩
      · intro x hx
        rcases List.mem_cons.1 hx with rfl | hx
        · exact h1
        · exact h3 x hx
      · intro hm
        obtain ⟨x, hx, hxe⟩ := List.mem_map.1 hm
        exact h5 x hx (by rw [hxe]; simp)
      · intro x hx
        rcases List.mem_cons.1 hx with rfl | hx
        · exact h2
        · intro hm; exact h5 x hx (by simp [hm])
    · rintro ⟨h1, ⟨h2, h3⟩, h4⟩
      refine ⟨⟨h1 c (by simp), h4 c (by simp)⟩, fun x hx => h1 x (by simp [hx]), h3, fun x hx hm => ?_⟩
      rcases List.mem_append.1 hm with hm | hm
      · exact h4 x (by simp [hx]) hm
      · rw [List.mem_singleton] at hm
        exact h2 (List.mem_map.2 ⟨x, hx, hm⟩)
theorem errS_iffR (cs : List Col) : errS cs = 0 ↔ (0 < cs.length ∧ cs.length ≤ 8) ∧ (∀ c ∈ cs, okCR c) ∧ (names cs).Nodup := by
  constructor
  · intro h
    obtain ⟨h1, h2, h3, _⟩ := errS_zero h
    obtain ⟨a, b, _⟩ := (errFrom_iffR cs []).1 h3
    exact ⟨⟨h1, h2⟩, a, b⟩
  · rintro ⟨⟨h1, h2⟩, a, b⟩
    unfold errS
    rw [if_neg (by omega), if_neg (by omega)]
    exact (errFrom_iffR cs []).2 ⟨a, b, fun c _ => by simp⟩
theorem errS_sub {cs ds : List Col} (h : errS cs = 0) (hs : ds.Sublist cs) (hp : 0 < ds.length) : errS ds = 0 := by
  obtain ⟨h1, h2, h3⟩ := (errS_iffR cs).1 h
  refine (errS_iffR ds).2 ⟨⟨hp, by have := hs.length_le; omega⟩, fun c hc => h2 c (hs.subset hc), ?_⟩
  unfold names at h3 ⊢
  exact h3.sublist (hs.map _)
theorem colsL_take (cs : List ColB) (n : Nat) : colsL (cs.take n) = (colsL cs).take n := by unfold colsL; rw [List.map_take]
theorem colsL_drop (cs : List ColB) (n : Nat) : colsL (cs.drop n) = (colsL cs).drop n := by unfold colsL; rw [List.map_drop]
theorem zip_takeR {α β : Type} : ∀ (a : List α) (b : List β) (n : Nat), (a.take n).zip (b.take n) = (a.zip b).take n
  | _, _, 0 => by simp
  | [], b, n + 1 => by simp
  | a :: r, [], n + 1 => by simp
  | a :: r, b :: s, n + 1 => by simp [zip_takeR r s n]
theorem zip_dropR {α β : Type} : ∀ (a : List α) (b : List β) (n : Nat), (a.drop n).zip (b.drop n) = (a.zip b).drop n
  | _, _, 0 => by simp
  | [], b, n + 1 => by simp
  | a :: r, [], n + 1 => by simp
  | a :: r, b :: s, n + 1 => by simp [zip_dropR r s n]
theorem errRow_take {cs : List ColB} {r : List CellB} (h : errRow cs r = 0) {n : Nat} (h0 : 0 < n) (hn : n ≤ cs.length) : errRow (cs.take n) (r.take n) = 0 := by
  obtain ⟨hS, hl, hP⟩ := errRow_len h
  have e : errS (colsL (cs.take n)) = 0 := by
    rw [colsL_take]
    exact errS_sub hS (List.take_sublist _ _) (by rw [List.length_take, colsL_length]; omega)
  unfold errRow errC
  rw [if_pos e, if_pos (by rw [List.length_take, List.length_take, hl]), zip_takeR]
  exact errP_of fun x hx => errP_zero hP x (List.mem_of_mem_take hx)
theorem errRow_drop {cs : List ColB} {r : List CellB} (h : errRow cs r = 0) {n : Nat} (hn : n < cs.length) : errRow (cs.drop n) (r.drop n) = 0 := by
  obtain ⟨hS, hl, hP⟩ := errRow_len h
  have e : errS (colsL (cs.drop n)) = 0 := by
    rw [colsL_drop]
    exact errS_sub hS (List.drop_sublist _ _) (by rw [List.length_drop, colsL_length]; omega)
  unfold errRow errC
  rw [if_pos e, if_pos (by rw [List.length_drop, List.length_drop, hl]), zip_dropR]
  exact errP_of fun x hx => errP_zero hP x (List.mem_of_mem_drop hx)
theorem cmpL_takeC : ∀ (cs : List ColB) (l : List (CellB × CellB)) (n : Nat), l.length ≤ n → cmpL (cs.take n) l = cmpL cs l
  | [], l, n, _ => by simp
  | c :: cs, [], n, _ => by
    have e : ∀ ds : List ColB, cmpL ds [] = 0 := fun ds => by cases ds <;> (rw [cmpL]; intros; contradiction)
    rw [e, e]
  | c :: cs, p :: l, 0, h => by simp at h
  | c :: cs, p :: l, n + 1, h => by
    rw [List.take_succ_cons, cmpL, cmpL, cmpL_takeC cs l n (by simpa using h)]
/-- The order of two rows, part by part. -/
theorem cmpR_parts {cs : List ColB} {a b : List CellB} (ha : errRow cs a = 0) (hb : errRow cs b = 0) {n : Nat} (h0 : 0 < n) (hn : n < cs.length) :
    cmpR cs a b = if cmpR (cs.take n) (a.take n) (b.take n) ≠ 0 then cmpR (cs.take n) (a.take n) (b.take n) else cmpR (cs.drop n) (a.drop n) (b.drop n) := by
  have hla := (errRow_len ha).2.1
  have hlb := (errRow_len hb).2.1
  rw [cmpR_row ha hb, cmpR_row (errRow_take ha h0 (by omega)) (errRow_take hb h0 (by omega)), cmpR_row (errRow_drop ha hn) (errRow_drop hb hn), zip_takeR, zip_dropR]
  have hlen : ((a.zip b).take n).length = n := by rw [List.length_take, List.length_zip]; omega
  rw [cmpL_takeC cs ((a.zip b).take n) n (by omega)]
  have := cmpL_append cs ((a.zip b).take n) ((a.zip b).drop n) (by omega)
  rw [List.take_append_drop, hlen] at this
  exact this
end Go.Proofs.YtkljkpffpdpphaaGreatDoor
