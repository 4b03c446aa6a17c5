/-
  Texts between a byte; what is parsed of a text (no program in it).
-/
import Derived.Test.YtkljkpffpdpphaaDoorSchNames
import Derived.Lib.SplitLaws
import Derived.Lib.SlicesS
set_option linter.unusedVariables false
set_option linter.unusedSimpArgs false
set_option maxRecDepth 1000000
namespace Go.Proofs.YtkljkpffpdpphaaDoor
open Go.RowKit Go.Shelf

def consHead (x : UInt8) : List (List UInt8) → List (List UInt8)
  | [] => [[x]]
  | h :: t => (x :: h) :: t
/-- The texts between a byte. -/
def cutL (c : UInt8) : List UInt8 → List (List UInt8)
  | [] => [[]]
  | x :: r => if x = c then [] :: cutL c r else consHead x (cutL c r)

theorem cutL_pos (c : UInt8) : ∀ l, 0 < (cutL c l).length
  | [] => by simp [cutL]
  | x :: r => by
    rw [cutL]
    split
    · simp
    · cases cutL c r <;> simp [consHead]
theorem cutL_le (c : UInt8) : ∀ l, (cutL c l).length ≤ l.length + 1
  | [] => by simp [cutL]
  | x :: r => by
    have ih := cutL_le c r
    rw [cutL]
    split
    · simp; omega
    · cases h : cutL c r with
      | nil => simp [consHead]
      | cons a t => rw [h] at ih; simp [consHead] at ih ⊢; omega
theorem cutL_part (c : UInt8) : ∀ l, ∀ p ∈ cutL c l, p.length ≤ l.length
  | [], p, hp => by simp [cutL] at hp; simp [hp]
  | x :: r, p, hp => by
    have ih := cutL_part c r
    rw [cutL] at hp
    split at hp
    · rcases List.mem_cons.1 hp with rfl | hp
      · simp
      · have := ih p hp; simp; omega
    · cases h : cutL c r with
      | nil => rw [h] at hp; simp [consHead] at hp; simp [hp]
      | cons a t =>
        rw [h] at hp ih
        rcases List.mem_cons.1 hp with rfl | hp
        · have := ih a (by simp); simp; omega
        · have := ih p (by simp [hp]); simp; omega

theorem index_one (c x : UInt8) (r : List UInt8) : Lib.index (x :: r) [c] = if x = c then 0 else if Lib.index r [c] = -1 then -1 else Lib.index r [c] + 1 := by
  have e : List.isPrefixOf [c] (x :: r) = (c == x) := by simp [List.isPrefixOf]
  rw [Lib.index, e]
  by_cases h : x = c
  · rw [if_pos h, if_pos (by simp [h])]
  · rw [if_neg h, if_neg (by simp; exact fun e => h e.symm)]
    by_cases h2 : Lib.index r [c] = -1
    · rw [if_pos h2, if_pos (by simp [h2])]
    · rw [if_neg h2, if_neg (by simpa using h2)]

theorem splitK_cut (c : UInt8) : ∀ (s : List UInt8) (k : Nat), Lib.count s [c] = k → Lib.splitK [c] 0 k s = cutL c s
  | [], k, h => by
    rw [Lib.count_one] at h
    simp at h
    subst h
    rfl
  | x :: r, k, h => by
    rw [Lib.count_one] at h
    by_cases hx : x = c
    · subst hx
      rw [List.count_cons_self] at h
      subst h
      have ih := splitK_cut x r (r.count x) (Lib.count_one x r)
      rw [Lib.splitK, index_one, if_pos rfl, cutL, if_pos rfl]
      simp [ih]
    · rw [List.count_cons_of_ne hx] at h
      have ih := splitK_cut c r k (by rw [Lib.count_one]; exact h)
      rw [cutL, if_neg hx, ← ih]
      cases k with
      | zero => simp [Lib.splitK, consHead]
      | succ k =>
        rw [Lib.splitK, Lib.splitK, index_one, if_neg hx]
        by_cases hi : Lib.index r [c] = -1
        · simp [hi, consHead]
        · have h0 := Lib.index_ge r [c]
          rw [if_neg hi]
          have e1 : ¬ ((Lib.index r [c] + 1 == -1) = true) := by simp; omega
          have e2 : ¬ ((Lib.index r [c] == -1) = true) := by simpa using hi
          rw [if_neg e1, if_neg e2, consHead]
          have e3 : (Lib.index r [c] + 1).toNat = (Lib.index r [c]).toNat + 1 := by omega
          rw [e3]
          simp

/-- What Split answers. -/
theorem split_list (c : UInt8) (s : ByteArray) : (Lib.splitB ⟨#[c]⟩ 0 (Lib.countB s ⟨#[c]⟩) s).map (·.data.toList) = cutL c s.data.toList := by
  rw [Lib.splitB_data]
  exact splitK_cut c _ _ rfl

theorem cutL_none {c : UInt8} : ∀ {l : List UInt8}, c ∉ l → cutL c l = [l]
  | [], _ => rfl
  | x :: r, h => by
    rw [cutL, if_neg (fun e => h (by simp [e])), cutL_none (fun hh => h (by simp [hh]))]
    rfl
theorem cutL_some {c : UInt8} : ∀ {l : List UInt8}, c ∈ l → 2 ≤ (cutL c l).length
  | [], h => by simp at h
  | x :: r, h => by
    rw [cutL]
    by_cases hx : x = c
    · rw [if_pos hx]
      have := cutL_pos c r
      simp; omega
    · rw [if_neg hx]
      have hr : c ∈ r := by
        rcases List.mem_cons.1 h with e | e
        · exact absurd e.symm hx
        · exact e
      have ih := cutL_some hr
      cases hc : cutL c r with
      | nil => rw [hc] at ih; simp at ih
      | cons a t => rw [hc] at ih; simp [consHead] at ih ⊢; exact ih
theorem cut_index {c : UInt8} : ∀ (l : List UInt8), (Lib.index l [c] = -1 ∧ c ∉ l) ∨ (0 ≤ Lib.index l [c] ∧ cutL c l = l.take (Lib.index l [c]).toNat :: cutL c (l.drop ((Lib.index l [c]).toNat + 1)))
  | [] => .inl ⟨rfl, by simp⟩
  | x :: r => by
    rw [index_one]
    by_cases hx : x = c
    · rw [if_pos hx]
      refine .inr ⟨by omega, ?_⟩
      rw [cutL, if_pos hx]
      simp
    · rw [if_neg hx]
      rcases cut_index (c := c) r with ⟨h1, h2⟩ | ⟨h1, h2⟩
      · rw [if_pos h1]
        exact .inl ⟨rfl, fun h => by rcases List.mem_cons.1 h with e | e; exact hx e.symm; exact h2 e⟩
      · rw [if_neg (by omega)]
        refine .inr ⟨by omega, ?_⟩
        rw [cutL, if_neg hx, h2, consHead]
        have e3 : (Lib.index r [c] + 1).toNat = (Lib.index r [c]).toNat + 1 := by omega
        rw [e3]
        simp

/-- The number of a kind's name, or -1. -/
def kindI (k : List UInt8) : Int := Lib.idxOfS kindB ⟨k.toArray⟩
theorem kindI_eq (k : List UInt8) : kindI k = if k = [105, 110, 116] then 0 else if k = [117, 105, 110, 116] then 1 else if k = [98, 111, 111, 108] then 2 else if k = [98, 121, 116, 101, 115] then 3 else if k = [116, 101, 120, 116] then 4 else if k = [102, 108, 111, 97, 116] then 5 else -1 := by
  have h : ∀ (a k : List UInt8), ((⟨a.toArray⟩ : ByteArray) = ⟨k.toArray⟩) = (k = a) := fun a k => by
    apply propext
    constructor
    · intro e; injection e with e; simpa using (congrArg Array.toList e).symm
    · rintro rfl; rfl
  unfold kindI Lib.idxOfS kindB
  simp only [Lib.idxFromS]
  rw [show (⟨#[105, 110, 116]⟩ : ByteArray) = ⟨[105, 110, 116].toArray⟩ from rfl, show (⟨#[117, 105, 110, 116]⟩ : ByteArray) = ⟨[117, 105, 110, 116].toArray⟩ from rfl, show (⟨#[98, 111, 111, 108]⟩ : ByteArray) = ⟨[98, 111, 111, 108].toArray⟩ from rfl,
    show (⟨#[98, 121, 116, 101, 115]⟩ : ByteArray) = ⟨[98, 121, 116, 101, 115].toArray⟩ from rfl, show (⟨#[116, 101, 120, 116]⟩ : ByteArray) = ⟨[116, 101, 120, 116].toArray⟩ from rfl, show (⟨#[102, 108, 111, 97, 116]⟩ : ByteArray) = ⟨[102, 108, 111, 97, 116].toArray⟩ from rfl]
  simp only [h]
  rfl
theorem kindI_bounds (k : List UInt8) : -1 ≤ kindI k ∧ kindI k ≤ 5 := by
  rw [kindI_eq]
  repeat' split
  all_goals omega
theorem kindI_name {k : List UInt8} (h : 0 ≤ kindI k) : kindNames.getD (kindI k).toNat [] = k := by
  rw [kindI_eq] at h ⊢
  by_cases h0 : k = [105, 110, 116]
  · rw [if_pos h0, h0]; rfl
  rw [if_neg h0] at h ⊢
  by_cases h1 : k = [117, 105, 110, 116]
  · rw [if_pos h1, h1]; rfl
  rw [if_neg h1] at h ⊢
  by_cases h2 : k = [98, 111, 111, 108]
  · rw [if_pos h2, h2]; rfl
  rw [if_neg h2] at h ⊢
  by_cases h3 : k = [98, 121, 116, 101, 115]
  · rw [if_pos h3, h3]; rfl
  rw [if_neg h3] at h ⊢
  by_cases h4 : k = [116, 101, 120, 116]
  · rw [if_pos h4, h4]; rfl
  rw [if_neg h4] at h ⊢
  by_cases h5 : k = [102, 108, 111, 97, 116]
  · rw [if_pos h5, h5]; rfl
  · rw [if_neg h5] at h; omega
theorem kindI_of {q : Nat} (h : q < 6) : kindI (kindNames.getD q []) = q := by
  obtain rfl | rfl | rfl | rfl | rfl | rfl : q = 0 ∨ q = 1 ∨ q = 2 ∨ q = 3 ∨ q = 4 ∨ q = 5 := by omega
  all_goals (rw [kindI_eq]; rfl)
theorem kindNames_letters {q : Nat} (h : q < 6) : ∀ c ∈ kindNames.getD q [], 97 ≤ c.toNat ∧ c.toNat ≤ 122 := by
  have : ∀ q : Fin 6, ∀ c ∈ kindNames.getD q.val [], 97 ≤ c.toNat ∧ c.toNat ≤ 122 := by decide
  exact this ⟨q, h⟩
theorem kindI_colon {k : List UInt8} (h : 58 ∈ k) : kindI k = -1 := by
  by_cases h0 : 0 ≤ kindI k
  · have hb := kindI_bounds k
    have hn := kindI_name h0
    have hl := kindNames_letters (q := (kindI k).toNat) (by omega) 58 (by rw [hn]; exact h)
    exact absurd hl (by decide)
  · have := (kindI_bounds k).1; omega

/-- A column of its text. -/
def prPart (p : List UInt8) : Option Col := match cutL 58 p with
  | [n, k] => if 0 ≤ kindI k then some (n, kindI k) else none
  | _ => none
theorem prPart_cut (p : List UInt8) : prPart p = if kindI (Lib.cut p [58]).2.1 < 0 then none else some ((Lib.cut p [58]).1, kindI (Lib.cut p [58]).2.1) := by
  unfold Lib.cut prPart
  rcases cut_index (c := 58) p with ⟨h1, h2⟩ | ⟨h1, h2⟩
  · rw [cutL_none h2, if_neg (show ¬ (0 ≤ Lib.index p [58]) by omega), if_pos (show kindI [] < 0 by rw [kindI_eq]; decide)]
  · rw [if_pos h1, h2]
    dsimp only
    rw [show [(58 : UInt8)].length = 1 from rfl]
    by_cases hc : (58 : UInt8) ∈ p.drop ((Lib.index p [58]).toNat + 1)
    · have h3 := cutL_some hc
      rw [if_pos (by rw [kindI_colon hc]; decide)]
      cases hd : cutL 58 (p.drop ((Lib.index p [58]).toNat + 1)) with
      | nil => rfl
      | cons a t =>
        cases t with
        | nil => exact absurd h3 (by rw [hd]; simp)
        | cons b t => rfl
    · rw [cutL_none hc]
      dsimp only
      by_cases h0 : 0 ≤ kindI (p.drop ((Lib.index p [58]).toNat + 1))
      · rw [if_pos h0, if_neg (by omega)]
      · rw [if_neg h0, if_pos (by omega)]

def prParts : List (List UInt8) → Option (List Col)
  | [] => some []
  | p :: r => match prPart p with
    | none => none
    | some c => (prParts r).map (c :: ·)
theorem prParts_app : ∀ (a b : List (List UInt8)), prParts (a ++ b) = (prParts a).bind fun x => (prParts b).map (x ++ ·)
  | [], b => by simp [prParts]
  | p :: r, b => by
    rw [List.cons_append, prParts, prParts]
    cases prPart p with
    | none => rfl
    | some c =>
      dsimp only
      rw [prParts_app r b]
      cases prParts r with
      | none => rfl
      | some x =>
        simp only [Option.bind_some, Option.map_some]
        cases prParts b <;> rfl
theorem prParts_one (p : List UInt8) : prParts [p] = (prPart p).map fun c => [c] := by
  rw [prParts]
  cases prPart p <;> rfl
theorem prParts_step {ps : List (List UInt8)} {k : Nat} {cs : List Col} (hk : k < ps.length) (h : prParts (ps.take k) = some cs) :
    (∀ c, prPart (ps.getD k []) = some c → prParts (ps.take (k + 1)) = some (cs ++ [c])) ∧ (prPart (ps.getD k []) = none → prParts ps = none) := by
  constructor
  · intro c hc
    rw [take_succD hk [], prParts_app, h, prParts_one, hc]; rfl
  · intro hc
    have e : ps = ps.take (k + 1) ++ ps.drop (k + 1) := (List.take_append_drop _ _).symm
    rw [e, prParts_app, take_succD hk [], prParts_app, h, prParts_one, hc]; rfl
/-- What is parsed of a text: the schema, and why there is none. -/
def prS (l : List UInt8) : List Col × Nat := match prParts (cutL 44 l) with
  | none => ([], 6)
  | some cs => if errS cs = 0 then (cs, 0) else ([], errS cs)

end Go.Proofs.YtkljkpffpdpphaaDoor
