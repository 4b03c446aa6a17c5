/-
  The kinds' names, as both packages list them; a slice of strings in a block of its own; 'append' of a string in a region that draws.
-/
import Derived.Test.YtkljkpffpdpphaaGreatDoorGSchema
import Derived.Deep.RegionHeld3
import Derived.Deep.AppendLies
import Derived.Lib.SplitLaws
import Derived.Lib.SlicesS
import Derived.Test.YtkljkpffpdpphaaGreatDoorOrdR
import Derived.Test.YtkljkpffpdpphaaGreatDoorBlocks
import Derived.BigQuiet
set_option linter.unusedVariables false
set_option linter.unusedSimpArgs false
set_option maxRecDepth 1000000
namespace Go.Proofs.YtkljkpffpdpphaaGreatDoor
open Go.RowKit Go.Shelf

theorem rdT_block {w : World} {b : Nat} {ss : List ByteArray} {z : Nat × Nat} (h : w.heap[b]? = some (.cells (ss.map Value.string).toArray 9 z)) (hs : ss.length ≤ 140737488351232) {n : Nat} (hn : n = ss.length) : RdT w (.slice (some ⟨b, 0, none⟩) n n) ss := by
  subst hn
  refine ⟨⟨_, _, by rw [List.length_map], by rw [List.length_map]; omega, (by intro h; cases h), fun _ => ⟨_, _, rfl⟩⟩, fun i hi j u hu => ?_, fun x hx => ?_, by rw [List.length_map]; exact hs⟩
  · rw [List.length_map] at hi
    rw [getD_map strV ss i hi default] at hu
    obtain rfl : j = 0 := by
      have := (List.getElem?_eq_some_iff.1 hu).1
      simpa [strV] using this
    have hu : Value.string (ss.getD i default) = u := by simpa [strV] using hu
    rw [adr_lit, cell_of_row _ _ _ _ _ z h, List.getElem?_toArray, List.getElem?_map]
    show (ss[0 + (i * 1 + 0)]?).map Value.string = some u
    rw [show 0 + (i * 1 + 0) = i from by omega, List.getElem?_eq_getElem hi, ← hu]
    simp [List.getD, hi]
  · obtain ⟨c, _, rfl⟩ := List.mem_map.1 hx
    rfl

/-- The kinds' names. -/
def kindB : List ByteArray := [⟨#[105, 110, 116]⟩, ⟨#[117, 105, 110, 116]⟩, ⟨#[98, 111, 111, 108]⟩, ⟨#[98, 121, 116, 101, 115]⟩, ⟨#[116, 101, 120, 116]⟩, ⟨#[102, 108, 111, 97, 116]⟩]
theorem kindB_names : kindB.map (·.data.toList) = kindNames := rfl
theorem kindB_rd {q : Nat} (h : q < 6) : RdS (kindB.getD q default) (kindNames.getD q []) ∧ (kindNames.getD q []).length ≤ 5 := by
  have : ∀ q : Fin 6, (kindB.getD q.val default) = ⟨(kindNames.getD q.val []).toArray⟩ ∧ (kindNames.getD q.val []).length ≤ 5 := by decide
  obtain ⟨h1, h2⟩ := this ⟨q, h⟩
  exact ⟨⟨h1, by dsimp only at h2; omega⟩, h2⟩

/-- 'append(s, a string)' in a region that draws. -/
theorem stepT_append {ops : Array Oper} {a : Act} {w : World} {K : Act → World → Prop} {Q : Exit → Act → World → Prop} {E : Prop} {dst : Option Tmp} {ty : TypeId} {pos : String} {aft : Array Edge} {s x : Operand}
    (base : Nat) (sv : Value) (ss : List ByteArray) (hs : a.eval s = sv) (ho : OwnT w base sv ss) (ad : Addr) (c : ByteArray) (hx : a.eval x = .slice (some ad) 1 1)
    (hc : ∀ j z, (strV c)[j]? = some z → w.cell? (ad.add j) = some z) (hn : (ss.length + 1) * 16 ≤ 140737488355328) (hbase : base ≤ w.heap.size)
    (h : ∀ v' w', OwnT w' base v' (ss ++ [c]) → w.grownBy w' sv.ownBlock → K (a.put dst v') w') :
    if Region.wanted ⟨dst, .call ⟨.builtin .append, #[s, x], #[59, 59]⟩, ty, pos, aft, none⟩ (yielded ops a.tmps) = true then Oper.wp Tryz.prog ⟨dst, .call ⟨.builtin .append, #[s, x], #[59, 59]⟩, ty, pos, aft, none⟩ a w K Q else E := by
  rw [if_pos (by simp [Region.wanted])]
  obtain ⟨i0, hi, hz0, hz1, hz2⟩ := info_parts strOk.info
  have ho' : OwnG strE w base sv (ss.map strV) := ho
  refine wp_append_own w s x 59 rfl base 9 i0 (.string ⟨#[]⟩) 1 16 Tryz.underlying59 hi hz0 hz1 hz2 rfl (by decide) sv (ss.map strV).length (ss.map strV).flatten hs ho'.1 ad 1 1 (strV c) hx rfl hc (by intro z hz; simp [strV] at hz; rw [hz]; rfl) (by rw [List.length_map]; unfold maxLen; omega) (by rw [List.length_map]; exact hn) hbase ?_
  intro v' w' h1 h2 _
  refine h v' w' ⟨?_, ?_, ?_⟩ h2
  · show w'.ownsRow base 9 1 v' _ _
    rw [List.map_append, List.length_append, List.flatten_append]; simpa using h1
  · intro y hy; obtain ⟨c, _, rfl⟩ := List.mem_map.1 hy; rfl
  · intro y hy; obtain ⟨c, _, rfl⟩ := List.mem_map.1 hy
    intro z hz; simp [strV] at hz; rw [hz]; rfl

end Go.Proofs.YtkljkpffpdpphaaGreatDoor


/-
  Texts between a byte; what is parsed of a text (no program in it).
-/
namespace Go.Proofs.YtkljkpffpdpphaaGreatDoor
open Go.RowKit Go.Shelf

def consHead (x : UInt8) : List (List UInt8) → List (List UInt8)
  | [] => [[x]]
  | h :: t => (x :: h) :: t
/-- The texts between a byte. -/
def cutL (c : UInt8) : List UInt8 → List (List UInt8)
  | [] => [[]]
  | x :: r => if x = c then [] :: cutL c r else consHead x (cutL c r)

theorem cutL_pos (c : UInt8) : ∀ l, 0 < (cutL c l).length
  | [] => by simp [cutL]
  | x :: r => by
    rw [cutL]
    split
    · simp
    · cases cutL c r <;> simp [consHead]
theorem cutL_le (c : UInt8) : ∀ l, (cutL c l).length ≤ l.length + 1
  | [] => by simp [cutL]
  | x :: r => by
    have ih := cutL_le c r
    rw [cutL]
    split
    · simp; omega
    · cases h : cutL c r with
      | nil => simp [consHead]
      | cons a t => rw [h] at ih; simp [consHead] at ih ⊢; omega
theorem cutL_part (c : UInt8) : ∀ l, ∀ p ∈ cutL c l, p.length ≤ l.length
  | [], p, hp => by simp [cutL] at hp; simp [hp]
  | x :: r, p, hp => by
    have ih := cutL_part c r
    rw [cutL] at hp
    split at hp
    · rcases List.mem_cons.1 hp with rfl | hp
      · simp
      · have := ih p hp; simp; omega
    · cases h : cutL c r with
      | nil => rw [h] at hp; simp [consHead] at hp; simp [hp]
      | cons a t =>
        rw [h] at hp ih
        rcases List.mem_cons.1 hp with rfl | hp
        · have := ih a (by simp); simp; omega
        · have := ih p (by simp [hp]); simp; omega

theorem index_one (c x : UInt8) (r : List UInt8) : Lib.index (x :: r) [c] = if x = c then 0 else if Lib.index r [c] = -1 then -1 else Lib.index r [c] + 1 := by
  have e : List.isPrefixOf [c] (x :: r) = (c == x) := by simp [List.isPrefixOf]
  rw [Lib.index, e]
  by_cases h : x = c
  · rw [if_pos h, if_pos (by simp [h])]
  · rw [if_neg h, if_neg (by simp; exact fun e => h e.symm)]
    by_cases h2 : Lib.index r [c] = -1
    · rw [if_pos h2, if_pos (by simp [h2])]
    · rw [if_neg h2, if_neg (by simpa using h2)]

theorem splitK_cut (c : UInt8) : ∀ (s : List UInt8) (k : Nat), Lib.count s [c] = k → Lib.splitK [c] 0 k s = cutL c s
  | [], k, h => by
    rw [Lib.count_one] at h
    simp at h
    subst h
    rfl
  | x :: r, k, h => by
    rw [Lib.count_one] at h
    by_cases hx : x = c
    · subst hx
      rw [List.count_cons_self] at h
      subst h
      have ih := splitK_cut x r (r.count x) (Lib.count_one x r)
      rw [Lib.splitK, index_one, if_pos rfl, cutL, if_pos rfl]
      simp [ih]
    · rw [List.count_cons_of_ne hx] at h
      have ih := splitK_cut c r k (by rw [Lib.count_one]; exact h)
      rw [cutL, if_neg hx, ← ih]
      cases k with
      | zero => simp [Lib.splitK, consHead]
      | succ k =>
        rw [Lib.splitK, Lib.splitK, index_one, if_neg hx]
        by_cases hi : Lib.index r [c] = -1
        · simp [hi, consHead]
        · have h0 := Lib.index_ge r [c]
          rw [if_neg hi]
          have e1 : ¬ ((Lib.index r [c] + 1 == -1) = true) := by simp; omega
          have e2 : ¬ ((Lib.index r [c] == -1) = true) := by simpa using hi
          rw [if_neg e1, if_neg e2, consHead]
          have e3 : (Lib.index r [c] + 1).toNat = (Lib.index r [c]).toNat + 1 := by omega
          rw [e3]
          simp

/-- What Split answers. -/
theorem split_list (c : UInt8) (s : ByteArray) : (Lib.splitB ⟨#[c]⟩ 0 (Lib.countB s ⟨#[c]⟩) s).map (·.data.toList) = cutL c s.data.toList := by
  rw [Lib.splitB_data]
  exact splitK_cut c _ _ rfl

theorem cutL_none {c : UInt8} : ∀ {l : List UInt8}, c ∉ l → cutL c l = [l]
  | [], _ => rfl
  | x :: r, h => by
    rw [cutL, if_neg (fun e => h (by simp [e])), cutL_none (fun hh => h (by simp [hh]))]
    rfl
theorem cutL_some {c : UInt8} : ∀ {l : List UInt8}, c ∈ l → 2 ≤ (cutL c l).length
  | [], h => by simp at h
  | x :: r, h => by
    rw [cutL]
    by_cases hx : x = c
    · rw [if_pos hx]
      have := cutL_pos c r
      simp; omega
    · rw [if_neg hx]
      have hr : c ∈ r := by
        rcases List.mem_cons.1 h with e | e
        · exact absurd e.symm hx
        · exact e
      have ih := cutL_some hr
      cases hc : cutL c r with
      | nil => rw [hc] at ih; simp at ih
      | cons a t => rw [hc] at ih; simp [consHead] at ih ⊢; exact ih
theorem cut_index {c : UInt8} : ∀ (l : List UInt8), (Lib.index l [c] = -1 ∧ c ∉ l) ∨ (0 ≤ Lib.index l [c] ∧ cutL c l = l.take (Lib.index l [c]).toNat :: cutL c (l.drop ((Lib.index l [c]).toNat + 1)))
  | [] => .inl ⟨rfl, by simp⟩
  | x :: r => by
    rw [index_one]
    by_cases hx : x = c
    · rw [if_pos hx]
      refine .inr ⟨by omega, ?_⟩
      rw [cutL, if_pos hx]
      simp
    · rw [if_neg hx]
      rcases cut_index (c := c) r with ⟨h1, h2⟩ | ⟨h1, h2⟩
      · rw [if_pos h1]
        exact .inl ⟨rfl, fun h => by rcases List.mem_cons.1 h with e | e; exact hx e.symm; exact h2 e⟩
      · rw [if_neg (by omega)]
        refine .inr ⟨by omega, ?_⟩
        rw [cutL, if_neg hx, h2, consHead]
        have e3 : (Lib.index r [c] + 1).toNat = (Lib.index r [c]).toNat + 1 := by omega
        rw [e3]
        simp

/-- The number of a kind's name, or -1. -/
def kindI (k : List UInt8) : Int := Lib.idxOfS kindB ⟨k.toArray⟩
theorem kindI_eq (k : List UInt8) : kindI k = if k = [105, 110, 116] then 0 else if k = [117, 105, 110, 116] then 1 else if k = [98, 111, 111, 108] then 2 else if k = [98, 121, 116, 101, 115] then 3 else if k = [116, 101, 120, 116] then 4 else if k = [102, 108, 111, 97, 116] then 5 else -1 := by
  have h : ∀ (a k : List UInt8), ((⟨a.toArray⟩ : ByteArray) = ⟨k.toArray⟩) = (k = a) := fun a k => by
    apply propext
    constructor
    · intro e; injection e with e; simpa using (congrArg Array.toList e).symm
    · rintro rfl; rfl
  unfold kindI Lib.idxOfS kindB
  simp only [Lib.idxFromS]
  rw [show (⟨#[105, 110, 116]⟩ : ByteArray) = ⟨[105, 110, 116].toArray⟩ from rfl, show (⟨#[117, 105, 110, 116]⟩ : ByteArray) = ⟨[117, 105, 110, 116].toArray⟩ from rfl, show (⟨#[98, 111, 111, 108]⟩ : ByteArray) = ⟨[98, 111, 111, 108].toArray⟩ from rfl,
    show (⟨#[98, 121, 116, 101, 115]⟩ : ByteArray) = ⟨[98, 121, 116, 101, 115].toArray⟩ from rfl, show (⟨#[116, 101, 120, 116]⟩ : ByteArray) = ⟨[116, 101, 120, 116].toArray⟩ from rfl, show (⟨#[102, 108, 111, 97, 116]⟩ : ByteArray) = ⟨[102, 108, 111, 97, 116].toArray⟩ from rfl]
  simp only [h]
  rfl
theorem kindI_bounds (k : List UInt8) : -1 ≤ kindI k ∧ kindI k ≤ 5 := by
  rw [kindI_eq]
  repeat' split
  all_goals omega
theorem kindI_name {k : List UInt8} (h : 0 ≤ kindI k) : kindNames.getD (kindI k).toNat [] = k := by
  rw [kindI_eq] at h ⊢
  by_cases h0 : k = [105, 110, 116]
  · rw [if_pos h0, h0]; rfl
  rw [if_neg h0] at h ⊢
  by_cases h1 : k = [117, 105, 110, 116]
  · rw [if_pos h1, h1]; rfl
  rw [if_neg h1] at h ⊢
  by_cases h2 : k = [98, 111, 111, 108]
  · rw [if_pos h2, h2]; rfl
  rw [if_neg h2] at h ⊢
  by_cases h3 : k = [98, 121, 116, 101, 115]
  · rw [if_pos h3, h3]; rfl
  rw [if_neg h3] at h ⊢
  by_cases h4 : k = [116, 101, 120, 116]
  · rw [if_pos h4, h4]; rfl
  rw [if_neg h4] at h ⊢
  by_cases h5 : k = [102, 108, 111, 97, 116]
  · rw [if_pos h5, h5]; rfl
  · rw [if_neg h5] at h; omega
theorem kindI_of {q : Nat} (h : q < 6) : kindI (kindNames.getD q []) = q := by
  obtain rfl | rfl | rfl | rfl | rfl | rfl : q = 0 ∨ q = 1 ∨ q = 2 ∨ q = 3 ∨ q = 4 ∨ q = 5 := by omega
  all_goals (rw [kindI_eq]; rfl)
theorem kindNames_letters {q : Nat} (h : q < 6) : ∀ c ∈ kindNames.getD q [], 97 ≤ c.toNat ∧ c.toNat ≤ 122 := by
  have : ∀ q : Fin 6, ∀ c ∈ kindNames.getD q.val [], 97 ≤ c.toNat ∧ c.toNat ≤ 122 := by decide
  exact this ⟨q, h⟩
theorem kindI_colon {k : List UInt8} (h : 58 ∈ k) : kindI k = -1 := by
  by_cases h0 : 0 ≤ kindI k
  · have hb := kindI_bounds k
    have hn := kindI_name h0
    have hl := kindNames_letters (q := (kindI k).toNat) (by omega) 58 (by rw [hn]; exact h)
    exact absurd hl (by decide)
  · have := (kindI_bounds k).1; omega

/-- A column of its text. -/
def prPart (p : List UInt8) : Option Col := match cutL 58 p with
  | [n, k] => if 0 ≤ kindI k then some (n, kindI k) else none
  | _ => none
theorem prPart_cut (p : List UInt8) : prPart p = if kindI (Lib.cut p [58]).2.1 < 0 then none else some ((Lib.cut p [58]).1, kindI (Lib.cut p [58]).2.1) := by
  unfold Lib.cut prPart
  rcases cut_index (c := 58) p with ⟨h1, h2⟩ | ⟨h1, h2⟩
  · rw [cutL_none h2, if_neg (show ¬ (0 ≤ Lib.index p [58]) by omega), if_pos (show kindI [] < 0 by rw [kindI_eq]; decide)]
  · rw [if_pos h1, h2]
    dsimp only
    rw [show [(58 : UInt8)].length = 1 from rfl]
    by_cases hc : (58 : UInt8) ∈ p.drop ((Lib.index p [58]).toNat + 1)
    · have h3 := cutL_some hc
      rw [if_pos (by rw [kindI_colon hc]; decide)]
      cases hd : cutL 58 (p.drop ((Lib.index p [58]).toNat + 1)) with
      | nil => rfl
      | cons a t =>
        cases t with
        | nil => exact absurd h3 (by rw [hd]; simp)
        | cons b t => rfl
    · rw [cutL_none hc]
      dsimp only
      by_cases h0 : 0 ≤ kindI (p.drop ((Lib.index p [58]).toNat + 1))
      · rw [if_pos h0, if_neg (by omega)]
      · rw [if_neg h0, if_pos (by omega)]

def prParts : List (List UInt8) → Option (List Col)
  | [] => some []
  | p :: r => match prPart p with
    | none => none
    | some c => (prParts r).map (c :: ·)
theorem prParts_app : ∀ (a b : List (List UInt8)), prParts (a ++ b) = (prParts a).bind fun x => (prParts b).map (x ++ ·)
  | [], b => by simp [prParts]
  | p :: r, b => by
    rw [List.cons_append, prParts, prParts]
    cases prPart p with
    | none => rfl
    | some c =>
      dsimp only
      rw [prParts_app r b]
      cases prParts r with
      | none => rfl
      | some x =>
        simp only [Option.bind_some, Option.map_some]
        cases prParts b <;> rfl
theorem prParts_one (p : List UInt8) : prParts [p] = (prPart p).map fun c => [c] := by
  rw [prParts]
  cases prPart p <;> rfl
theorem prParts_step {ps : List (List UInt8)} {k : Nat} {cs : List Col} (hk : k < ps.length) (h : prParts (ps.take k) = some cs) :
    (∀ c, prPart (ps.getD k []) = some c → prParts (ps.take (k + 1)) = some (cs ++ [c])) ∧ (prPart (ps.getD k []) = none → prParts ps = none) := by
  constructor
  · intro c hc
    rw [take_succD hk [], prParts_app, h, prParts_one, hc]; rfl
  · intro hc
    have e : ps = ps.take (k + 1) ++ ps.drop (k + 1) := (List.take_append_drop _ _).symm
    rw [e, prParts_app, take_succD hk [], prParts_app, h, prParts_one, hc]; rfl
/-- What is parsed of a text: the schema, and why there is none. -/
def prS (l : List UInt8) : List Col × Nat := match prParts (cutL 44 l) with
  | none => ([], 6)
  | some cs => if errS cs = 0 then (cs, 0) else ([], errS cs)

end Go.Proofs.YtkljkpffpdpphaaGreatDoor


/-
  The document's own answers for layer 5: the texts between a byte.
-/
namespace Go.Proofs.YtkljkpffpdpphaaGreatDoor
open Go.RowKit Go.Shelf

theorem cutL_snoc (c x : UInt8) : ∀ l : List UInt8, cutL c (l ++ [x]) = if x = c then cutL c l ++ [[]] else (cutL c l).set ((cutL c l).length - 1) ((cutL c l).getD ((cutL c l).length - 1) [] ++ [x])
  | [] => by
    rw [List.nil_append, cutL, cutL]
    by_cases hx : x = c
    · rw [if_pos hx, if_pos hx]; rfl
    · rw [if_neg hx, if_neg hx]; rfl
  | y :: r => by
    have ih := cutL_snoc c x r
    have hp := cutL_pos c r
    rw [List.cons_append, cutL, ih]
    rw [show cutL c (y :: r) = if y = c then [] :: cutL c r else consHead y (cutL c r) from by rw [cutL]]
    by_cases hy : y = c
    · rw [if_pos hy, if_pos hy]
      by_cases hx : x = c
      · rw [if_pos hx, if_pos hx]; rfl
      · rw [if_neg hx, if_neg hx]
        obtain ⟨n, hn⟩ : ∃ n, (cutL c r).length = n + 1 := ⟨(cutL c r).length - 1, by omega⟩
        rw [List.length_cons, hn]
        simp
    · rw [if_neg hy, if_neg hy]
      cases hc : cutL c r with
      | nil => rw [hc] at hp; simp at hp
      | cons h t =>
        by_cases hx : x = c
        · rw [if_pos hx, if_pos hx]; rfl
        · rw [if_neg hx, if_neg hx]
          cases t with
          | nil => simp [consHead]
          | cons a b => simp [consHead]

theorem OwnT.set {w : World} {base : Nat} {v : Value} {ss : List ByteArray} (h : OwnT w base v ss) {i : Nat} (hi : i < ss.length) (s : ByteArray) :
    OwnT (w.setCell (adr v i) (.string s)) base v (ss.set i s) ∧ w.frozen? (adr v i) = false ∧ base ≤ (adr v i).block := by
  obtain ⟨⟨h0, h2⟩, h3⟩ := h
  rw [List.length_map] at h2 h0
  rcases h2 with ⟨rfl, hn⟩ | ⟨g, cap, cur, rfl, hbg, hg, hn, hm, hs, ht⟩
  · exact absurd hi (by omega)
  · have e : adr (.slice (some ⟨g, 0, none⟩) ss.length cap) i = ⟨g, i, none⟩ := by rw [adr_lit, Nat.zero_add]
    rw [e]
    have hfl : ∀ ss : List ByteArray, (ss.map strV).flatten = ss.map Value.string := fun ss => by
      induction ss with
      | nil => rfl
      | cons a r ih => rw [List.map_cons, List.flatten_cons, ih]; rfl
    have ht' : cur.toList.take (ss.length * 1) = ss.map Value.string := by rw [← hfl]; exact ht
    refine ⟨⟨⟨by rw [hfl]; show _ = _ * 1; simp, .inr ⟨g, cap, _, by rw [List.length_map, List.length_set], hbg, block_setCell hg _, by rw [List.length_map, List.length_set]; exact hn, hm, by simpa using hs, ?_⟩⟩, ?_, ?_⟩, frozen_of_row _ _ _ _ _ hg, hbg⟩
    · rw [hfl, List.length_map, List.length_set, Array.toList_setIfInBounds, List.take_set]
      show (cur.toList.take (ss.length * 1)).set i _ = _
      rw [ht', List.map_set]
    · intro y hy; obtain ⟨c, _, rfl⟩ := List.mem_map.1 hy; rfl
    · intro y hy; obtain ⟨c, _, rfl⟩ := List.mem_map.1 hy
      intro z hz; simp [strV] at hz; rw [hz]; rfl

/-- A string of the call's own: where it lies, and that it may be turned. -/
theorem OwnT.at {w : World} {base : Nat} {v : Value} {ss : List ByteArray} (h : OwnT w base v ss) {i : Nat} (hi : i < ss.length) (hs : ss.length ≤ 140737488351232) :
    ∃ b o, (∀ u, (Instr.indexAt 59 v (.int .i64 (i : Int))).run Tryz.prog u = .ok (.pointer (some ⟨b, o, none⟩)) u) ∧ w.cell? ⟨b, o, none⟩ = some (.string (ss.getD i default)) ∧ w.frozen? ⟨b, o, none⟩ = false ∧ base ≤ b ∧
      ∀ s, OwnT (w.setCell ⟨b, o, none⟩ (.string s)) base v (ss.set i s) := by
  have hrd := h.rd hs
  have hi' : i < (ss.map strV).length := by simpa using hi
  have hx := RdG.idx hrd strOk i hi'
  have hc := RdG.cells hrd i hi' 0 (.string (ss.getD i default)) (by rw [getD_map strV ss i hi default]; rfl)
  obtain ⟨ao, cap, hv, _, _, hp⟩ := RdG.shape hrd
  obtain ⟨b, o, rfl⟩ := hp (by omega)
  have e : adr v (i * strE.n) = ⟨b, o + i, none⟩ := by rw [hv, adr_lit]; show (⟨b, o + i * 1, none⟩ : Addr) = _; rw [Nat.mul_one]
  have e2 : adr v i = ⟨b, o + i, none⟩ := by rw [hv, adr_lit]
  rw [e] at hx
  rw [Nat.add_zero, e] at hc
  have hset := fun s => h.set hi s
  rw [e2] at hset
  exact ⟨b, o + i, hx, hc, (hset ⟨#[]⟩).2.1, (hset ⟨#[]⟩).2.2, fun s => (hset s).1⟩

/-- Strings of lists of bytes. -/
def strL (ls : List (List UInt8)) : List ByteArray := ls.map fun l => ⟨l.toArray⟩
theorem strL_data (ls : List (List UInt8)) : (strL ls).map (·.data.toList) = ls := by
  unfold strL
  rw [List.map_map]
  have : ((fun x : ByteArray => x.data.toList) ∘ fun l : List UInt8 => (⟨l.toArray⟩ : ByteArray)) = id := by funext l; rfl
  rw [this, List.map_id]
theorem strL_length (ls : List (List UInt8)) : (strL ls).length = ls.length := by simp [strL]
theorem ext_one {s : ByteArray} {l : List UInt8} (h : RdS s l) {k : Nat} (hk : k < l.length) : s.extract k (k + 1) = ⟨#[l.getD k 0]⟩ := by
  rw [h.eq]
  apply ByteArray.ext
  apply Array.ext
  · simp; omega
  · intro i h1 h2
    have : i = 0 := by simpa using h2
    subst this
    simp [List.getD, hk]

theorem slice_one {s : ByteArray} {l : List UInt8} (h : RdS s l) {k : Nat} (hk : k < l.length) : ∀ u, (Instr.slice 9 (.string s) (some (.int .i64 (k : Int))) (some (.int .i64 ((k : Int) + 1))) none).run Tryz.prog u = .ok (.string ⟨#[l.getD k 0]⟩) u := by
  intro u
  have hz : s.size = l.length := by rw [h.eq]; simp [ByteArray.size]
  have e := run_slice_string (P := Tryz.prog) (w := u) 9 s .i64 .i64 (k : Int) ((k : Int) + 1) Tryz.underlying9 (by omega) (by omega) (by omega)
  rw [show ((k : Int) + 1).toNat = k + 1 from by omega, show ((k : Nat) : Int).toNat = k from by omega, ext_one h hk] at e
  exact e
theorem only_set (w : World) (b o : Nat) (v : Value) : Only (fun j => j = b) w (w.setCell ⟨b, o, none⟩ v) := Only.setCell (S := fun j => j = b) (Only.refl (fun j => j = b) w) (p := ⟨b, o, none⟩) rfl v
theorem way_only5 (S : Nat → Prop) : OrdR.Way (Only S) := ⟨fun w => Only.refl S w, fun _ _ _ h k => h.trans k⟩
instance inst_only5 (S : Nat → Prop) (w : World) : Nonempty (OrdR.GW (Only S) w) := ⟨⟨w, Only.refl S w⟩⟩
theorem w64_in {x : Int} (h : -9223372036854775808 ≤ x ∧ x ≤ 9223372036854775807) : wrap64 x = x := by unfold wrap64; omega
theorem w64_pred (n : Nat) (h : -9223372036854775808 ≤ (n : Int) ∧ (n : Int) ≤ 9223372036854775807) : IntKind.i64.wrap ((n : Int) + 1 - 1) = (n : Int) := by
  rw [show (n : Int) + 1 - 1 = n from by omega]; exact IntWalk.i64_in _ h

set_option maxHeartbeats 4000000 in
theorem ref_Cut05 (c : UInt8) (s : ByteArray) (l : List UInt8) (w : World) (h : RdS s l) (hl : l.length ≤ 100000) :
    Calls Tryz.prog 36 #[.string s, .int .u8 (c.toNat : Int)] w fun e w' => ∃ v, e = .returned v ∧ OwnT w' w.heap.size v (strL (cutL c l)) ∧ Below w.heap.size w w' := by
  have hlen := h.len
  have hidx := h.idx
  have HS := Lib.hid h
  have hO0 : OwnT (w.alloc (.cells #[.string ⟨#[]⟩] 9)) w.heap.size (.slice (some ⟨w.heap.size, 0, none⟩) 1 1) [⟨#[]⟩] :=
    ⟨⟨rfl, .inr ⟨w.heap.size, 1, _, rfl, Nat.le_refl _, heap_alloc_new w _, by decide, by decide, rfl, rfl⟩⟩, by intro y hy; simp [strV] at hy; rw [hy]; rfl, by intro y hy z hz; simp [strV] at hy; rw [hy] at hz; simp at hz; rw [hz]; rfl⟩
  have HO := Lib.hid hO0
  have HB := Lib.hid ((Below.refl w.heap.size w).alloc (Nat.le_refl _) (.cells #[.string ⟨#[]⟩] 9))
  have hc256 := c.toNat_lt
  clear h hO0
  go_enter Tryz.func36, Tryz.ntmps36
  go_wp2
  go_loopw [5, 6] (fun a i wr => ∃ k : Nat, k ≤ l.length ∧ i = .int .i64 k ∧ Hid (OwnT wr w.heap.size a (strL (cutL c (l.take k)))) ∧ Hid (Below w.heap.size w wr)) (fun _ i _ => l.length - (intOf i).toNat)
  case atStart => exact ⟨0, by omega, rfl, HO, HB⟩
  case round =>
    clear HO HB
    obtain ⟨k, hk, rfl, HO, HB⟩ := hrel
    by_cases hlt : k < l.length
    · have hx := hidx k hlt
      obtain ⟨d, hd⟩ : ∃ d, d = l.getD k 0 := ⟨_, rfl⟩
      have hd9 : at8 l k = (d.toNat : Int) := by rw [hd]; rfl
      rw [hd9] at hx
      have hsn := cutL_snoc c d (l.take k)
      have htk : l.take (k + 1) = l.take k ++ [d] := by rw [take_succD hlt 0, hd]
      rw [← htk] at hsn
      have hcp := cutL_pos c (l.take k)
      have hcle := cutL_le c (l.take k)
      have htl : (l.take k).length = k := by simp; omega
      rw [htl] at hcle
      obtain ⟨L, hL⟩ : ∃ L, L = cutL c (l.take k) := ⟨_, rfl⟩
      rw [← hL] at hsn hcp hcle HO
      have HSN := Lib.hid hsn
      have hwb := HB.out.size
      have hdn := d.toNat_lt
      by_cases hdc : d = c
      · have q : ((d.toNat : Int) == (c.toNat : Int)) = true := by rw [hdc]; simp
        have q2 : (d.toNat == c.toNat) = true := by rw [hdc]; simp
        have HSN2 := Lib.hid (show strL (cutL c (l.take (k + 1))) = strL L ++ [⟨#[]⟩] from by rw [HSN.out, if_pos hdc]; unfold strL; rw [List.map_append]; rfl)
        have HO1 := Lib.hid (HO.out.alloc (.cells #[.string ⟨#[]⟩] 9))
        have HB1 := Lib.hid (HB.out.alloc HB.out.size (.cells #[.string ⟨#[]⟩] 9))
        have hll : (strL L).length = L.length := strL_length L
        clear hd hd9 hsn htk htl hL hdc HSN hidx
        go_wp2_with (with_reducible refine wplT_append w.heap.size _ ?hs HO1.out ⟨wr.heap.size, 0, none⟩ ⟨#[]⟩ ?hx (one_str wr ⟨#[]⟩) ?hn ?hbase w.heap.size w HB1.out (Nat.le_refl _) ?_)
        case hs => rfl
        case hx => rfl
        case hn => rw [hll]; omega
        case hbase => simp; omega
        intro v5 w5 hO5 hB5 hg5
        have HO5 := Lib.hid (show OwnT w5 w.heap.size v5 (strL (cutL c (l.take (k + 1)))) from by rw [HSN2.out]; exact hO5)
        have HB5 := Lib.hid hB5
        clear hO5 hB5 hg5 hll
        go_wp2
        go_roundw
        case rel => exact ⟨k + 1, by omega, by go_num, HO5, HB5⟩
        case measure => simp [intOf]; omega
      · have q : ((d.toNat : Int) == (c.toNat : Int)) = false := by
          rw [beq_eq_false_iff_ne]
          intro e
          exact hdc (UInt8.toNat_inj.mp (by omega))
        obtain ⟨n, hn⟩ : ∃ n, L.length = n + 1 := ⟨L.length - 1, by omega⟩
        have hll : (strL L).length = n + 1 := by rw [strL_length, hn]
        have hrd := HO.out.rd (by omega)
        have hle := hrd.len
        rw [hll, show ((n + 1 : Nat) : Int) = (n : Int) + 1 from by omega] at hle
        obtain ⟨b, o, hi, hcl, hfz, hbb, hset⟩ := HO.out.at (i := n) (by omega) (by omega)
        have hget : (strL L).getD n default = ⟨(L.getD n []).toArray⟩ := by
          unfold strL; simp [List.getD, hn]
        rw [hget] at hcl
        obtain ⟨lst, hlst⟩ : ∃ lst : ByteArray, lst = ⟨(L.getD n []).toArray⟩ := ⟨_, rfl⟩
        rw [← hlst] at hcl
        have hext := slice_one HS.out hlt
        rw [← hd] at hext
        obtain ⟨db, hdb⟩ : ∃ db : ByteArray, db = ⟨#[d]⟩ := ⟨_, rfl⟩
        rw [← hdb] at hext
        have hlz : lst.size ≤ 100000 := by
          have h1 : lst.size = (L.getD n []).length := by rw [hlst]; simp [ByteArray.size]
          have h2 : L.getD n [] ∈ cutL c (l.take k) := by
            rw [← hL, show L.getD n [] = L[n]'(by omega) from by simp [List.getD, hn]]
            exact List.getElem_mem _
          have h3 := cutL_part c _ _ h2
          rw [htl] at h3
          omega
        have hdz : db.size = 1 := by rw [hdb]; rfl
        have p1 : ¬ (9223372036854775807 < lst.size + db.size) := by omega
        have p2 : ¬ (9223372036854775807 < lst.size + 1) := by omega
        have hsz : s.size = l.length := by rw [HS.out.eq]; simp [ByteArray.size]
        have hk0 : (0 : Int) ≤ (k : Int) := by omega
        have hk1 : (k : Int) ≤ (k : Int) + 1 := by omega
        have hk2 : (k : Int) + 1 ≤ (s.size : Int) := by omega
        have b1 : -9223372036854775808 ≤ (n : Int) ∧ (n : Int) ≤ 9223372036854775807 := by omega
        have b2 : -9223372036854775808 ≤ (k : Int) + 1 ∧ (k : Int) + 1 ≤ 9223372036854775807 := by omega
        have e3 : ((k : Int) + 1).toNat = k + 1 := by omega
        have HSN2 := Lib.hid (show strL (cutL c (l.take (k + 1))) = (strL L).set n (lst ++ db) from by
          rw [HSN.out, if_neg hdc, hn, Nat.add_sub_cancel]
          unfold strL
          rw [List.map_set]
          congr 1
          rw [hlst, hdb]
          apply ByteArray.ext
          simp)
        have w1 := w64_pred n b1
        have w0 := IntWalk.i64_in _ b1
        have w00 := w64_in b1
        have w22 := w64_in b2
        have w2 := IntWalk.i64_in _ b2
        clear b1 b2
        have HSET := Lib.hid hset
        clear hd hd9 hsn htk htl hL hdc HSN hidx hn hll hrd hget hlst hdb hset
        go_wp2
        refine OrdR.wp_region_ord (way_only5 (fun j => j = b)) [(0, false), (1, false), (2, false), (3, false), (4, false), (5, false), (6, false), (7, false), (8, false), (10, false), (11, false), (12, false), (13, false), (14, false), (9, true), (15, false), (16, false), (17, true)] (by kernel_rfl) rfl (by kernel_rfl) (by kernel_rfl) (fun _ _ _ d _ h => by cases d <;> exact h) ?_
        refine OrdR.ord_still rfl rfl (by kernel_rfl) (fun K hK => ?_)
        go_big_quiet_op
        refine hK _ ?_; clear hK K
        refine OrdR.ord_still rfl rfl (by kernel_rfl) (fun K hK => ?_)
        go_big_quiet_op
        refine hK _ ?_; clear hK K
        refine OrdR.ord_still rfl rfl (by kernel_rfl) (fun K hK => ?_)
        go_big_quiet_op
        refine hK _ ?_; clear hK K
        refine OrdR.ord_still rfl rfl (by kernel_rfl) (fun K hK => ?_)
        go_big_quiet_op
        refine hK _ ?_; clear hK K
        refine OrdR.ord_still rfl rfl (by kernel_rfl) (fun K hK => ?_)
        go_big_quiet_op
        refine hK _ ?_; clear hK K
        refine OrdR.ord_still rfl rfl (by kernel_rfl) (fun K hK => ?_)
        go_big_quiet_op
        refine hK _ ?_; clear hK K
        refine OrdR.ord_still rfl rfl (by kernel_rfl) (fun K hK => ?_)
        go_big_quiet_op
        refine hK _ ?_; clear hK K
        refine OrdR.ord_still rfl rfl (by kernel_rfl) (fun K hK => ?_)
        go_big_quiet_op
        refine hK _ ?_; clear hK K
        refine OrdR.ord_still rfl rfl (by kernel_rfl) (fun K hK => ?_)
        go_big_quiet_op
        refine hK _ ?_; clear hK K
        refine OrdR.ord_still rfl rfl (by kernel_rfl) (fun K hK => ?_)
        go_big_quiet_op
        refine hK _ ?_; clear hK K
        refine OrdR.ord_still rfl rfl (by kernel_rfl) (fun K hK => ?_)
        go_big_quiet_op
        refine hK _ ?_; clear hK K
        refine OrdR.ord_still rfl rfl (by kernel_rfl) (fun K hK => ?_)
        go_big_quiet_op
        refine hK _ ?_; clear hK K
        refine OrdR.ord_still rfl rfl (by kernel_rfl) (fun K hK => ?_)
        go_big_quiet_op
        refine hK _ ?_; clear hK K
        refine OrdR.ord_still rfl rfl (by kernel_rfl) (fun K hK => ?_)
        go_big_quiet_op
        refine hK _ ?_; clear hK K
        refine OrdR.ord_loud rfl (by kernel_rfl) (fun K hK => ?_)
        go_big_op
        refine hK _ _ (Only.refl _ _) ?_; clear hK K
        refine OrdR.ord_still rfl rfl (by kernel_rfl) (fun K hK => ?_)
        go_big_quiet_op
        refine hK _ ?_; clear hK K
        refine OrdR.ord_still rfl rfl (by kernel_rfl) (fun K hK => ?_)
        go_big_quiet_op
        refine hK _ ?_; clear hK K
        refine OrdR.ord_loud rfl (by kernel_rfl) (fun K hK => ?_)
        go_big_op
        refine hK _ _ (only_set wr.drew b o _) ?_; clear hK K
        refine OrdR.ord_nil ?_
        clear w0 w00 w1 w2 w22 e3
        have HB6 := Lib.hid ((HB.out.setCell (p := ⟨b, o, none⟩) hbb (.string (lst ++ db))).drew)
        have HO6 := Lib.hid (show OwnT (wr.setCell ⟨b, o, none⟩ (.string (lst ++ db))).drew w.heap.size u5 (strL (cutL c (l.take (k + 1)))) from by
          rw [HSN2.out]; exact OwnT.drew (HSET.out (lst ++ db)))
        clear hcl hfz
        go_wp2
        go_roundw
        case rel => exact ⟨k + 1, by omega, by go_num, HO6, HB6⟩
        case measure => simp [intOf]; omega
    · obtain rfl : k = l.length := by omega
      have HO2 := HO.out
      rw [List.take_of_length_le (Nat.le_refl _)] at HO2
      have HO3 := Lib.hid HO2
      clear hlt HO2
      go_wp2
      go_ret
      exact ⟨_, rfl, HO3.out, HB.out⟩

end Go.Proofs.YtkljkpffpdpphaaGreatDoor

