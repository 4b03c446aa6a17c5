/-
  Bytes and schemas undo each other (no program in it): what is read whole has those bytes.
-/
import Derived.Test.YtkljkpffpdpphaaDoorEncOne
import Derived.Test.YtkljkpffpdpphaaDoorSchRead
import Derived.Test.YtkljkpffpdpphaaDoorSchSplit
import Derived.Test.YtkljkpffpdpphaaDoorReaderMath
import Derived.Test.YtkljkpffpdpphaaDoorSchParse
import Derived.Test.YtkljkpffpdpphaaDoorSchWrite
import Derived.Test.YtkljkpffpdpphaaDoorCols
import Derived.Test.YtkljkpffpdpphaaDoorSchSame
import Derived.BigRegion
import Derived.RegionTactic
import Derived.Test.YtkljkpffpdpphaaDoorLawKit
import Derived.Lib.LaidU8T
import Derived.PinnedBridge
import Derived.Lay
import Derived.Handed
import Derived.OpenVars
import Derived.ShapedOpen
import Derived.Shelf.Vars
import Derived.Lib.SmallJoins
import Derived.Deep.Slices
import Derived.Test.YtkljkpffpdpphaaDoorTie
import Derived.Test.YtkljkpffpdpphaaDoorCards
import Derived.LaidOnce
import Derived.SevenTiedAt
set_option linter.unusedVariables false
set_option linter.unusedSimpArgs false
set_option maxRecDepth 1000000
namespace Go.Proofs.YtkljkpffpdpphaaDoor
open Go.RowKit

theorem take_plus {l : List UInt8} {k n : Nat} {x : List UInt8} (h : x = (l.drop k).take n) : l.take (k + n) = l.take k ++ x := by
  rw [h, List.take_add]

theorem rdU_enc {l : List UInt8} {k most : Nat} (hk : k ≤ l.length) (h : (rdU l k most).2.2 = 0) :
    l.take (rdU l k most).2.1 = l.take k ++ encU (rdU l k most).1 ∧ (rdU l k most).2.1 ≤ l.length ∧ (rdU l k most).1 ≤ most := by
  unfold rdU at h ⊢
  by_cases h1 : (getU (l.drop k)).2.2 ≠ 0
  · rw [if_pos h1] at h; exact absurd h h1
  · rw [if_neg h1] at h ⊢
    by_cases h2 : most < (getU (l.drop k)).1
    · rw [if_pos h2] at h; cases h
    · rw [if_neg h2]
      have h0 : (getU (l.drop k)).2.2 = 0 := Decidable.of_not_not h1
      have hg := getU_good (l.drop k) h0
      have he : encU (getU (l.drop k)).1 = (l.drop k).take (getU (l.drop k)).2.1 := getU_enc (l := l.drop k) (by rw [← h0])
      rw [List.length_drop] at hg
      exact ⟨take_plus he, by dsimp only; omega, by dsimp only; omega⟩

theorem getB_most {l : List UInt8} {most : Nat} (h : (getB l (most : Int)).2.2 = 0) : (getB l (most : Int)).1.length ≤ most := by
  unfold getB at h ⊢
  split at h
  · rename_i h1; exact absurd h h1
  · rename_i h1
    split at h
    · cases h
    · rename_i h2
      split at h
      · cases h
      · rename_i h3
        rw [if_neg h1, if_neg h2, if_neg h3]
        dsimp only
        rw [List.length_take]
        omega

theorem rdB_enc {l : List UInt8} {k : Nat} (hk : k ≤ l.length) (h : (rdB l k 32).2.2 = 0) :
    l.take (rdB l k 32).2.1 = l.take k ++ encB (rdB l k 32).1 ∧ (rdB l k 32).2.1 ≤ l.length ∧ (rdB l k 32).1.length ≤ 32 := by
  unfold rdB at h ⊢
  by_cases h1 : (getB (l.drop k) 32).2.2 ≠ 0
  · rw [if_pos h1] at h; exact absurd h h1
  · rw [if_neg h1]
    have h0 : (getB (l.drop k) 32).2.2 = 0 := Decidable.of_not_not h1
    obtain ⟨he, h2, h3, _⟩ := getB_enc (l := l.drop k) (most := 32) (c := (getB (l.drop k) 32).1) (n := (getB (l.drop k) 32).2.1) (by rw [← h0])
    rw [List.length_drop] at h3
    exact ⟨take_plus he, by dsimp only; omega, getB_most (most := 32) h0⟩

theorem rdCol_enc {l : List UInt8} {ah : List (List UInt8)} {k : Nat} (hk : k ≤ l.length) (h : (rdCol l ah k).2.2 = 0) :
    l.take (rdCol l ah k).2.1 = l.take k ++ wrCol (rdCol l ah k).1 ∧ (rdCol l ah k).2.1 ≤ l.length ∧ colErr ah (rdCol l ah k).1 = 0 := by
  by_cases h1 : (rdB l k 32).2.2 = 0
  · obtain ⟨he, hle, h32⟩ := rdB_enc hk h1
    by_cases hf : fine (rdB l k 32).1 ah = true
    · by_cases hs : (rdB l k 32).2.1 < l.length
      · by_cases h5 : 5 < at8 l (rdB l k 32).2.1
        · rw [rdCol_kind h1 hf hs h5] at h; cases h
        · rw [rdCol_ok h1 hf hs h5]
          dsimp only
          have h8 : 0 ≤ at8 l (rdB l k 32).2.1 := by unfold at8; omega
          refine ⟨?_, by omega, ?_⟩
          · rw [take_succD hs 0, he]
            unfold wrCol
            dsimp only
            rw [show UInt8.ofNat (at8 l (rdB l k 32).2.1).toNat = l.getD (rdB l k 32).2.1 0 from by unfold at8; rw [Int.toNat_natCast]; simp, List.append_assoc]
          · unfold colErr
            dsimp only
            rw [if_neg (by omega), if_neg (by rw [hf]; simp), if_neg (by omega)]
      · rw [rdCol_short h1 hf hs] at h; cases h
    · have hf2 : fine (rdB l k 32).1 ah = false := by simpa using hf
      rw [rdCol_name h1 hf2] at h; cases h
  · rw [rdCol_bytes h1] at h; exact absurd h h1

theorem names_app (a b : List Col) : names (a ++ b) = names a ++ names b := by simp [names]
theorem errFrom_snoc : ∀ (acc : List Col) (ah : List (List UInt8)) (c : Col), errFrom ah acc = 0 → colErr (ah ++ names acc) c = 0 → errFrom ah (acc ++ [c]) = 0
  | [], ah, c, _, hc => by
    rw [List.nil_append, errFrom, if_neg (by simpa [names] using hc), errFrom]
  | x :: r, ah, c, h, hc => by
    rw [errFrom] at h
    by_cases hx : colErr ah x ≠ 0
    · rw [if_pos hx] at h; exact absurd h hx
    · rw [if_neg hx] at h
      rw [List.cons_append, errFrom, if_neg hx]
      refine errFrom_snoc r _ c h ?_
      rw [List.append_assoc]
      exact hc

theorem rdCols_enc (l P : List UInt8) : ∀ (m : Nat) (acc : List Col) (k : Nat), k ≤ l.length → l.take k = P ++ wrCols acc → errFrom [] acc = 0 → (rdCols l m acc k).2.2 = 0 →
    l.take (rdCols l m acc k).2.1 = P ++ wrCols (rdCols l m acc k).1 ∧ (rdCols l m acc k).2.1 ≤ l.length ∧ errFrom [] (rdCols l m acc k).1 = 0 ∧ (rdCols l m acc k).1.length = acc.length + m
  | 0, acc, k, hk, ht, he, h => by rw [rdCols]; exact ⟨ht, hk, he, rfl⟩
  | m + 1, acc, k, hk, ht, he, h => by
    rw [rdCols] at h ⊢
    by_cases h1 : (rdCol l (names acc) k).2.2 ≠ 0
    · rw [if_pos h1] at h; exact absurd h h1
    · rw [if_neg h1] at h ⊢
      obtain ⟨c1, c2, c3⟩ := rdCol_enc hk (Decidable.of_not_not h1)
      have ih := rdCols_enc l P m (acc ++ [(rdCol l (names acc) k).1]) (rdCol l (names acc) k).2.1 c2 (by
        rw [c1, ht]; unfold wrCols; rw [List.flatMap_append, List.append_assoc]; simp) (errFrom_snoc acc [] _ he (by simpa using c3)) h
      refine ⟨ih.1, ih.2.1, ih.2.2.1, ?_⟩
      rw [ih.2.2.2, List.length_append, List.length_singleton]; omega

theorem rdTake_enc {l : List UInt8} (h : (rdTake l).2.2 = 0) : l.take (rdTake l).2.1 = wrS (rdTake l).1 ∧ (rdTake l).2.1 ≤ l.length ∧ errS (rdTake l).1 = 0 := by
  unfold rdTake at h ⊢
  by_cases h1 : (rdU l 0 8).2.2 ≠ 0
  · rw [if_pos h1] at h; exact absurd h h1
  · rw [if_neg h1] at h ⊢
    by_cases h2 : (rdU l 0 8).1 = 0
    · rw [if_pos h2] at h; cases h
    · rw [if_neg h2] at h ⊢
      obtain ⟨u1, u2, u3⟩ := rdU_enc (Nat.zero_le _) (Decidable.of_not_not h1)
      rw [List.take_zero, List.nil_append] at u1
      obtain ⟨r1, r2, r3, r4⟩ := rdCols_enc l (encU (rdU l 0 8).1) (rdU l 0 8).1 [] (rdU l 0 8).2.1 u2 (by rw [u1]; simp [wrCols]) rfl h
      rw [List.length_nil, Nat.zero_add] at r4
      refine ⟨?_, r2, ?_⟩
      · rw [r1]; unfold wrS; rw [r4]
      · unfold errS; rw [if_neg (by omega), if_neg (by omega)]; exact r3

theorem told_zero {l : List UInt8} {k x : Nat} (h : told l k x = 0) : x = 0 ∧ l.length ≤ k := by
  unfold told at h
  split at h
  · rename_i hx
    split at h
    · cases h
    · exact ⟨hx, by omega⟩
  · rename_i hx; exact absurd h hx
/-- What is read whole may be, and has those bytes. -/
theorem read_one {l : List UInt8} (h : readE l = 0) : errS (readC l) = 0 ∧ wrS (readC l) = l ∧ (rdTake l).2.1 = l.length := by
  obtain ⟨h1, h2⟩ := told_zero h
  obtain ⟨a, b, c⟩ := rdTake_enc h1
  have hk : (rdTake l).2.1 = l.length := by omega
  rw [hk, List.take_of_length_le (Nat.le_refl _)] at a
  unfold readC
  rw [if_pos h]
  exact ⟨c, a.symm, hk⟩

theorem cutL_join (c : UInt8) : ∀ l, Lib.join (cutL c l) [c] = l
  | [] => by rw [cutL, Lib.join_one]
  | x :: r => by
    have ih := cutL_join c r
    have hp := cutL_pos c r
    rw [cutL]
    cases hc : cutL c r with
    | nil => rw [hc] at hp; simp at hp
    | cons a t =>
      rw [hc] at ih
      rw [Lib.join_cons] at ih
      split
      · rename_i hx
        rw [Lib.join_cons]
        rw [hx, ← ih]
        simp [Lib.joinTail]
      · rw [consHead, Lib.join_cons]
        simpa using ih
theorem prPart_text {p : List UInt8} {c : Col} (h : prPart p = some c) : txCol c = p := by
  have hj := cutL_join 58 p
  unfold prPart at h
  split at h
  · rename_i n k hc
    rw [hc] at hj
    by_cases h0 : 0 ≤ kindI k
    · rw [if_pos h0] at h
      cases h
      unfold txCol
      dsimp only
      rw [kindI_name h0, ← hj, Lib.join_cons]
      simp [Lib.joinTail]
    · rw [if_neg h0] at h; cases h
  · cases h
theorem prParts_text : ∀ {ps : List (List UInt8)} {cs : List Col}, prParts ps = some cs → cs.map txCol = ps
  | [], cs, h => by rw [prParts] at h; cases h; rfl
  | p :: r, cs, h => by
    rw [prParts] at h
    cases hp : prPart p with
    | none => rw [hp] at h; cases h
    | some c =>
      rw [hp] at h
      dsimp only at h
      cases hr : prParts r with
      | none => rw [hr] at h; cases h
      | some x =>
        rw [hr] at h
        cases h
        rw [List.map_cons, prPart_text hp, prParts_text hr]
/-- What is parsed of a text has that text. -/
theorem parse_one {l : List UInt8} : ((prS l).2 = 0 ∧ errS (prS l).1 = 0 ∧ txS (prS l).1 = l) ∨ ((prS l).2 ≠ 0 ∧ (prS l).1 = []) := by
  unfold prS
  cases hp : prParts (cutL 44 l) with
  | none => exact .inr ⟨by simp, rfl⟩
  | some cs =>
    dsimp only
    by_cases h0 : errS cs = 0
    · rw [if_pos h0]
      refine .inl ⟨rfl, h0, ?_⟩
      unfold txS
      rw [prParts_text hp]
      exact cutL_join 44 l
    · rw [if_neg h0]
      exact .inr ⟨h0, rfl⟩

/-! The place is within the bytes. -/
theorem rdCol_place {l : List UInt8} {ah : List (List UInt8)} {k : Nat} (hk : k ≤ l.length) : (rdCol l ah k).2.1 ≤ l.length := by
  by_cases h1 : (rdB l k 32).2.2 = 0
  · obtain ⟨_, hle, _⟩ := rdB_enc hk h1
    by_cases hf : fine (rdB l k 32).1 ah = true
    · by_cases hs : (rdB l k 32).2.1 < l.length
      · by_cases h5 : 5 < at8 l (rdB l k 32).2.1
        · rw [rdCol_kind h1 hf hs h5]; dsimp only; omega
        · rw [rdCol_ok h1 hf hs h5]; dsimp only; omega
      · rw [rdCol_short h1 hf hs]; dsimp only; omega
    · have hf2 : fine (rdB l k 32).1 ah = false := by simpa using hf
      rw [rdCol_name h1 hf2]; dsimp only; omega
  · rw [rdCol_bytes h1]
    dsimp only
    unfold rdB at h1 ⊢
    split
    · exact hk
    · rename_i h2
      rw [if_neg h2] at h1
      exact absurd rfl h1
theorem rdCols_place (l : List UInt8) : ∀ (m : Nat) (acc : List Col) (k : Nat), k ≤ l.length → (rdCols l m acc k).2.1 ≤ l.length
  | 0, acc, k, hk => by rw [rdCols]; exact hk
  | m + 1, acc, k, hk => by
    have hc := rdCol_place (ah := names acc) hk
    rw [rdCols]
    split
    · exact hc
    · exact rdCols_place l m _ _ hc
theorem rdTake_place (l : List UInt8) : (rdTake l).2.1 ≤ l.length := by
  have hu : (rdU l 0 8).2.1 ≤ l.length := by
    by_cases h0 : (rdU l 0 8).2.2 = 0
    · exact (rdU_enc (Nat.zero_le _) h0).2.1
    · unfold rdU at h0 ⊢
      split
      · exact Nat.zero_le _
      · split
        · exact Nat.zero_le _
        · rename_i h1 h2
          rw [if_neg h1, if_neg h2] at h0
          exact absurd rfl h0
  unfold rdTake
  split
  · exact hu
  · split
    · exact hu
    · exact rdCols_place l _ _ _ hu

end Go.Proofs.YtkljkpffpdpphaaDoor


/-
  Bytes and schemas undo each other (no program in it): a schema's bytes are read as it; fewer are too short, one more too long; its text is parsed as it.
-/
namespace Go.Proofs.YtkljkpffpdpphaaDoor
open Go.RowKit

theorem rdB_at {l n rest : List UInt8} {k : Nat} (hd : l.drop k = encB n ++ rest) (hn : n.length ≤ 32) : rdB l k 32 = (n, k + (encB n).length, 0) := by
  unfold rdB
  rw [hd, getB_put' n rest 32 (by omega) (by omega)]
  rfl
theorem drop_plus {l a b : List UInt8} {k : Nat} (hd : l.drop k = a ++ b) : l.drop (k + a.length) = b := by
  rw [← List.drop_drop, hd, List.drop_left' rfl]
theorem drop_lt {l a : List UInt8} {k : Nat} {x : UInt8} {b : List UInt8} (hd : l.drop k = a ++ x :: b) : k + a.length < l.length := by
  have := congrArg List.length hd
  rw [List.length_drop, List.length_append, List.length_cons] at this
  omega
theorem wrCol_length (c : Col) : (wrCol c).length = (encB c.1).length + 1 := by unfold wrCol; simp
theorem rdCol_put {l rest : List UInt8} {ah : List (List UInt8)} {k : Nat} {c : Col} (hd : l.drop k = wrCol c ++ rest) (hc : colErr ah c = 0) : rdCol l ah k = (c, k + (wrCol c).length, 0) := by
  obtain ⟨h1, h2, h3, h4⟩ := colErr_zero hc
  have hd2 : l.drop k = encB c.1 ++ (UInt8.ofNat c.2.toNat :: rest) := by rw [hd]; unfold wrCol; simp
  have hB := rdB_at hd2 h1
  have hlt := drop_lt hd2
  have hat : at8 l (k + (encB c.1).length) = c.2 := by
    have e := drop_plus hd2
    rw [List.drop_eq_getElem_cons hlt] at e
    injection e with e1 e2
    unfold at8
    rw [show l.getD (k + (encB c.1).length) 0 = l[k + (encB c.1).length] from by simp [List.getD, hlt], e1, UInt8.toNat_ofNat']
    omega
  rw [rdCol_ok (by rw [hB]) (by rw [hB]; exact h2) (by rw [hB]; exact hlt) (by rw [hB]; dsimp only; rw [hat]; omega), hB]
  dsimp only
  rw [hat, wrCol_length, Nat.add_assoc]
theorem errFrom_cons {ah : List (List UInt8)} {c : Col} {r : List Col} (h : errFrom ah (c :: r) = 0) : colErr ah c = 0 ∧ errFrom (ah ++ [c.1]) r = 0 := by
  rw [errFrom] at h
  by_cases hx : colErr ah c ≠ 0
  · rw [if_pos hx] at h; exact absurd h hx
  · rw [if_neg hx] at h; exact ⟨Decidable.of_not_not hx, h⟩
theorem names_snoc (acc : List Col) (c : Col) : names (acc ++ [c]) = names acc ++ [c.1] := by simp [names]
theorem rdCols_put (l m : List UInt8) : ∀ (r acc : List Col) (k : Nat), l.drop k = wrCols r ++ m → errFrom (names acc) r = 0 → rdCols l r.length acc k = (acc ++ r, k + (wrCols r).length, 0)
  | [], acc, k, hd, he => by rw [List.length_nil, rdCols]; simp [wrCols]
  | c :: r, acc, k, hd, he => by
    obtain ⟨e1, e2⟩ := errFrom_cons he
    have hw : wrCols (c :: r) = wrCol c ++ wrCols r := by unfold wrCols; rw [List.flatMap_cons]
    rw [hw, List.append_assoc] at hd
    have hp := rdCol_put hd e1
    rw [List.length_cons, rdCols_go hp, rdCols_put l m r (acc ++ [c]) _ (drop_plus hd) (by rw [names_snoc]; exact e2), hw, List.length_append]
    simp [Nat.add_assoc]
theorem rdTake_put {cs : List Col} (h : errS cs = 0) (m : List UInt8) : rdTake (wrS cs ++ m) = (cs, (wrS cs).length, 0) := by
  obtain ⟨z1, z2, z3, _⟩ := errS_zero h
  have hU : rdU (wrS cs ++ m) 0 8 = (cs.length, (encU cs.length).length, 0) := by
    unfold rdU wrS
    rw [List.drop_zero, List.append_assoc, getU_put cs.length (by omega)]
    dsimp only
    rw [if_neg (by omega), if_neg (by omega)]
    simp
  unfold rdTake
  rw [hU]
  dsimp only
  rw [if_neg (by omega), if_neg (by omega)]
  rw [rdCols_put _ m cs [] _ (by unfold wrS; rw [List.append_assoc, List.drop_left' rfl]) z3]
  unfold wrS
  rw [List.length_append, List.nil_append]

theorem take_split {a b : List UInt8} {j : Nat} (h : a.length ≤ j) : (a ++ b).take j = a ++ b.take (j - a.length) := by
  rw [List.take_append, List.take_of_length_le h]
theorem take_front {a b : List UInt8} {j : Nat} (h : j ≤ a.length) : (a ++ b).take j = a.take j := by
  rw [List.take_append, Nat.sub_eq_zero_of_le h]; simp
theorem rdCol_less {l : List UInt8} {ah : List (List UInt8)} {k j : Nat} {c : Col} (hk : k ≤ l.length) (hd : l.drop k = (wrCol c).take j) (hj : j < (wrCol c).length) (hc : colErr ah c = 0) : (rdCol l ah k).2.2 = 5 ∧ (rdCol l ah k).1 = ([], 0) := by
  obtain ⟨h1, h2, h3, h4⟩ := colErr_zero hc
  rw [wrCol_length] at hj
  unfold wrCol at hd
  rw [take_front (by omega)] at hd
  by_cases hx : j < (encB c.1).length
  · have hB : rdB l k 32 = ([], k, 5) := by
      unfold rdB
      rw [hd, getB_cut' c.1 j 32 (by omega) (by omega) hx]
      rfl
    rw [rdCol_bytes (by rw [hB]; show (5 : Nat) ≠ 0; decide), hB]
    exact ⟨rfl, rfl⟩
  · have hj2 : j = (encB c.1).length := by omega
    have hd2 : l.drop k = encB c.1 ++ [] := by rw [hd, hj2, List.take_of_length_le (Nat.le_refl _), List.append_nil]
    have hB := rdB_at hd2 h1
    have hll := congrArg List.length hd2
    rw [List.length_drop, List.append_nil] at hll
    rw [rdCol_short (by rw [hB]) (by rw [hB]; exact h2) (by rw [hB]; dsimp only; omega)]
    exact ⟨rfl, rfl⟩
theorem rdCols_less (l : List UInt8) : ∀ (r acc : List Col) (k j : Nat), k ≤ l.length → l.drop k = (wrCols r).take j → j < (wrCols r).length → errFrom (names acc) r = 0 → (rdCols l r.length acc k).2.2 = 5
  | [], acc, k, j, hk, hd, hj, he => by simp [wrCols] at hj
  | c :: r, acc, k, j, hk, hd, hj, he => by
    obtain ⟨e1, e2⟩ := errFrom_cons he
    have hw : wrCols (c :: r) = wrCol c ++ wrCols r := by unfold wrCols; rw [List.flatMap_cons]
    rw [hw] at hd hj
    by_cases hx : j < (wrCol c).length
    · rw [take_front (by omega)] at hd
      obtain ⟨a, b⟩ := rdCol_less (ah := names acc) hk hd hx e1
      rw [List.length_cons, rdCols, if_pos (by rw [a]; decide)]
      exact a
    · rw [take_split (by omega)] at hd
      have hp := rdCol_put hd e1
      have hle := congrArg List.length hd
      rw [List.length_drop, List.length_append] at hle
      have hwp := wrCol_length c
      rw [List.length_append] at hj
      rw [List.length_cons, rdCols_go hp]
      exact rdCols_less l r (acc ++ [c]) _ (j - (wrCol c).length) (by omega) (drop_plus hd) (by omega) (by rw [names_snoc]; exact e2)
theorem rdTake_less {cs : List Col} (h : errS cs = 0) {i : Nat} (hi : i < (wrS cs).length) : (rdTake ((wrS cs).take i)).2.2 = 5 := by
  obtain ⟨z1, z2, z3, _⟩ := errS_zero h
  unfold wrS at hi ⊢
  rw [List.length_append] at hi
  by_cases hx : i < (encU cs.length).length
  · have hU : rdU ((encU cs.length ++ wrCols cs).take i) 0 8 = (0, 0, 5) := by
      unfold rdU
      rw [List.drop_zero, take_front (by omega), getU_cut cs.length i (by omega) hx]
      rfl
    unfold rdTake
    rw [hU]
    rfl
  · have hU : rdU ((encU cs.length ++ wrCols cs).take i) 0 8 = (cs.length, (encU cs.length).length, 0) := by
      unfold rdU
      rw [List.drop_zero, take_split (by omega), getU_put cs.length (by omega)]
      dsimp only
      rw [if_neg (by omega), if_neg (by omega)]
      simp
    unfold rdTake
    rw [hU]
    dsimp only
    rw [if_neg (by omega), if_neg (by omega)]
    refine rdCols_less _ cs [] _ (i - (encU cs.length).length) ?_ ?_ (by omega) z3
    · rw [List.length_take, List.length_append]; omega
    · rw [take_split (by omega), List.drop_left' rfl]

theorem read_put {cs : List Col} (h : errS cs = 0) : readE (wrS cs) = 0 ∧ readC (wrS cs) = cs ∧ (rdTake (wrS cs)).2.1 = (wrS cs).length := by
  have e := rdTake_put h []
  rw [List.append_nil] at e
  have h0 : readE (wrS cs) = 0 := by unfold readE; rw [e]; unfold told; simp
  refine ⟨h0, ?_, by rw [e]⟩
  unfold readC; rw [if_pos h0, e]
theorem read_more {cs : List Col} (h : errS cs = 0) (x : UInt8) : readE (wrS cs ++ [x]) = 7 ∧ (rdTake (wrS cs ++ [x])).2.1 = (wrS cs).length := by
  have e := rdTake_put h [x]
  refine ⟨?_, by rw [e]⟩
  unfold readE; rw [e]; unfold told; simp
theorem read_less {cs : List Col} (h : errS cs = 0) {i : Nat} (hi : i < (wrS cs).length) : readE ((wrS cs).take i) = 5 ∧ readC ((wrS cs).take i) = [] := by
  have e := rdTake_less h hi
  have h5 : readE ((wrS cs).take i) = 5 := by unfold readE; rw [e]; unfold told; simp
  refine ⟨h5, ?_⟩
  unfold readC; rw [if_neg (by rw [h5]; decide)]

/-! Texts. -/
theorem cutL_app {c : UInt8} : ∀ {a : List UInt8} (b : List UInt8), c ∉ a → cutL c (a ++ c :: b) = a :: cutL c b
  | [], b, _ => by rw [List.nil_append, cutL, if_pos rfl]
  | x :: r, b, h => by
    rw [List.cons_append, cutL, if_neg (fun e => h (by simp [e])), cutL_app b (fun hh => h (by simp [hh]))]
    rfl
theorem cutL_joined {c : UInt8} : ∀ {ls : List (List UInt8)}, ls ≠ [] → (∀ a ∈ ls, c ∉ a) → cutL c (Lib.join ls [c]) = ls
  | [], h, _ => absurd rfl h
  | [a], _, h => by rw [Lib.join_one]; exact cutL_none (h a (by simp))
  | a :: b :: r, _, h => by
    have ih := cutL_joined (c := c) (ls := b :: r) (by simp) (fun x hx => h x (by simp [hx]))
    have e : Lib.join (a :: b :: r) [c] = a ++ c :: Lib.join (b :: r) [c] := by rw [Lib.join_cons, Lib.join_cons]; simp [Lib.joinTail]
    rw [e, cutL_app _ (h a (by simp)), ih]
theorem letter_not {n : List UInt8} {ah : List (List UInt8)} (h : fine n ah = true) : (44 : UInt8) ∉ n ∧ (58 : UInt8) ∉ n := by
  unfold fine at h
  simp only [Bool.and_eq_true] at h
  have ha := List.all_eq_true.1 h.2.1
  exact ⟨fun hh => absurd (ha _ hh) (by decide), fun hh => absurd (ha _ hh) (by decide)⟩
theorem prPart_put {ah : List (List UInt8)} {c : Col} (h : colErr ah c = 0) : prPart (txCol c) = some c ∧ (44 : UInt8) ∉ txCol c := by
  obtain ⟨h1, h2, h3, h4⟩ := colErr_zero h
  obtain ⟨n1, n2⟩ := letter_not h2
  have hq : c.2.toNat < 6 := by omega
  have hl := kindNames_letters hq
  have k1 : (58 : UInt8) ∉ kindNames.getD c.2.toNat [] := fun hh => absurd (hl _ hh) (by decide)
  have k2 : (44 : UInt8) ∉ kindNames.getD c.2.toNat [] := fun hh => absurd (hl _ hh) (by decide)
  have hki := kindI_of hq
  refine ⟨?_, ?_⟩
  · unfold prPart txCol
    rw [List.append_assoc, List.singleton_append, cutL_app _ n2, cutL_none k1]
    dsimp only
    rw [hki, if_pos (by omega)]
    congr 1
    exact Prod.ext rfl (by dsimp only; omega)
  · unfold txCol
    simp only [List.mem_append, List.mem_singleton, not_or]
    exact ⟨⟨n1, by decide⟩, k2⟩
theorem prParts_put : ∀ {cs : List Col} {ah : List (List UInt8)}, errFrom ah cs = 0 → prParts (cs.map txCol) = some cs ∧ ∀ a ∈ cs.map txCol, (44 : UInt8) ∉ a
  | [], _, _ => ⟨rfl, fun a ha => absurd ha (by simp)⟩
  | c :: r, ah, h => by
    obtain ⟨e1, e2⟩ := errFrom_cons h
    obtain ⟨p1, p2⟩ := prPart_put e1
    obtain ⟨i1, i2⟩ := prParts_put e2
    refine ⟨?_, fun a ha => ?_⟩
    · rw [List.map_cons, prParts, p1]
      dsimp only
      rw [i1]; rfl
    · rw [List.map_cons] at ha
      rcases List.mem_cons.1 ha with rfl | ha
      · exact p2
      · exact i2 a ha
theorem parse_put {cs : List Col} (h : errS cs = 0) : prS (txS cs) = (cs, 0) := by
  obtain ⟨z1, z2, z3, _⟩ := errS_zero h
  obtain ⟨p1, p2⟩ := prParts_put z3
  unfold prS txS
  rw [cutL_joined (by intro e; rw [List.map_eq_nil_iff] at e; rw [e] at z1; simp at z1) p2, p1]
  exact if_pos h

end Go.Proofs.YtkljkpffpdpphaaDoor


/-
  Schemas that are turned in a column's kind, or in the order of two columns (no program in it): they may be, and have other bytes.
-/
namespace Go.Proofs.YtkljkpffpdpphaaDoor
open Go.RowKit

def okC (c : Col) : Prop := c.1.length ≤ 32 ∧ c.1 ≠ [] ∧ (c.1.all fun c => letterB c.toNat) = true ∧ 0 ≤ c.2 ∧ c.2 ≤ 5

theorem colErr_iff (ah : List (List UInt8)) (c : Col) : colErr ah c = 0 ↔ okC c ∧ c.1 ∉ ah := by
  have hf : fine c.1 ah = true ↔ c.1 ≠ [] ∧ (c.1.all fun c => letterB c.toNat) = true ∧ c.1 ∉ ah := by
    unfold fine
    rw [Bool.and_eq_true, Bool.and_eq_true]
    simp
  constructor
  · intro h
    obtain ⟨h1, h2, h3, h4⟩ := colErr_zero h
    obtain ⟨f1, f2, f3⟩ := hf.1 h2
    exact ⟨⟨h1, f1, f2, h3, h4⟩, f3⟩
  · rintro ⟨⟨h1, f1, f2, h3, h4⟩, f3⟩
    unfold colErr
    rw [if_neg (by omega), if_neg (by rw [hf.2 ⟨f1, f2, f3⟩]; simp), if_neg (by omega)]

theorem errFrom_iff : ∀ (cs : List Col) (ah : List (List UInt8)), errFrom ah cs = 0 ↔ (∀ c ∈ cs, okC c) ∧ (names cs).Nodup ∧ ∀ c ∈ cs, c.1 ∉ ah
  | [], ah => by simp [errFrom, names]
  | c :: r, ah => by
    have ih := errFrom_iff r (ah ++ [c.1])
    have hc := colErr_iff ah c
    have e : errFrom ah (c :: r) = 0 ↔ colErr ah c = 0 ∧ errFrom (ah ++ [c.1]) r = 0 := by
      rw [errFrom]
      by_cases h : colErr ah c = 0
      · rw [if_neg (by simpa using h)]; simp [h]
      · rw [if_pos (by simpa using h)]; simp [h]
    rw [e, hc, ih]
    unfold names
    rw [List.map_cons, List.nodup_cons]
    constructor
    · rintro ⟨⟨h1, h2⟩, h3, h4, h5⟩
      refine ⟨?_, ⟨?_, h4⟩, ?_⟩
      · intro x hx
        rcases List.mem_cons.1 hx with rfl | hx
        · exact h1
        · exact h3 x hx
      · intro hm
        obtain ⟨x, hx, hxe⟩ := List.mem_map.1 hm
        exact h5 x hx (by rw [hxe]; simp)
      · intro x hx
        rcases List.mem_cons.1 hx with rfl | hx
        · exact h2
        · intro hm; exact h5 x hx (by simp [hm])
    · rintro ⟨h1, ⟨h2, h3⟩, h4⟩
      refine ⟨⟨h1 c (by simp), h4 c (by simp)⟩, fun x hx => h1 x (by simp [hx]), h3, fun x hx hm => ?_⟩
      rcases List.mem_append.1 hm with hm | hm
      · exact h4 x (by simp [hx]) hm
      · rw [List.mem_singleton] at hm
        exact h2 (List.mem_map.2 ⟨x, hx, hm⟩)

theorem errS_iff (cs : List Col) : errS cs = 0 ↔ (0 < cs.length ∧ cs.length ≤ 8) ∧ (∀ c ∈ cs, okC c) ∧ (names cs).Nodup := by
  constructor
  · intro h
    obtain ⟨h1, h2, h3, _⟩ := errS_zero h
    obtain ⟨a, b, _⟩ := (errFrom_iff cs []).1 h3
    exact ⟨⟨h1, h2⟩, a, b⟩
  · rintro ⟨⟨h1, h2⟩, a, b⟩
    unfold errS
    rw [if_neg (by omega), if_neg (by omega)]
    exact (errFrom_iff cs []).2 ⟨a, b, fun c _ => by simp⟩

/-- With a column's kind turned. -/
theorem errS_turn {cs : List Col} (h : errS cs = 0) {i : Nat} (hi : i < cs.length) {k : Int} (hk : 0 ≤ k ∧ k ≤ 5) : errS (cs.set i ((cs.getD i default).1, k)) = 0 := by
  obtain ⟨h1, h2, h3⟩ := (errS_iff cs).1 h
  have hm : cs.getD i default ∈ cs := by
    rw [show cs.getD i default = cs[i] from by simp [List.getD, hi]]
    exact List.getElem_mem _
  refine (errS_iff _).2 ⟨by rw [List.length_set]; exact h1, fun c hc => ?_, ?_⟩
  · rcases List.mem_or_eq_of_mem_set hc with hc | rfl
    · exact h2 c hc
    · obtain ⟨a, b, c, _, _⟩ := h2 _ hm
      exact ⟨a, b, c, hk.1, hk.2⟩
  · have : names (cs.set i ((cs.getD i default).1, k)) = names cs := by
      unfold names
      rw [List.map_set]
      apply List.ext_getElem (by simp)
      intro j j1 j2
      rw [List.getElem_set]
      split
      · rename_i e
        subst e
        rw [List.getElem_map]
        simp [List.getD, hi]
      · rfl
    rw [this]; exact h3

/-- With two columns in the other order. -/
theorem swap_perm {cs : List Col} {i : Nat} (hi : i < cs.length) : ((cs.set 0 (cs.getD i default)).set i (cs.getD 0 default)).Perm cs := by
  have h0 : 0 < cs.length := by omega
  have : ((cs.set 0 cs[i]).set i cs[0]).Perm cs := List.set_set_perm h0 hi
  rwa [show cs.getD i default = cs[i] from by simp [List.getD, hi], show cs.getD 0 default = cs[0] from by simp [List.getD, h0]]
theorem errS_swap {cs : List Col} (h : errS cs = 0) {i : Nat} (hi : i < cs.length) : errS ((cs.set 0 (cs.getD i default)).set i (cs.getD 0 default)) = 0 := by
  obtain ⟨h1, h2, h3⟩ := (errS_iff cs).1 h
  have hp := swap_perm hi
  exact (errS_iff _).2 ⟨by rw [hp.length_eq]; exact h1, fun c hc => h2 c (hp.mem_iff.1 hc), by unfold names at h3 ⊢; exact (hp.map (fun c : Col => c.1)).nodup_iff.2 h3⟩
theorem swap_eq {cs : List Col} (h : errS cs = 0) {i : Nat} (hi : i < cs.length) : (cs = (cs.set 0 (cs.getD i default)).set i (cs.getD 0 default)) ↔ i = 0 := by
  have h0 : 0 < cs.length := by omega
  constructor
  · intro e
    by_cases hz : i = 0
    · exact hz
    · exfalso
      have e0 : cs[0] = cs[i] := by
        have := congrArg (fun l => l.getD 0 default) e
        simp [List.getD, h0, hi, hz, List.getElem?_set] at this
        exact this
      obtain ⟨_, _, h3⟩ := (errS_iff cs).1 h
      unfold names at h3
      have := List.pairwise_iff_getElem.1 h3 0 i (by simpa using h0) (by simpa using hi) (by omega)
      apply this
      rw [List.getElem_map, List.getElem_map, e0]
  · rintro rfl
    simp [List.getD, h0]

/-- The bytes tell the schema. -/
theorem wrS_inj {cs ds : List Col} (h1 : errS cs = 0) (h2 : errS ds = 0) (h : wrS cs = wrS ds) : cs = ds := by
  obtain ⟨_, a, _⟩ := read_put h1
  obtain ⟨_, b, _⟩ := read_put h2
  rw [← a, ← b, h]

end Go.Proofs.YtkljkpffpdpphaaDoor


/-
  Layer 5's law: its example, and whether columns are too many.
-/
namespace Go.Proofs.YtkljkpffpdpphaaDoor
open Go.RowKit Go.Shelf

/-- The example's text. -/
def exT : List UInt8 := [105, 100, 58, 105, 110, 116, 44, 110, 97, 109, 101, 58, 116, 101, 120, 116]
def exC : List Col := [([105, 100], 0), ([110, 97, 109, 101], 4)]
theorem exC_fine : errS exC = 0 := by decide +kernel
theorem exC_bytes : wrS exC = [2, 2, 105, 100, 0, 4, 110, 97, 109, 101, 4] := by decide +kernel
theorem exT_parts : prParts (cutL 44 exT) = some exC := by
  have e : cutL 44 exT = [[105, 100, 58, 105, 110, 116], [110, 97, 109, 101, 58, 116, 101, 120, 116]] := by decide +kernel
  rw [e]
  have h1 : prPart [105, 100, 58, 105, 110, 116] = some ([105, 100], 0) := by
    rw [prPart_cut, show Lib.cut [105, 100, 58, 105, 110, 116] [58] = ([105, 100], [105, 110, 116], true) by decide +kernel]
    dsimp only
    rw [kindI_eq]; rfl
  have h2 : prPart [110, 97, 109, 101, 58, 116, 101, 120, 116] = some ([110, 97, 109, 101], 4) := by
    rw [prPart_cut, show Lib.cut [110, 97, 109, 101, 58, 116, 101, 120, 116] [58] = ([110, 97, 109, 101], [116, 101, 120, 116], true) by decide +kernel]
    dsimp only
    rw [kindI_eq]; rfl
  rw [prParts, h1]; dsimp only
  rw [prParts, h2]; dsimp only
  rfl
theorem exT_pr : prS exT = (exC, 0) := by
  unfold prS
  rw [exT_parts]
  exact if_pos exC_fine

set_option maxHeartbeats 4000000 in
theorem law05_alive (w : World) (hT : Tabs w) (hX : Mx w) :
    Calls Tryd.prog 8 #[] w fun e w' => e = .returned (.bool true) ∧ Below w.heap.size w w' := by
  have hS : RdS ({ data := #[105, 100, 58, 105, 110, 116, 44, 110, 97, 109, 101, 58, 116, 101, 120, 116] } : ByteArray) exT := ⟨rfl, by unfold exT; simp⟩
  have HP := Lib.hid (schema_Parse _ exT w hS (by unfold exT; simp) hT hX)
  have HT := Lib.hid hT
  clear hS hX hT
  go_enter Tryd.func8, Tryd.ntmps8
  go_wp2_with fail
  refine HP.out.mono ?_
  rintro e w1 ⟨hb1, tv, cs, rfl, hO, hC, hl8, hcs⟩
  rw [exT_pr] at hcs
  rw [exT_pr]
  dsimp only at hcs ⊢
  have HW := schema_Write tv cs w1 (hO.rd (by omega)) hC (HT.out.later hb1)
  rw [hcs] at HW
  have HW := Lib.hid HW
  have HB1 := Lib.hid hb1
  clear hb1 hO hC hl8 hcs HP HT
  go_wp2_with fail
  refine HW.out.mono ?_
  rintro e w2 ⟨bv, rfl, hb2, hres⟩
  rw [exC_fine] at hres
  rw [exC_fine]
  rw [exC_bytes] at hres
  rcases hres with ⟨h, _⟩ | ⟨_, hO⟩
  · exact absurd rfl h
  have HB2 := Lib.hid (HB1.out.trans (hb2.mono HB1.out.size))
  have hR := hO.rd (by decide)
  have HR := Lib.hid hR
  clear hb2 hO HW
  have hstr := HR.out.str
  go_wp2
  go_ret
  exact ⟨rfl, HB2.out⟩

set_option maxHeartbeats 4000000 in
theorem law05_great (v : Value) (cs : List ColB) (w : World) (h : RdC w v cs) (hC : CS cs) :
    Calls Tryd.prog 9 #[v] w fun e w' => ∃ b, e = .returned (.bool b) ∧ Below w.heap.size w w' := by
  have hlen := h.len
  have hsm := h.small
  have HH := Lib.hid h
  obtain ⟨n, hn⟩ : ∃ n, n = cs.length := ⟨_, rfl⟩
  rw [← hn] at hlen hsm
  have HN := Lib.hid hn
  clear h hn
  go_enter Tryd.func9, Tryd.ntmps9
  go_wp2
  go_loopw [3, 8] (fun a i wr => ∃ (k : Nat) (x : Int), k ≤ n ∧ i = .int .i64 k ∧ a = .int .i64 x ∧ Hid (Below w.heap.size w wr)) (fun _ i _ => n - (intOf i).toNat)
  case atStart => exact ⟨0, 0, by omega, rfl, rfl, Lib.hid (Below.refl _ _)⟩
  case round =>
    obtain ⟨k, x, hk, rfl, rfl, HB⟩ := hrel
    by_cases hlt : k < n
    · have hr := HH.out.later HB.out (Nat.le_refl _)
      have hl2 : k < cs.length := by rw [← HN.out]; exact hlt
      obtain ⟨b, o, hidx, hcell, hblk⟩ := hr.get hl2
      obtain ⟨hc0, hc1⟩ := hcell _ hr
      obtain ⟨hs1, hk1, hk2⟩ := hC.get hl2
      rcases hcg : cs.getD k default with ⟨s, kd⟩
      rw [hcg] at hc0 hc1 hs1 hk1 hk2
      dsimp only at hc0 hc1 hs1 hk1 hk2
      have HB1 := Lib.hid (HB.out.alloc HB.out.size (.cells #[.string s, .int .i64 kd] 51))
      clear hr hcell hcg hl2 hblk
      go_wp2
      go_roundw
      case rel => exact ⟨k + 1, _, by omega, by go_num, rfl, HB1⟩
      case measure => simp [intOf]; omega
    · obtain rfl : k = n := by omega
      clear hlt
      go_wp2
      go_ret
      exact ⟨_, rfl, HB.out⟩

end Go.Proofs.YtkljkpffpdpphaaDoor


/-
  Columns, all at once: 'append(s, t...)' of a slice that isn't empty; a column stored into a slice of the call's own.
-/
namespace Go.Proofs.YtkljkpffpdpphaaDoor
open Go.RowKit

theorem flatten_inv {n : Nat} (hn : 0 < n) : ∀ (vs : List (List Value)), (∀ x ∈ vs, x.length = n) → ∀ j u, vs.flatten[j]? = some u → j / n < vs.length ∧ (vs.getD (j / n) [])[j % n]? = some u
  | [], _, j, u, h => by simp at h
  | x :: r, hw, j, u, h => by
    have hx := hw x (by simp)
    rw [List.flatten_cons] at h
    by_cases hj : j < n
    · rw [List.getElem?_append_left (by omega)] at h
      rw [Nat.div_eq_of_lt hj, Nat.mod_eq_of_lt hj]
      exact ⟨by simp, h⟩
    · rw [List.getElem?_append_right (by omega), hx] at h
      obtain ⟨h1, h2⟩ := flatten_inv hn r (fun y hy => hw y (by simp [hy])) (j - n) u h
      have e : j = (j - n) + n := by omega
      have e1 : j / n = (j - n) / n + 1 := by conv => lhs; rw [e, Nat.add_div_right _ hn]
      have e2 : j % n = (j - n) % n := by conv => lhs; rw [e, Nat.add_mod_right]
      rw [e1, e2]
      exact ⟨by simp; omega, by simpa using h2⟩

section
variable {w w' : World} {v : Value} {cs ds : List ColB} {base : Nat}

/-- 'append(s, t...)': s the call's own, t not empty. -/
theorem wplC_appendAll {ops : Array Oper} {Q : Exit → Act → World → Prop} {rest : List Oper} {a : Act} {dst : Option Tmp} {ty : TypeId} {pos : String} {aft : Array Edge} {s x : Operand}
    (base : Nat) (sv : Value) (hs : a.eval s = sv) (ho : OwnC w base sv cs) (xv : Value) (hx : a.eval x = xv) (hr : RdC w xv ds) (hd : 0 < ds.length)
    (hn : (cs.length + ds.length) * 24 ≤ 140737488355328) (hbase : base ≤ w.heap.size)
    (B : Nat) (w0 : World) (hb : Below B w0 w) (hBb : B ≤ base)
    (h : ∀ v' w', OwnC w' base v' (cs ++ ds) → Below B w0 w' → w.grownBy w' sv.ownBlock → wpList Tryd.prog ops Q rest (a.put dst v') w') :
    wpList Tryd.prog ops Q (⟨dst, .call ⟨.builtin .append, #[s, x], #[22, 22]⟩, ty, pos, aft, none⟩ :: rest) a w := by
  obtain ⟨i0, hi, hz0, hz1, hz2⟩ := info_parts colOk.info
  obtain ⟨ao, cap, hv, _, _, hp⟩ := RdG.shape hr
  rw [List.length_map] at hv hp
  obtain ⟨b, o, rfl⟩ := hp hd
  have hcl : ∀ c : ColB, (colV c).length = 2 := fun c => rfl
  have hone : ∀ c : ColB, ∀ z ∈ colV c, z.oneCell' = true := fun c z hz => by simp [colV] at hz; rcases hz with rfl | rfl <;> rfl
  have hfl : ∀ l : List ColB, ((l.map colV).flatten).length = l.length * 2 := fun l => by
    induction l with
    | nil => rfl
    | cons a r ih => rw [List.map_cons, List.flatten_cons, List.length_append, ih, hcl]; simp; omega
  refine wpList_append_own w rfl s x 22 rfl base 51 i0 colE.zero 2 24 colOk.hS hi hz0 hz1 hz2 colOk.hz (by decide) sv cs.length (cs.map colV).flatten hs (by have := ho.1; rw [List.length_map] at this; exact this) ⟨b, o, none⟩ ds.length cap (ds.map colV).flatten (by rw [hx, hv]) (hfl ds) ?_ ?_ (by unfold maxLen; omega) hn hbase ?_
  · intro j u hj
    obtain ⟨h1, h2⟩ := flatten_inv (n := 2) (by decide) (ds.map colV) (by intro y hy; obtain ⟨c, _, rfl⟩ := List.mem_map.1 hy; rfl) j u hj
    have := RdG.cells hr (j / 2) h1 (j % 2) u h2
    rw [hv, adr_lit] at this
    have e : o + (j / 2 * colE.n + j % 2) = o + j := by
      have : colE.n = 2 := rfl
      rw [this]; have := Nat.div_add_mod j 2; omega
    rw [e] at this
    have e2 : Addr.add ⟨b, o, none⟩ j = ⟨b, o + j, none⟩ := by simp only [Addr.add]; split <;> simp_all
    rw [e2]; exact this
  · intro u hu
    obtain ⟨y, hy, hz⟩ := List.mem_flatten.1 hu
    obtain ⟨c, _, rfl⟩ := List.mem_map.1 hy
    exact hone c u hz
  · intro v' w' h1' h2 _
    refine h v' w' ⟨?_, ?_, ?_⟩ (hb.grown h2 (by omega) fun k hk => ?_) h2
    · rw [List.length_map, List.length_append, List.map_append, List.flatten_append]; exact h1'
    · intro y hy; obtain ⟨c, _, rfl⟩ := List.mem_map.1 hy; rfl
    · intro y hy; obtain ⟨c, _, rfl⟩ := List.mem_map.1 hy; exact hone c
    · exact Nat.le_trans hBb (World.ownsRow.lt ho.1 k hk).1

theorem flat_set : ∀ (cs : List ColB) (i : Nat) (c : ColB), i < cs.length → (((cs.map colV).flatten.set (i * 2) (.string c.1)).set (i * 2 + 1) (.int .i64 c.2)) = ((cs.set i c).map colV).flatten
  | [], i, c, h => by simp at h
  | x :: r, 0, c, h => by simp [colV]
  | x :: r, i + 1, c, h => by
    have ih := flat_set r i c (by simpa using h)
    rw [List.set_cons_succ, List.map_cons, List.map_cons, List.flatten_cons, List.flatten_cons, ← ih]
    rw [show (i + 1) * 2 = i * 2 + 2 from by omega]
    rfl

/-- A column of the call's own: where it lies, and what a store does. -/
theorem OwnC.set (h : OwnC w base v cs) {i : Nat} (hi : i < cs.length) : ∃ g cap, v = .slice (some ⟨g, 0, none⟩) cs.length cap ∧ base ≤ g ∧
    ∀ c : ColB, OwnC ((w.setCell ⟨g, i * 2, none⟩ (.string c.1)).setCell ⟨g, i * 2 + 1, none⟩ (.int .i64 c.2)) base v (cs.set i c) := by
  obtain ⟨⟨h0, h2⟩, h3⟩ := h
  rw [List.length_map] at h2 h0
  rcases h2 with ⟨rfl, hn⟩ | ⟨g, cap, cur, rfl, hbg, hg, hn, hm, hs, ht⟩
  · exact absurd hi (by omega)
  · refine ⟨g, cap, rfl, hbg, fun c => ⟨⟨?_, .inr ⟨g, cap, (cur.setIfInBounds (i * 2) (.string c.1)).setIfInBounds (i * 2 + 1) (.int .i64 c.2), by rw [List.length_map, List.length_set], hbg, block_setCell (block_setCell hg _) _, by rw [List.length_map, List.length_set]; exact hn, hm, by simpa using hs, ?_⟩⟩, ?_, ?_⟩⟩
    · rw [← flat_set cs i c hi, List.length_set, List.length_set, List.length_map, List.length_set]; exact h0
    · rw [← flat_set cs i c hi, List.length_map, List.length_set, Array.toList_setIfInBounds, Array.toList_setIfInBounds, List.take_set, List.take_set]
      rw [ht]
    · intro y hy; obtain ⟨c, _, rfl⟩ := List.mem_map.1 hy; rfl
    · intro y hy; obtain ⟨c, _, rfl⟩ := List.mem_map.1 hy
      intro z hz; simp [colV] at hz; rcases hz with rfl | rfl <;> rfl

/-- .. its cells, and its place. -/
theorem OwnC.at (h : OwnC w base v cs) {i : Nat} (hi : i < cs.length) (hs : cs.length ≤ 140737488351232) {g cap : Nat} (hv : v = .slice (some ⟨g, 0, none⟩) cs.length cap) :
    (∀ u, (Instr.indexAt 22 v (.int .i64 (i : Int))).run Tryd.prog u = .ok (.pointer (some ⟨g, i * 2, none⟩)) u) ∧
    w.cell? ⟨g, i * 2, none⟩ = some (.string (cs.getD i default).1) ∧ w.cell? ⟨g, i * 2 + 1, none⟩ = some (.int .i64 (cs.getD i default).2) ∧
    w.frozen? ⟨g, i * 2, none⟩ = false ∧ w.frozen? ⟨g, i * 2 + 1, none⟩ = false := by
  have hrd := h.rd hs
  have hi' : i < (cs.map colV).length := by simpa using hi
  have hx := RdG.idx hrd colOk i hi'
  have hc := fun j u => RdG.cells hrd i hi' j u
  rw [getD_map colV cs i hi default] at hc
  have hc0 := hc 0 _ rfl
  have hc1 := hc 1 _ rfl
  have e : ∀ k, adr v k = ⟨g, k, none⟩ := fun k => by rw [hv, adr_lit, Nat.zero_add]
  rw [e] at hx hc0 hc1
  have hn : colE.n = 2 := rfl
  rw [hn] at hx hc0 hc1
  have hf : ∃ cur z, w.heap[g]? = some (.cells cur z (0, 0)) := by
    obtain ⟨⟨_, h2⟩, _⟩ := h
    rw [List.length_map] at h2
    rcases h2 with ⟨h9, _⟩ | ⟨g', cap', cur, h9, _, hg, _⟩
    · rw [hv] at h9; cases h9
    · rw [hv] at h9; cases h9; exact ⟨cur, _, hg⟩
  obtain ⟨cur, z, hg⟩ := hf
  exact ⟨hx, hc0, hc1, frozen_of_row _ _ _ _ _ hg, frozen_of_row _ _ _ _ _ hg⟩

theorem ownC_empty (w : World) (base : Nat) (hb : base ≤ w.heap.size) : OwnC (w.alloc (.cells #[] 51)) base (.slice (some ⟨w.heap.size, 0, none⟩) 0 0) [] :=
  ⟨World.ownsRow_made w #[] 0 hb (Nat.zero_le _) (by simp), by simp, by simp⟩
end

end Go.Proofs.YtkljkpffpdpphaaDoor


/-
  SchemaPrints: the law's own walk.
-/
namespace Go.Proofs.YtkljkpffpdpphaaDoor
open Go.RowKit Go.Shelf

theorem colL_injP : ∀ {a b : ColB}, colL a = colL b → a = b
  | (a, x), (b, y), h => by
    unfold colL at h
    injection h with h1 h2
    dsimp only at h1 h2
    subst h2
    have e : a = b := by
      apply ByteArray.ext
      exact Array.toList_inj.1 h1
    rw [e]
theorem colsL_set (cs : List ColB) (i : Nat) (c : ColB) : colsL (cs.set i c) = (colsL cs).set i (colL c) := by unfold colsL; rw [List.map_set]
theorem colsL_get {cs : List ColB} {i : Nat} (h : i < cs.length) : (colsL cs).getD i default = colL (cs.getD i default) := by
  unfold colsL; simp [List.getD, h]
theorem CS_set {cs : List ColB} (h : CS cs) {i : Nat} {c : ColB} (hc : c.1.size ≤ 140737488351232 ∧ -9223372036854775808 ≤ c.2 ∧ c.2 ≤ 9223372036854775807) : CS (cs.set i c) := by
  intro x hx
  rcases List.mem_or_eq_of_mem_set hx with hx | rfl
  · exact h x hx
  · exact hc

/-- A schema with a column's kind turned. -/
def turnC (cs : List ColB) (i : Nat) : List ColB := cs.set i ((cs.getD i default).1, ((cs.getD i default).2 + 1) % 6)
/-- .. with two columns in the other order. -/
def swapC (cs : List ColB) (i : Nat) : List ColB := (cs.set 0 (cs.getD i default)).set i (cs.getD 0 default)

theorem turn_fine {cs : List ColB} (h : errS (colsL cs) = 0) {i : Nat} (hi : i < cs.length) : errS (colsL (turnC cs i)) = 0 ∧ wrS (colsL (turnC cs i)) ≠ wrS (colsL cs) ∧ cs ≠ turnC cs i := by
  have hl : i < (colsL cs).length := by rw [colsL_length]; exact hi
  have e : colsL (turnC cs i) = (colsL cs).set i (((colsL cs).getD i default).1, ((cs.getD i default).2 + 1) % 6) := by
    unfold turnC; rw [colsL_set, colsL_get hi]; rfl
  have h1 : errS (colsL (turnC cs i)) = 0 := by rw [e]; exact errS_turn h hl (by omega)
  obtain ⟨_, hok, _⟩ := (errS_iff _).1 h
  have hk := (hok ((colsL cs).getD i default) (by
    rw [show (colsL cs).getD i default = (colsL cs)[i] from by simp [List.getD, hl]]; exact List.getElem_mem _))
  obtain ⟨_, _, _, k0, k5⟩ := hk
  rw [colsL_get hi] at k0 k5
  have k0' : 0 ≤ (cs.getD i default).2 := k0
  have k5' : (cs.getD i default).2 ≤ 5 := k5
  have hne : colsL cs ≠ colsL (turnC cs i) := by
    intro he
    rw [e] at he
    have h9 := congrArg (fun l : List Col => (l.getD i default).2) he
    have e1 : ((colsL cs).getD i default).2 = (cs.getD i default).2 := by rw [colsL_get hi]; rfl
    have e2 : (((colsL cs).set i (((colsL cs).getD i default).1, ((cs.getD i default).2 + 1) % 6)).getD i default).2 = ((cs.getD i default).2 + 1) % 6 := by
      simp [List.getD, hl]
    have h8 : (cs.getD i default).2 = ((cs.getD i default).2 + 1) % 6 := e1.symm.trans (h9.trans e2)
    omega
  exact ⟨h1, fun he => hne (wrS_inj h1 h he).symm, fun he => hne (by rw [← he])⟩
theorem swap_fine {cs : List ColB} (h : errS (colsL cs) = 0) {i : Nat} (hi : i < cs.length) : errS (colsL (swapC cs i)) = 0 ∧ (wrS (colsL cs) = wrS (colsL (swapC cs i)) ↔ i = 0) ∧ (cs = swapC cs i ↔ i = 0) := by
  have hl : i < (colsL cs).length := by rw [colsL_length]; exact hi
  have e : colsL (swapC cs i) = ((colsL cs).set 0 ((colsL cs).getD i default)).set i ((colsL cs).getD 0 default) := by
    unfold swapC; rw [colsL_set, colsL_set, colsL_get hi, colsL_get (by omega)]
  have h1 : errS (colsL (swapC cs i)) = 0 := by rw [e]; exact errS_swap h hl
  have h2 := swap_eq h hl
  rw [← e] at h2
  refine ⟨h1, ⟨fun he => h2.1 (wrS_inj h h1 he), fun hz => by rw [← h2.2 hz]⟩, ⟨fun he => h2.1 (by rw [← he]), fun hz => ?_⟩⟩
  subst hz
  unfold swapC
  simp [List.getD, hi]

set_option maxHeartbeats 8000000 in
theorem schemaPrints_walk (v : Value) (cs : List ColB) (a : Int) (w : World) (hR1 : RdC w v cs) (hC1 : CS cs) (ha : 0 ≤ a ∧ a ≤ 255) (hT : Tabs w) (hX : Mx w) :
    Calls Tryd.prog 7 #[v, .int .u8 a] w fun e w' => e = .returned (.bool true) ∧ Below w.heap.size w w' := by
  obtain ⟨ha0, ha1⟩ := ha
  have HT := Lib.hid hT
  have HX := Lib.hid hX
  have R1 := Lib.hid (fun wz (hz : Below w.heap.size w wz) => hR1.later hz (Nat.le_refl _))
  have C1 := Lib.hid hC1
  clear hT hX hR1 hC1
  by_cases h0 : errS (colsL cs) = 0
  · obtain ⟨m, rfl⟩ : ∃ m : Nat, a = m := ⟨a.toNat, by omega⟩
    have hz := errS_zero h0
    rw [colsL_length] at hz
    obtain ⟨hz1, hz8, _, _⟩ := hz
    obtain ⟨n, hn⟩ : ∃ n, n = cs.length := ⟨_, rfl⟩
    rw [← hn] at hz1 hz8
    obtain ⟨i, hie⟩ : ∃ i, i = m % n := ⟨_, rfl⟩
    have hin : i < n := by rw [hie]; exact Nat.mod_lt _ hz1
    have him : (m : Int) % (n : Int) = (i : Int) := by omega
    obtain ⟨t1, ht1⟩ : ∃ t1, t1 = turnC cs i := ⟨_, rfl⟩
    obtain ⟨u1, hu1⟩ : ∃ u1, u1 = swapC cs i := ⟨_, rfl⟩
    obtain ⟨tf1, tf2, tf3⟩ := turn_fine h0 (i := i) (by rw [← hn]; exact hin)
    obtain ⟨uf1, uf2, uf3⟩ := swap_fine h0 (i := i) (by rw [← hn]; exact hin)
    rw [← ht1] at tf1 tf2 tf3
    rw [← hu1] at uf1 uf2 uf3
    have hN := Lib.hid hn
    obtain ⟨La, hLa⟩ : ∃ La, La = wrS (colsL cs) := ⟨_, rfl⟩
    obtain ⟨Lb, hLb⟩ : ∃ Lb, Lb = wrS (colsL t1) := ⟨_, rfl⟩
    obtain ⟨Lc, hLc⟩ : ∃ Lc, Lc = wrS (colsL u1) := ⟨_, rfl⟩
    obtain ⟨p, hp⟩ : ∃ p : Nat, p = Crc.sum La := ⟨_, rfl⟩
    have hLaz : La.length ≤ 1000 := by rw [hLa]; exact wrS_small h0
    have hLbz : Lb.length ≤ 1000 := by rw [hLb]; exact wrS_small tf1
    have hLcz : Lc.length ≤ 1000 := by rw [hLc]; exact wrS_small uf1
    have hcg := C1.out.get (k := i) (by rw [← hn]; exact hin)
    have hcg0 := C1.out.get (k := 0) (by rw [← hn]; exact hz1)
    have CT := Lib.hid (show CS t1 from by rw [ht1]; exact CS_set C1.out ⟨hcg.1, by omega, by omega⟩)
    have CU := Lib.hid (show CS u1 from by rw [hu1]; exact CS_set (CS_set C1.out hcg) hcg0)
    have SC := Lib.hid (fun wz (hz : Below w.heap.size w wz) => (show Calls Tryd.prog 14 #[v] wz fun e w' => e = .returned (.int .i64 0) ∧ Below wz.heap.size wz w' from by
      have := schema_Check v cs wz (R1.out wz hz) C1.out (HT.out.later hz)
      rw [h0] at this; exact this))
    have SP := Lib.hid (fun wz (hz : Below w.heap.size w wz) x (hx : RdC wz x cs) => (show Calls Tryd.prog 11 #[x] wz fun e w' => e = .returned (.tuple #[.int .u32 (p : Int), .int .i64 0]) ∧ Below wz.heap.size wz w' from by
      have := schema_Print x cs wz hx C1.out (HT.out.later hz)
      rw [h0, if_pos rfl, ← hLa, ← hp] at this; exact this))
    have SWa := Lib.hid (fun wz (hz : Below w.heap.size w wz) => (show Calls Tryd.prog 10 #[v] wz fun e w' => ∃ bv, e = .returned (.tuple #[bv, .int .i64 0]) ∧ Below wz.heap.size wz w' ∧ Rd w' bv La from by
      refine (schema_Write v cs wz (R1.out wz hz) C1.out (HT.out.later hz)).mono ?_
      rintro e w' ⟨bv, rfl, hb, ⟨h, _⟩ | ⟨_, hO⟩⟩
      · exact absurd h0 h
      · rw [h0]; exact ⟨bv, rfl, hb, by rw [← hLa] at hO; exact hO.rd (by omega)⟩))
    have SWb := Lib.hid (fun wz (hz : Below w.heap.size w wz) x (hx : RdC wz x t1) => (show Calls Tryd.prog 10 #[x] wz fun e w' => ∃ bv, e = .returned (.tuple #[bv, .int .i64 0]) ∧ Below wz.heap.size wz w' ∧ Rd w' bv Lb from by
      refine (schema_Write x t1 wz hx CT.out (HT.out.later hz)).mono ?_
      rintro e w' ⟨bv, rfl, hb, ⟨h, _⟩ | ⟨_, hO⟩⟩
      · exact absurd tf1 h
      · rw [tf1]; exact ⟨bv, rfl, hb, by rw [← hLb] at hO; exact hO.rd (by omega)⟩))
    have SWc := Lib.hid (fun wz (hz : Below w.heap.size w wz) x (hx : RdC wz x u1) => (show Calls Tryd.prog 10 #[x] wz fun e w' => ∃ bv, e = .returned (.tuple #[bv, .int .i64 0]) ∧ Below wz.heap.size wz w' ∧ Rd w' bv Lc from by
      refine (schema_Write x u1 wz hx CU.out (HT.out.later hz)).mono ?_
      rintro e w' ⟨bv, rfl, hb, ⟨h, _⟩ | ⟨_, hO⟩⟩
      · exact absurd uf1 h
      · rw [uf1]; exact ⟨bv, rfl, hb, by rw [← hLc] at hO; exact hO.rd (by omega)⟩))
    have SSt := Lib.hid (fun wz (hz : Below w.heap.size w wz) x (hx : RdC wz x t1) => (show Calls Tryd.prog 15 #[v, x] wz fun e w' => e = .returned (.bool false) ∧ Below wz.heap.size wz w' from by
      have := schema_Same v x cs t1 wz (R1.out wz hz) hx; rwa [decide_eq_false tf3] at this))
    obtain ⟨bi, hbi⟩ : ∃ bi, bi = decide (i = 0) := ⟨_, rfl⟩
    have SSu := Lib.hid (fun wz (hz : Below w.heap.size w wz) x (hx : RdC wz x u1) => (show Calls Tryd.prog 15 #[v, x] wz fun e w' => e = .returned (.bool bi) ∧ Below wz.heap.size wz w' from by
      have := schema_Same v x cs u1 wz (R1.out wz hz) hx; rwa [show decide (cs = u1) = bi from by rw [hbi, decide_eq_decide]; exact uf3] at this))
    have HBI := Lib.hid (show bi = decide (i = 0) from hbi)
    clear hbi
    have HT1 := Lib.hid (show t1 = cs.set i ((cs.getD i default).1, ((cs.getD i default).2 + 1) % 6) from ht1)
    have HU1 := Lib.hid (show u1 = (cs.set 0 (cs.getD i default)).set i (cs.getD 0 default) from hu1)
    have HNE := Lib.hid (show La ≠ Lb from by rw [hLa, hLb]; exact fun h => tf2 h.symm)
    have HEQ := Lib.hid (show La = Lc ↔ i = 0 from by rw [hLa, hLc]; exact uf2)
    obtain ⟨sa, hsaE⟩ : ∃ sa : ByteArray, sa = ⟨La.toArray⟩ := ⟨_, rfl⟩
    obtain ⟨sb, hsbE⟩ : ∃ sb : ByteArray, sb = ⟨Lb.toArray⟩ := ⟨_, rfl⟩
    obtain ⟨sc, hscE⟩ : ∃ sc : ByteArray, sc = ⟨Lc.toArray⟩ := ⟨_, rfl⟩
    have SA := Lib.hid (fun wz x (hx : Rd wz x La) => (show (convert 25 9 x).run Tryd.prog wz = .ok (.string sa) wz from by rw [hsaE]; exact hx.str))
    have SB := Lib.hid (fun wz x (hx : Rd wz x Lb) => (show (convert 25 9 x).run Tryd.prog wz = .ok (.string sb) wz from by rw [hsbE]; exact hx.str))
    have SCc := Lib.hid (fun wz x (hx : Rd wz x Lc) => (show (convert 25 9 x).run Tryd.prog wz = .ok (.string sc) wz from by rw [hscE]; exact hx.str))
    have QB := Lib.hid (str_ne (s := sa) (t := sb) (fun h => HNE.out (by rw [hsaE, hsbE] at h; injection h with h; exact List.toArray_inj h)))
    have QC := Lib.hid (fun hne : i ≠ 0 => str_ne (s := sa) (t := sc) (fun h => hne (HEQ.out.1 (by rw [hsaE, hscE] at h; injection h with h; exact List.toArray_inj h))))
    have QE := Lib.hid (fun he : i = 0 => show sa = sc from by rw [hsaE, hscE, HEQ.out.2 he])
    clear hsaE hsbE hscE
    have hk := (errS_iff _).1 h0
    have hki := hk.2.1 (colL (cs.getD i default)) (by
      rw [show cs.getD i default = cs[i]'(by omega) from by simp [List.getD, show i < cs.length from by omega]]
      exact List.mem_map.2 ⟨_, List.getElem_mem _, rfl⟩)
    obtain ⟨_, _, _, k0, k5⟩ := hki
    have k0' : 0 ≤ (cs.getD i default).2 := k0
    have k5' : (cs.getD i default).2 ≤ 5 := k5
    rcases hgi : cs.getD i default with ⟨si, ki⟩
    rcases hg0 : cs.getD 0 default with ⟨s0, kk0⟩
    rw [hgi] at k0' k5'
    dsimp only at k0' k5'
    have HGI := Lib.hid hgi
    have HG0 := Lib.hid hg0
    have q1 : ((n : Int) == 0) = false := by rw [beq_eq_false_iff_ne]; omega
    have hr0 := (R1.out w (Below.refl _ _)).len
    rw [← hn] at hr0
    clear hLa hLb hLc hp hcg hcg0 hk k0 k5 hgi hg0 h0 tf1 tf2 tf3 uf1 uf2 uf3 ht1 hu1 hie hn
    go_enter Tryd.func7, Tryd.ntmps7
    go_wp2_with fail
    refine (law05_alive w HT.out HX.out).mono ?_
    rintro e w1 ⟨rfl, hb⟩
    have HB1 := Lib.hid hb
    clear hb
    go_wp2_with fail
    refine (law05_great v cs w1 (R1.out _ HB1.out) C1.out).mono ?_
    rintro e w2 ⟨g1, rfl, hb⟩
    have HB2 := Lib.hid (HB1.out.trans (hb.mono HB1.out.size))
    clear hb
    rcases g1 with _ | _
    rotate_left
    · go_wp2_with fail
      refine (law05_alive w2 (HT.out.later HB2.out) (HX.out.later HB2.out (Nat.le_refl _))).mono ?_
      rintro e wz ⟨rfl, hb⟩
      have HBz := Lib.hid (HB2.out.trans (hb.mono HB2.out.size))
      clear hb
      go_wp2
      go_ret
      exact ⟨rfl, HBz.out⟩
    go_wp2_with fail
    refine (SC.out _ HB2.out).mono ?_
    rintro e w3 ⟨rfl, hb⟩
    have HB3 := Lib.hid (HB2.out.trans (hb.mono HB2.out.size))
    have hws : w.heap.size ≤ w3.heap.size := HB3.out.size
    have HB3a := Lib.hid (HB3.out.alloc HB3.out.size (.cells #[] 51))
    have HO3 := Lib.hid (ownC_empty w3 w3.heap.size (Nat.le_refl _))
    have HR3 := Lib.hid (R1.out _ HB3a.out)
    have hz3 : (([] : List ColB).length + cs.length) * 24 ≤ 140737488355328 := by rw [← hN.out]; simp; omega
    have hz4 : 0 < cs.length := by rw [← hN.out]; omega
    have hz5 : w3.heap.size ≤ (w3.alloc (.cells #[] 51)).heap.size := by simp
    clear hb
    go_wp2_with (with_reducible refine wplC_appendAll w3.heap.size _ ?hs1 HO3.out v ?hx1 HR3.out hz4 hz3 hz5 w.heap.size w HB3a.out hws ?_)
    all_goals (try rfl)
    intro v4 w4 hO4 hB4 hg4
    rw [List.nil_append] at hO4
    have HO4 := Lib.hid hO4
    have HB4 := Lib.hid hB4
    clear hO4 hB4 hg4 hz5 HO3 HR3 HB3a
    go_wp2_with fail
    refine (SP.out _ HB4.out v (R1.out _ HB4.out)).mono ?_
    rintro e w5 ⟨rfl, hb⟩
    have HB5 := Lib.hid (HB4.out.trans (hb.mono HB4.out.size))
    have HO5 := Lib.hid (HO4.out.later hb (Nat.le_refl _))
    clear hb HO4
    go_wp2_with fail
    refine (SP.out _ HB5.out v4 (HO5.out.rd (by rw [← hN.out]; omega))).mono ?_
    rintro e w6 ⟨rfl, hb⟩
    have HB6 := Lib.hid (HB5.out.trans (hb.mono HB5.out.size))
    have HO6 := Lib.hid (HO5.out.later hb (Nat.le_refl _))
    clear hb HO5
    obtain ⟨g4, c4, hv4, hgb4, hset4⟩ := HO6.out.set (i := i) (by rw [← hN.out]; exact hin)
    obtain ⟨hx4, hc40, hc41, hf40, hf41⟩ := HO6.out.at (i := i) (by rw [← hN.out]; exact hin) (by rw [← hN.out]; omega) hv4
    have hset := hset4 ((cs.getD i default).1, ((cs.getD i default).2 + 1) % 6)
    rw [HGI.out] at hc40 hc41 hset
    have hl4 := (HO6.out.rd (by rw [← hN.out]; omega)).len
    rw [← hN.out] at hl4
    have HSET := Lib.hid (hset)
    have HV4 := Lib.hid hv4
    obtain ⟨j, hj⟩ : ∃ j, j = i * 2 := ⟨_, rfl⟩
    rw [← hj] at hx4 hc40 hc41 hf40 hf41
    have HJ := Lib.hid hj
    clear hset4 hset hv4 hj
    go_wp2
    go_region
    have hB7 := ((HB6.out.setCell (p := ⟨g4, j, none⟩) (Nat.le_trans hws hgb4) (.string si)).setCell (p := ⟨g4, j + 1, none⟩) (Nat.le_trans hws hgb4) (.int .i64 ((ki + 1) % 6))).drew
    have hO7 : OwnC ((w6.setCell ⟨g4, j, none⟩ (.string si)).setCell ⟨g4, j + 1, none⟩ (.int .i64 ((ki + 1) % 6))).drew w3.heap.size v4 t1 := by
      have := HSET.out
      rw [← HJ.out] at this
      rw [HT1.out, HGI.out]
      exact this.drew
    generalize ((w6.setCell ⟨g4, j, none⟩ (.string si)).setCell ⟨g4, j + 1, none⟩ (.int .i64 ((ki + 1) % 6))).drew = w7 at hB7 hO7 ⊢
    have HB7 := Lib.hid hB7
    have HO7 := Lib.hid hO7
    clear hB7 hO7 hx4 hc40 hc41 hf40 hf41 HSET HV4 HJ hgb4 HO6 hz3 hl4
    have hws7 : w.heap.size ≤ w7.heap.size := HB7.out.size
    have HB7a := Lib.hid (HB7.out.alloc HB7.out.size (.cells #[] 51))
    have HB7b := Lib.hid ((Below.refl w7.heap.size w7).alloc (Nat.le_refl _) (.cells #[] 51))
    have HO7e := Lib.hid (ownC_empty w7 w7.heap.size (Nat.le_refl _))
    have HR7 := Lib.hid (R1.out _ HB7a.out)
    have hz3 : (([] : List ColB).length + cs.length) * 24 ≤ 140737488355328 := by rw [← hN.out]; simp; omega
    have hz5 : w7.heap.size ≤ (w7.alloc (.cells #[] 51)).heap.size := by simp
    go_wp2_with (with_reducible refine wplC_appendAll w7.heap.size _ ?hs2 HO7e.out v ?hx2 HR7.out hz4 hz3 hz5 w7.heap.size w7 HB7b.out (Nat.le_refl _) ?_)
    all_goals (try rfl)
    intro v8 w8 hO8 hB8 hg8
    rw [List.nil_append] at hO8
    have HO8 := Lib.hid hO8
    have HB78 := Lib.hid hB8
    have HB8 := Lib.hid (HB7.out.trans (hB8.mono hws7))
    clear hO8 hB8 hg8 hz5 HO7e HR7 HB7a HB7b
    obtain ⟨g8, c8, hv8, hgb8, hset8⟩ := HO8.out.set (i := i) (by rw [← hN.out]; exact hin)
    obtain ⟨hx8, hc80, hc81, hf80, hf81⟩ := HO8.out.at (i := i) (by rw [← hN.out]; exact hin) (by rw [← hN.out]; omega) hv8
    obtain ⟨hx0, hc00, hc01, hf00, hf01⟩ := HO8.out.at (i := 0) (by rw [← hN.out]; exact hz1) (by rw [← hN.out]; omega) hv8
    rw [HGI.out] at hc80 hc81
    rw [HG0.out] at hc00 hc01
    rw [Nat.zero_mul] at hx0 hc00 hc01 hf00 hf01
    rw [Nat.zero_add] at hc01 hf01
    rw [show ((0 : Nat) : Int) = 0 from rfl] at hx0
    clear hset8
    obtain ⟨g9, c9, hv9, hgb9, hset9⟩ := HO8.out.set (i := 0) (by rw [← hN.out]; exact hz1)
    obtain ⟨rfl, rfl⟩ : g9 = g8 ∧ c9 = c8 := by rw [hv8] at hv9; injection hv9 with e1 e2 e3; injection e1 with e1; injection e1 with e1; exact ⟨e1.symm, e3.symm⟩
    have hs1 := hset9 (cs.getD i default)
    rw [Nat.zero_mul, HGI.out] at hs1
    obtain ⟨g7, c7, hv7, hgb7, hset7⟩ := hs1.set (i := i) (by rw [List.length_set, ← hN.out]; exact hin)
    obtain ⟨rfl, rfl⟩ : g7 = g9 ∧ c7 = c9 := by rw [hv8] at hv7; injection hv7 with e1 e2 e3; injection e1 with e1; injection e1 with e1; exact ⟨e1.symm, e3.symm⟩
    have hs2 := hset7 (cs.getD 0 default)
    rw [HG0.out] at hs2
    have HS2 := Lib.hid hs2
    obtain ⟨j, hj⟩ : ∃ j, j = i * 2 := ⟨_, rfl⟩
    rw [← hj] at hx8 hc80 hc81 hf80 hf81
    have HJ := Lib.hid hj
    have HV8 := Lib.hid hv8
    clear hset9 hs1 hset7 hs2 hv7 hv9 hv8
    by_cases hi0 : i = 0
    · obtain rfl : bi = true := by rw [HBI.out]; exact decide_eq_true hi0
      have QE0 := Lib.hid (QE.out hi0)
      clear HBI QE
      subst hi0
      obtain rfl : j = 0 := by rw [hj]
      clear hj hx8 hc80 hc81 hf80 hf81
      rw [show ((0 : Nat) : Int) = 0 from rfl] at him
      go_wp2
      go_region
      have hB9 : Below w7.heap.size w7 (((((w8.setCell ⟨g7, 0, none⟩ (.string s0)).setCell ⟨g7, 1, none⟩ (.int .i64 kk0)).setCell ⟨g7, 0, none⟩ (.string s0)).setCell ⟨g7, 1, none⟩ (.int .i64 kk0)).drew) := ((((HB78.out.setCell (p := ⟨g7, 0, none⟩) hgb8 _).setCell (p := ⟨g7, 1, none⟩) hgb8 _).setCell (p := ⟨g7, 0, none⟩) hgb8 _).setCell (p := ⟨g7, 1, none⟩) hgb8 _).drew
      have hO9 : OwnC (((((w8.setCell ⟨g7, 0, none⟩ (.string s0)).setCell ⟨g7, 1, none⟩ (.int .i64 kk0)).setCell ⟨g7, 0, none⟩ (.string s0)).setCell ⟨g7, 1, none⟩ (.int .i64 kk0)).drew) w7.heap.size v8 u1 := by
        have := HS2.out
        have h9 := HGI.out.symm.trans HG0.out
        injection h9 with e1 e2
        subst e1 e2
        rw [HU1.out, HG0.out]
        exact this.drew
      generalize ((((w8.setCell ⟨g7, 0, none⟩ (.string s0)).setCell ⟨g7, 1, none⟩ (.int .i64 kk0)).setCell ⟨g7, 0, none⟩ (.string s0)).setCell ⟨g7, 1, none⟩ (.int .i64 kk0)).drew = w9 at hB9 hO9 ⊢
      have HB9 := Lib.hid (HB7.out.trans (hB9.mono hws7))
      have HO9 := Lib.hid (hO9.rd (by rw [HU1.out, List.length_set, List.length_set, ← hN.out]; omega))
      have HT9 := Lib.hid ((HO7.out.later hB9 (Nat.le_refl _)).rd (by rw [HT1.out, List.length_set, ← hN.out]; omega))
      clear hB9 hO9 hx0 hc00 hc01 hf00 hf01 HS2 HV8 HJ hgb8 HO8 HO7 HB78
      go_wp2_with fail
      refine (SWa.out _ HB9.out).mono ?_
      rintro e w10 ⟨va, rfl, hb, hA⟩
      have HB10 := Lib.hid (HB9.out.trans (hb.mono HB9.out.size))
      have HO10 := Lib.hid (HO9.out.later hb (Nat.le_refl _))
      have HT10 := Lib.hid (HT9.out.later hb (Nat.le_refl _))
      have HA10 := Lib.hid hA
      clear hb hA HO9 HT9
      go_wp2_with fail
      refine (SWb.out _ HB10.out v4 HT10.out).mono ?_
      rintro e w11 ⟨vb, rfl, hb, hA⟩
      have HB11 := Lib.hid (HB10.out.trans (hb.mono HB10.out.size))
      have HO11 := Lib.hid (HO10.out.later hb (Nat.le_refl _))
      have HT11 := Lib.hid (HT10.out.later hb (Nat.le_refl _))
      have HA11 := Lib.hid (HA10.out.later hb (Nat.le_refl _))
      have HC11 := Lib.hid hA
      clear hb hA HO10 HT10 HA10
      go_wp2_with fail
      refine (SWc.out _ HB11.out v8 HO11.out).mono ?_
      rintro e w12 ⟨vc, rfl, hb, hA⟩
      have HB12 := Lib.hid (HB11.out.trans (hb.mono HB11.out.size))
      have HO12 := Lib.hid (HO11.out.later hb (Nat.le_refl _))
      have HT12 := Lib.hid (HT11.out.later hb (Nat.le_refl _))
      have HA12 := Lib.hid (HA11.out.later hb (Nat.le_refl _))
      have HC12 := Lib.hid hA
      have hsa := SA.out _ _ HA12.out
      have hsb := SB.out _ _ (HC11.out.later hb (Nat.le_refl _))
      obtain ⟨qb1, qb2⟩ := QB.out
      clear hb hA HO11 HT11 HA11 HC11 SWa SWb SWc
      go_wp2_with fail
      refine (SSt.out _ HB12.out v4 HT12.out).mono ?_
      rintro e w13 ⟨rfl, hb⟩
      have HB13 := Lib.hid (HB12.out.trans (hb.mono HB12.out.size))
      have HO13 := Lib.hid (HO12.out.later hb (Nat.le_refl _))
      have hsa' := SA.out _ _ (HA12.out.later hb (Nat.le_refl _))
      have hsc' := SCc.out _ _ (HC12.out.later hb (Nat.le_refl _))
      clear hsa hsb qb1 qb2 HA12 HC12
      rw [← QE0.out] at hsc'
      clear hb HO12 HT12 
      go_wp2_with fail
      refine (SSu.out _ HB13.out v8 HO13.out).mono ?_
      rintro e w14 ⟨rfl, hb⟩
      have HB14 := Lib.hid (HB13.out.trans (hb.mono HB13.out.size))
      clear hb HO13
      go_wp2
      go_ret
      exact ⟨rfl, HB14.out⟩
    · obtain rfl : bi = false := by rw [HBI.out]; exact decide_eq_false hi0
      clear HBI
      have hj0 : j ≠ 0 := by omega
      have hj1 : j ≠ 1 := by omega
      clear hj
      go_wp2
      go_region
      have hB9 : Below w7.heap.size w7 (((((w8.setCell ⟨g7, 0, none⟩ (.string si)).setCell ⟨g7, 1, none⟩ (.int .i64 ki)).setCell ⟨g7, j, none⟩ (.string s0)).setCell ⟨g7, j + 1, none⟩ (.int .i64 kk0)).drew) := ((((HB78.out.setCell (p := ⟨g7, 0, none⟩) hgb8 _).setCell (p := ⟨g7, 1, none⟩) hgb8 _).setCell (p := ⟨g7, j, none⟩) hgb8 _).setCell (p := ⟨g7, j + 1, none⟩) hgb8 _).drew
      have hO9 : OwnC (((((w8.setCell ⟨g7, 0, none⟩ (.string si)).setCell ⟨g7, 1, none⟩ (.int .i64 ki)).setCell ⟨g7, j, none⟩ (.string s0)).setCell ⟨g7, j + 1, none⟩ (.int .i64 kk0)).drew) w7.heap.size v8 u1 := by
        have := HS2.out
        rw [← HJ.out] at this
        rw [HU1.out, HGI.out, HG0.out]
        exact this.drew
      generalize ((((w8.setCell ⟨g7, 0, none⟩ (.string si)).setCell ⟨g7, 1, none⟩ (.int .i64 ki)).setCell ⟨g7, j, none⟩ (.string s0)).setCell ⟨g7, j + 1, none⟩ (.int .i64 kk0)).drew = w9 at hB9 hO9 ⊢
      have HB9 := Lib.hid (HB7.out.trans (hB9.mono hws7))
      have HO9 := Lib.hid (hO9.rd (by rw [HU1.out, List.length_set, List.length_set, ← hN.out]; omega))
      have HT9 := Lib.hid ((HO7.out.later hB9 (Nat.le_refl _)).rd (by rw [HT1.out, List.length_set, ← hN.out]; omega))
      clear hB9 hO9 hx0 hc00 hc01 hf00 hf01 hx8 hc80 hc81 hf80 hf81 HS2 HV8 HJ hgb8 HO8 HO7 HB78
      go_wp2_with fail
      refine (SWa.out _ HB9.out).mono ?_
      rintro e w10 ⟨va, rfl, hb, hA⟩
      have HB10 := Lib.hid (HB9.out.trans (hb.mono HB9.out.size))
      have HO10 := Lib.hid (HO9.out.later hb (Nat.le_refl _))
      have HT10 := Lib.hid (HT9.out.later hb (Nat.le_refl _))
      have HA10 := Lib.hid hA
      clear hb hA HO9 HT9
      go_wp2_with fail
      refine (SWb.out _ HB10.out v4 HT10.out).mono ?_
      rintro e w11 ⟨vb, rfl, hb, hA⟩
      have HB11 := Lib.hid (HB10.out.trans (hb.mono HB10.out.size))
      have HO11 := Lib.hid (HO10.out.later hb (Nat.le_refl _))
      have HT11 := Lib.hid (HT10.out.later hb (Nat.le_refl _))
      have HA11 := Lib.hid (HA10.out.later hb (Nat.le_refl _))
      have HC11 := Lib.hid hA
      clear hb hA HO10 HT10 HA10
      go_wp2_with fail
      refine (SWc.out _ HB11.out v8 HO11.out).mono ?_
      rintro e w12 ⟨vc, rfl, hb, hA⟩
      have HB12 := Lib.hid (HB11.out.trans (hb.mono HB11.out.size))
      have HO12 := Lib.hid (HO11.out.later hb (Nat.le_refl _))
      have HT12 := Lib.hid (HT11.out.later hb (Nat.le_refl _))
      have HA12 := Lib.hid (HA11.out.later hb (Nat.le_refl _))
      have HC12 := Lib.hid hA
      have hsa := SA.out _ _ HA12.out
      have hsb := SB.out _ _ (HC11.out.later hb (Nat.le_refl _))
      obtain ⟨qb1, qb2⟩ := QB.out
      have QC0 := Lib.hid (QC.out hi0)
      have qi : ((i : Int) == 0) = false := by rw [beq_eq_false_iff_ne]; omega
      clear hb hA HO11 HT11 HA11 HC11 SWa SWb SWc
      go_wp2_with fail
      refine (SSt.out _ HB12.out v4 HT12.out).mono ?_
      rintro e w13 ⟨rfl, hb⟩
      have HB13 := Lib.hid (HB12.out.trans (hb.mono HB12.out.size))
      have HO13 := Lib.hid (HO12.out.later hb (Nat.le_refl _))
      have hsa' := SA.out _ _ (HA12.out.later hb (Nat.le_refl _))
      have hsc' := SCc.out _ _ (HC12.out.later hb (Nat.le_refl _))
      clear hsa hsb qb1 qb2 HA12 HC12
      obtain ⟨qc1, qc2⟩ := QC0.out
      clear hb HO12 HT12 
      go_wp2_with fail
      refine (SSu.out _ HB13.out v8 HO13.out).mono ?_
      rintro e w14 ⟨rfl, hb⟩
      have HB14 := Lib.hid (HB13.out.trans (hb.mono HB13.out.size))
      clear hb HO13
      go_wp2
      go_ret
      exact ⟨rfl, HB14.out⟩
  · obtain ⟨x, hx⟩ : ∃ x, x = errS (colsL cs) := ⟨_, rfl⟩
    have q0 : ((x : Int) != 0) = true := by rw [bne_iff_ne]; omega
    have SC := Lib.hid (fun wz (hz : Below w.heap.size w wz) => (show Calls Tryd.prog 14 #[v] wz fun e w' => e = .returned (.int .i64 (x : Int)) ∧ Below wz.heap.size wz w' from by
      have := schema_Check v cs wz (R1.out wz hz) C1.out (HT.out.later hz)
      rw [← hx] at this; exact this))
    clear hx h0
    go_enter Tryd.func7, Tryd.ntmps7
    go_wp2_with fail
    refine (law05_alive w HT.out HX.out).mono ?_
    rintro e w1 ⟨rfl, hb⟩
    have HB1 := Lib.hid hb
    clear hb
    go_wp2_with fail
    refine (law05_great v cs w1 (R1.out _ HB1.out) C1.out).mono ?_
    rintro e w2 ⟨g1, rfl, hb⟩
    have HB2 := Lib.hid (HB1.out.trans (hb.mono HB1.out.size))
    clear hb
    rcases g1 with _ | _
    · go_wp2_with fail
      refine (SC.out _ HB2.out).mono ?_
      rintro e w3 ⟨rfl, hb⟩
      have HB3 := Lib.hid (HB2.out.trans (hb.mono HB2.out.size))
      clear hb
      go_wp2_with fail
      refine (law05_alive w3 (HT.out.later HB3.out) (HX.out.later HB3.out (Nat.le_refl _))).mono ?_
      rintro e wz ⟨rfl, hb⟩
      have HBz := Lib.hid (HB3.out.trans (hb.mono HB3.out.size))
      clear hb
      go_wp2
      go_ret
      exact ⟨rfl, HBz.out⟩
    · go_wp2_with fail
      refine (law05_alive w2 (HT.out.later HB2.out) (HX.out.later HB2.out (Nat.le_refl _))).mono ?_
      rintro e wz ⟨rfl, hb⟩
      have HBz := Lib.hid (HB2.out.trans (hb.mono HB2.out.size))
      clear hb
      go_wp2
      go_ret
      exact ⟨rfl, HBz.out⟩

end Go.Proofs.YtkljkpffpdpphaaDoor


/-
  What the frames of layer 5's laws want: the library's tables, as the row lists them; the library's number, out of the world's shape; a string, a slice of columns that came in.
-/
namespace Go.Proofs.YtkljkpffpdpphaaDoor
open Go.ChangeShapes Go.WideShapes Go.ChangeAt Go.RowKit Go.Shelf

theorem u8Extra : U8Extra Tryd.prog Tryd.laysValid_ren := ⟨by kernel_rfl, by kernel_rfl, by kernel_rfl, by kernel_rfl, by kernel_rfl, by kernel_rfl, by kernel_rfl⟩
theorem accept_eq : (Rows.laid_unicode_utf8_acceptRanges : DataW Unit) = Lib.acceptData := by kernel_rfl
/-- The tables, out of what the row lists. -/
theorem tabs_of {W : World} (h1 : Lib.VarReads Tryd.prog W "unicode/utf8.first" Rows.laid_unicode_utf8_first) (h2 : Lib.VarReads Tryd.prog W "unicode/utf8.acceptRanges" Rows.laid_unicode_utf8_acceptRanges) : Tabs W :=
  utf8Tabs_of_readsT (U8Types.of196 Tryd.laysValid) u8Extra (Pinned.utf8First_eq ▸ h1) (accept_eq ▸ h2)
/-- The library's number, out of the world's shape. -/
theorem mx_of {W : World} (h : W.ShapedOpen Tryd.prog) : Mx W :=
  cell_of_shapedOpen_int (g := Tryd.laysSplit_ren.g 1) (t := 3) (zero := #[.int .i64 0]) h (of_decide_eq_true (by kernel_rfl)) (by kernel_rfl) rfl (by kernel_rfl) (by kernel_rfl) Tryd.underlying3

section
variable {H : Type} {enc : TypeId × Value → H} {W : World}

theorem str_open {base : Nat} {v : Value} {d : DataW H} {ps : List MemPlace} {ts : List TypeId} {ds : List (DataW H)} {j : Nat} (hval : Value.okWide Tryd.prog W .any base 9 v)
    (h : DataW.Trod enc Tryd.prog W 0 (fun _ => true) true 9 v d ps) (hz : (DataW.weightsEach Tryd.prog ts ds).all (· ≤ reachBytes) = true) (ht : ts[j]? = some 9) (hd : ds[j]? = some d) : ∃ (s : ByteArray) (l : List UInt8), v = .string s ∧ RdS s l := by
  obtain ⟨s, rfl, rfl, rfl, hs⟩ := Go.ChangeMaps.open_string Tryd.underlying9 hval h
  have := sized_string hz ht hd
  exact ⟨s, _, rfl, ⟨rfl, by simpa [reachBytes] using this⟩⟩

/-- A law's frame that hands on the world's shape, beside what the row lists. -/
theorem returns_shaped {a : Assume} {C : Checked} {os : Os} {f : FuncId} {fn : Func} {s : ChangeSpec} {conds : List PathCond} {apart fresh handsOn again : Bool} {X : World → Array Value → Prop}
    (hX : ∀ (w w' : World) (args : Array Value), w.heap = w'.heap → X w args → X w' args)
    (own : ownKnob C.prog.godebug = none) (started : os.Started) (noInit : C.prog.inits.idxOf? f = none) (hfn : C.prog.funcs[f]? = some fn)
    (witness : ∃ (w : World) (tape : Tape) (i : Input), w.os = os ∧ (w.forCall tape i).Shaped C.prog ∧ i.vars = [] ∧ Input.okWide C.prog (w.forCall tape i) .any w.heap.size f i ∧
      ((s.pre enc C.prog fn conds apart (w.forCall tape i).memory i.args ∧ X (w.forCall tape i).memory i.args) ∧ sizedMet enc C.prog fn (OpenSpec.ofChange s) apart (w.forCall tape i).memory i.args) ∧ a.holds C.prog (lone (Frame.enter C.prog f i.args .normal) [] (w.forCall tape i)))
    (contract : ∀ (W : World) (base : Nat) (args : Array Value) (ds gs : List (DataW H)) (before : List MemPlace),
      (∀ (j : Nat) t v, fn.params[j]? = some t → args[j]? = some v → Value.okWide C.prog W .any base t v) →
      DataW.Whole enc C.prog fn.params.toList s.vars apart W args.toList ds gs before →
      (DataW.weightsEach C.prog (fn.params.toList ++ s.plain.varTypes C.prog) (ds ++ gs)).all (· ≤ reachBytes) = true → X W args → W.ShapedOpen C.prog →
      Calls C.prog f args W fun e W' => ∃ v, e = .returned v ∧ s.post enc C.prog fn apart fresh handsOn again W args v W') :
    ReturnsInHanded a C os f .any (fun w args => (s.pre enc C.prog fn conds apart w args ∧ X w args) ∧ sizedMet enc C.prog fn (OpenSpec.ofChange s) apart w args) (s.post enc C.prog fn apart fresh handsOn again) := by
  refine returnsInHanded_of_calls own started noInit witness ?_
  intro w tape i _ hsh _ hok hpre _
  obtain ⟨_, _, _, fn2, hf2, _, _, _, _, hval⟩ := hok
  obtain rfl : fn2 = fn := Option.some.inj (hf2.symm.trans hfn)
  obtain ⟨⟨⟨ds, gs, before, hw, _⟩, hx⟩, hz⟩ := hpre
  refine (contract (w.forCall tape i) w.heap.size i.args ds gs before hval (DataW.Whole.of_heap (w' := w.forCall tape i) (by rfl) hw) (hz.weights hw) (hX _ _ _ (by rfl) hx) hsh).mono fun e W' ⟨v, he, hp⟩ => ?_
  subst he
  exact ChangeSpec.post_blind hp
end

end Go.Proofs.YtkljkpffpdpphaaDoor


/-
  A slice of columns that came in.
-/
namespace Go.Proofs.YtkljkpffpdpphaaDoor
open Go.ChangeShapes Go.WideShapes Go.ChangeAt Go.RowKit Go.Shelf Go.Deep
section
variable {H : Type} {enc : TypeId × Value → H} {W : World}

theorem weights_mem_all5 {P : Program} {e : TypeId} {d : DataW H} {n : Nat} (hn : n ∈ d.weights P e) : ∀ {l : List (DataW H)}, d ∈ l → n ∈ DataW.weightsAll P e l
  | [], h => by simp at h
  | a :: r, h => by
    rw [DataW.weightsAll, List.mem_append]
    rcases List.mem_cons.1 h with rfl | h
    · exact .inl hn
    · exact .inr (weights_mem_all5 hn h)

theorem cells_column : Tryd.prog.cellsOf 51 = 2 := by kernel_rfl

theorem col_part {m : Nat} {cs : List Value} {x : DataW H × List MemPlace} (h : DataW.trod enc Tryd.prog W 0 (fun _ => true) true m 51 cs = some x) :
    ∃ (c : ColB), cs = colV c ∧ x.1 = .agg [.lit (.string c.1.data.toList), .lit (.int .i64 c.2)] ∧ -9223372036854775808 ≤ c.2 ∧ c.2 ≤ 9223372036854775807 := by
  obtain ⟨y0, y1, k, hx, hl, h0, h1⟩ := trod_struct2 Tryd.underlying51 h
  rw [cells_column] at hl
  match cs, hl with
  | [c0, c1], _ =>
    have k9 : Tryd.prog.cellsOf 3 = 1 := by kernel_rfl
    have k8 : Tryd.prog.cellsOf 9 = 1 := by kernel_rfl
    simp [k9, k8] at h0 h1
    obtain ⟨s, e2, e3, _⟩ := DataW.trod_string Tryd.underlying9 h0
    obtain ⟨a, e0, e1, wa⟩ := DataW.trod_int Tryd.underlying3 h1
    simp at e0 e2
    subst e0 e2
    have hb := bd_i64 wa
    exact ⟨(s, a), rfl, by rw [hx]; simp [e1, e3], hb.1, hb.2⟩

theorem cols_open {base : Nat} {v : Value} {d : DataW H} {ps : List MemPlace} {ts : List TypeId} {ds : List (DataW H)} {j : Nat} (hval : Value.okWide Tryd.prog W .any base 22 v)
    (h : DataW.Trod enc Tryd.prog W 0 (fun _ => true) true 22 v d ps) (hz : (DataW.weightsEach Tryd.prog ts ds).all (· ≤ reachBytes) = true) (ht : ts[j]? = some 22) (hd : ds[j]? = some d) : ∃ cs, RdC W v cs ∧ CS cs := by
  have hzd : ∀ n ∈ d.weights Tryd.prog 22, n ≤ reachBytes := fun n hn => by
    have := List.all_eq_true.1 hz _ (DataW.weights_mem_each ht hd n hn)
    simpa using this
  obtain ⟨a0, len, cap, rfl⟩ := okWide_slice Tryd.underlying22 hval
  obtain ⟨fuel, hf⟩ := h
  have hb1 : 1 ≤ Tryd.prog.bytesOf 51 := Nat.le_of_ble_eq_true (by kernel_rfl)
  rcases open_slice Tryd.underlying22 hf with ⟨hcs, _⟩ | ⟨x, l, c, m, n, D, Pl, hcs, _, hl, hm, hmm, hx, hcell⟩
  · simp [Value.cells] at hcs
    obtain ⟨rfl, rfl, rfl⟩ := hcs
    exact ⟨[], RdC.nil W, fun c hc => absurd hc (by simp)⟩
  · simp [Value.cells] at hcs
    obtain ⟨rfl, rfl, rfl⟩ := hcs
    simp only [Prod.mk.injEq] at hx
    obtain ⟨rfl, _⟩ := hx
    simp only [if_true] at hmm
    subst hmm
    have hw : ∀ i, i < len → ∀ k ∈ (D i).weights Tryd.prog 51, k ≤ reachBytes := fun i hi k hk => by
      refine hzd k ?_
      rw [DataW.weights]
      simp only [Tryd.underlying22]
      refine List.mem_cons_of_mem _ (List.mem_append.2 (.inl (weights_mem_all5 hk ?_)))
      exact List.mem_map.2 ⟨i, List.mem_range.2 hi, rfl⟩
    have hs := hzd _ (by rw [DataW.weights]; simp only [Tryd.underlying22]; exact List.mem_cons_self ..)
    simp only [List.length_map, List.length_range, reachBytes] at hs
    have hs2 : len ≤ 140737488351232 := by
      have : (len + (m - len)) * 1 ≤ (len + (m - len)) * Tryd.prog.bytesOf 51 := Nat.mul_le_mul_left _ hb1
      omega
    rw [cells_column] at hcell
    obtain ⟨L, hL⟩ := choose_lt (α := ColB) (p := fun i a => (a.1.size ≤ 140737488351232 ∧ -9223372036854775808 ≤ a.2 ∧ a.2 ≤ 9223372036854775807) ∧ ∀ j u, (colV a)[j]? = some u → W.cell? ((x.add (i * 2)).add j) = some u) (n := len) (fun i hi => by
      obtain ⟨cs', h1, h2⟩ := hcell i (by omega)
      obtain ⟨_, h3, h4⟩ := World.cells?_some h1
      obtain ⟨a, rfl, hwa, hk1, hk2⟩ := col_part h2
      have hsz := hw i hi a.1.data.toList.length (by
        dsimp only at hwa
        rw [hwa]
        simp [DataW.weights, Tryd.underlying51, DataW.weightsEach])
      refine ⟨a, ⟨by simpa [reachBytes] using hsz, hk1, hk2⟩, fun j u hu => ?_⟩
      have hj : j < 2 := by have := (List.getElem?_eq_some_iff.1 hu).1; simpa [colV] using this
      rw [h4 j hj, hu])
    have hlen : ((List.range len).map L).length = len := by simp
    have e : ∀ i, i < len → ((List.range len).map L).getD i default = L i := fun i hi => by simp [List.getD, hi]
    have hsp : 0 < len → ∃ b o, x = ⟨b, o, none⟩ := by
      intro hp
      have h0 := (hL 0 hp).2 0 _ rfl
      obtain ⟨b, o, sp⟩ := x
      cases sp with
      | none => exact ⟨b, o, rfl⟩
      | some s =>
        exfalso
        simp only [Addr.add, if_true, World.cell?] at h0
        split at h0 <;> simp at h0
    refine ⟨(List.range len).map L, ⟨⟨some x, _, by rw [List.length_map, hlen], by rw [List.length_map, hlen]; omega, (by intro h; cases h), fun hp => ?_⟩, ?_, ?_, by rw [List.length_map, hlen]; exact hs2⟩, ?_⟩
    · rw [List.length_map, hlen] at hp
      obtain ⟨b, o, rfl⟩ := hsp hp
      exact ⟨b, o, rfl⟩
    · intro i hi j u hu
      rw [List.length_map, hlen] at hi
      rw [getD_map colV _ i (by rw [hlen]; exact hi) default, e i hi] at hu
      have := (hL i hi).2 j u hu
      obtain ⟨b, o, rfl⟩ := hsp (by omega)
      rw [Addr.add_mid, Addr.add_mid, Nat.add_assoc] at this
      rw [adr_lit]
      exact this
    · intro z hz
      obtain ⟨c, _, rfl⟩ := List.mem_map.1 hz
      rfl
    · intro c hc
      obtain ⟨i, hi, rfl⟩ := List.mem_map.1 hc
      exact (hL i (List.mem_range.1 hi)).1
end

end Go.Proofs.YtkljkpffpdpphaaDoor


/-
  Proved: for any columns and any byte, SchemaPrints answers true: the same columns have the same print, with a column's kind turned other bytes, with two columns in the other order others unless they are one. No condition.
-/
namespace Go.Proofs.YtkljkpffpdpphaaDoor.schemaPrints
open Go.ChangeShapes Go.WideShapes Go.ChangeAt Go.RowKit

set_option maxRecDepth 1000000 in
theorem lifted (os : Os) (started : os.Started) (H : Type) (enc : TypeId × Value → H) :
    ReturnsInHanded {} Tryd.checked os 7 .any (fun w args => (Rows.schemaPrintsSpec.pre enc Tryd.prog Tryd.f7 [] false w args ∧ laidMetH Tryd.prog Rows.schemaPrintsRow.laid w) ∧ sizedMet enc Tryd.prog Tryd.f7 (OpenSpec.ofChange Rows.schemaPrintsSpec) false w args)
      (Rows.schemaPrintsSpec.post enc Tryd.prog Tryd.f7 false true false false) := by
  refine returns_shaped (C := Tryd.checked) (X := fun w _ => laidMetH Tryd.prog Rows.schemaPrintsRow.laid w) (fun _ _ _ hh h => h.of_heap hh) own started (by kernel_rfl) Tryd.func7
    (ChangeSpec.witness_shaped (enc := enc) (C := Tryd.checked) (os := os) (X := fun w _ => laidMetH Tryd.prog Rows.schemaPrintsRow.laid w) false (World.laidAll Tryd.prog os Rows.schemaPrintsRow.laid) #[.slice none 0 0, .int .u8 0] 8 (World.laidAll_os _ _ _)
      (World.shaped_of_ZipB (by kernel_rfl) (by kernel_rfl)) (by kernel_rfl) (by kernel_rfl) (by kernel_rfl)
      (by rw [MakeChecks.laidMetH_plain _ _ _ (by kernel_rfl)]; exact laidMet_laidAll _ (by kernel_rfl) (by kernel_rfl))) ?_
  intro W base args ds gs before hval0 hW hsz0 hL0 hsh
  have hL := hL0
  rw [MakeChecks.laidMetH_plain _ _ _ (by kernel_rfl)] at hL
  have hT : Tabs W := tabs_of (Lib.laidMet.reads hL (.tail _ (.head _))) (Lib.laidMet.reads hL (.head _))
  have hX := mx_of hsh
  have hsz : (DataW.weightsEach Tryd.prog (Tryd.f7.params.toList ++ Rows.schemaPrintsSpec.plain.varTypes Tryd.prog) (ds ++ gs)).all (· ≤ reachBytes) = true := hsz0
  have hval : ∀ (j : Nat) t v, Tryd.f7.params[j]? = some t → args[j]? = some v → Value.okWide Tryd.prog W .any base t v := hval0
  have hW' := hW
  obtain ⟨p, q, hA0, hV, rfl, hfz, hnd⟩ := hW
  have hA : DataW.TrodAll enc Tryd.prog W 0 (fun _ => true) true Tryd.f7.params.toList args.toList ds p := hA0
  rw [Tryd.params7] at hA hval hsz
  obtain ⟨v0, vs0, d0, ds0, p0, q0, hargs, rfl, rfl, h0, r0⟩ := trodAll_cons hA
  obtain ⟨v1, vs1, d1, ds1, p1, q1, rfl, rfl, rfl, h1, r1⟩ := trodAll_cons r0
  obtain ⟨rfl, rfl, rfl⟩ := trodAll_nil r1
  obtain rfl : args = #[v0, v1] := by cases args; simp_all
  obtain ⟨rfl, rfl⟩ := trodVars_none hV
  have k0 := h0
  have lt0 : ∀ x ∈ p0, x.block < W.heap.size := by obtain ⟨m, hm⟩ := k0; exact DataW.trod_lt m _ _ _ hm
  obtain ⟨l0, w0, c0⟩ := cols_open (hval 0 22 v0 rfl rfl) h0 hsz (j := 0) rfl rfl
  obtain ⟨a1, rfl, rfl, rfl, w1⟩ := open_int Tryd.underlying5 (hval 1 5 v1 rfl rfl) h1
  clear hA0 hval0 hsz0
  refine (schemaPrints_walk v0 l0 a1 W w0 c0 (bd_u8 w1) hT hX).mono fun e W' ⟨he, bel⟩ => ?_
  subst he
  exact ⟨_, rfl, _, _, _, [], _, [], hW', trodAll_mk1 (shut_bool Tryd.underlying4 _), (trodAll_cons_mk (Below.trod laidOut (by kernel_rfl) (of_decide_eq_true (by kernel_rfl)) k0 bel lt0) (trodAll_cons_mk (shut_int Tryd.underlying5 w1) trodAll_mk0)), rfl, bel.frame _, fun h => by cases h⟩

theorem over : Rows.schemaPrintsRow.holds Tryd.pinned (OpenSpec.ofChange Rows.schemaPrintsSpec) :=
  OpenClaim.holds_of_wide 7 Tryd.f7 rfl rfl rfl rfl rfl rfl rfl ⟨rfl, rfl, rfl, rfl, rfl⟩ rfl rfl rfl rfl rfl (by kernel_rfl) Tryd.func7 (by kernel_rfl)
    (of_decide_eq_true (by kernel_rfl)) (by unfold Func.isWrapper; first | (rw [if_pos (by decide +kernel)]; kernel_rfl) | (rw [if_neg (by decide +kernel)]; exact ⟨rfl, rfl⟩))
    (fun os started H enc _ => lifted os started H enc)

theorem proved : Rows.SchemaPrintsCardSaid :=
  Claim7.holds_tied_plain_at .later [] _ _ _ _ over (fun _ h => by cases h) (by kernel_rfl) (fun _ h => by cases h) schemaPrints_row_tie rfl ⟨rfl, rfl⟩ (by kernel_rfl) rfl
    (fun f fn hf hfn => by
      obtain rfl : f = 7 := Option.some.inj ((show Tryd.prog.funcNamed "deckle/decklelaw05.SchemaPrints" = some 7 by kernel_rfl).symm.trans hf) |>.symm
      obtain rfl : fn = Tryd.f7 := (Option.some.inj (Tryd.func7.symm.trans hfn)).symm
      exact ⟨by kernel_rfl, fun j t ht => by
        rw [Tryd.params7] at ht
        have hm : t ∈ [22, 5] := by simpa using Array.mem_of_getElem? ht
        have hall : ([22, 5].all fun u => !Tryd.prog.wantsStandIn u) = true := by kernel_rfl
        exact (show Tryd.prog.wantsStandIn t = false by simpa using List.all_eq_true.1 hall t hm)⟩)
    (by kernel_rfl)
#print axioms proved
end Go.Proofs.YtkljkpffpdpphaaDoor.schemaPrints

