/-
  Bytes and schemas undo each other (no program in it): what is read whole has those bytes.
-/
import Derived.Test.YtdegeifklchjaaaDoorEncOne
import Derived.Test.YtdegeifklchjaaaDoorSchRead
import Derived.Test.YtdegeifklchjaaaDoorSchSplit
import Derived.Test.YtdegeifklchjaaaDoorSchParse
import Derived.Test.YtdegeifklchjaaaDoorSchWrite
import Derived.Test.YtdegeifklchjaaaDoorSchText
import Derived.Test.YtdegeifklchjaaaDoorLawKit
import Derived.Lib.LaidU8T
import Derived.PinnedBridge
import Derived.Lay
import Derived.Handed
import Derived.OpenVars
import Derived.ShapedOpen
import Derived.Shelf.Vars
import Derived.Lib.SmallJoins
import Derived.Test.YtdegeifklchjaaaDoorTie
import Derived.Test.YtdegeifklchjaaaDoorCards
import Derived.LaidOnce
import Derived.SevenTiedAt
set_option linter.unusedVariables false
set_option linter.unusedSimpArgs false
set_option maxRecDepth 1000000
namespace Go.Proofs.YtdegeifklchjaaaDoor
open Go.RowKit

theorem take_plus {l : List UInt8} {k n : Nat} {x : List UInt8} (h : x = (l.drop k).take n) : l.take (k + n) = l.take k ++ x := by
  rw [h, List.take_add]

theorem rdU_enc {l : List UInt8} {k most : Nat} (hk : k ≤ l.length) (h : (rdU l k most).2.2 = 0) :
    l.take (rdU l k most).2.1 = l.take k ++ encU (rdU l k most).1 ∧ (rdU l k most).2.1 ≤ l.length ∧ (rdU l k most).1 ≤ most := by
  unfold rdU at h ⊢
  by_cases h1 : (getU (l.drop k)).2.2 ≠ 0
  · rw [if_pos h1] at h; exact absurd h h1
  · rw [if_neg h1] at h ⊢
    by_cases h2 : most < (getU (l.drop k)).1
    · rw [if_pos h2] at h; cases h
    · rw [if_neg h2]
      have h0 : (getU (l.drop k)).2.2 = 0 := Decidable.of_not_not h1
      have hg := getU_good (l.drop k) h0
      have he : encU (getU (l.drop k)).1 = (l.drop k).take (getU (l.drop k)).2.1 := getU_enc (l := l.drop k) (by rw [← h0])
      rw [List.length_drop] at hg
      exact ⟨take_plus he, by dsimp only; omega, by dsimp only; omega⟩

theorem getB_most {l : List UInt8} {most : Nat} (h : (getB l (most : Int)).2.2 = 0) : (getB l (most : Int)).1.length ≤ most := by
  unfold getB at h ⊢
  split at h
  · rename_i h1; exact absurd h h1
  · rename_i h1
    split at h
    · cases h
    · rename_i h2
      split at h
      · cases h
      · rename_i h3
        rw [if_neg h1, if_neg h2, if_neg h3]
        dsimp only
        rw [List.length_take]
        omega

theorem rdB_enc {l : List UInt8} {k : Nat} (hk : k ≤ l.length) (h : (rdB l k 32).2.2 = 0) :
    l.take (rdB l k 32).2.1 = l.take k ++ encB (rdB l k 32).1 ∧ (rdB l k 32).2.1 ≤ l.length ∧ (rdB l k 32).1.length ≤ 32 := by
  unfold rdB at h ⊢
  by_cases h1 : (getB (l.drop k) 32).2.2 ≠ 0
  · rw [if_pos h1] at h; exact absurd h h1
  · rw [if_neg h1]
    have h0 : (getB (l.drop k) 32).2.2 = 0 := Decidable.of_not_not h1
    obtain ⟨he, h2, h3, _⟩ := getB_enc (l := l.drop k) (most := 32) (c := (getB (l.drop k) 32).1) (n := (getB (l.drop k) 32).2.1) (by rw [← h0])
    rw [List.length_drop] at h3
    exact ⟨take_plus he, by dsimp only; omega, getB_most (most := 32) h0⟩

theorem rdCol_enc {l : List UInt8} {ah : List (List UInt8)} {k : Nat} (hk : k ≤ l.length) (h : (rdCol l ah k).2.2 = 0) :
    l.take (rdCol l ah k).2.1 = l.take k ++ wrCol (rdCol l ah k).1 ∧ (rdCol l ah k).2.1 ≤ l.length ∧ colErr ah (rdCol l ah k).1 = 0 := by
  by_cases h1 : (rdB l k 32).2.2 = 0
  · obtain ⟨he, hle, h32⟩ := rdB_enc hk h1
    by_cases hf : fine (rdB l k 32).1 ah = true
    · by_cases hs : (rdB l k 32).2.1 < l.length
      · by_cases h5 : 5 < at8 l (rdB l k 32).2.1
        · rw [rdCol_kind h1 hf hs h5] at h; cases h
        · rw [rdCol_ok h1 hf hs h5]
          dsimp only
          have h8 : 0 ≤ at8 l (rdB l k 32).2.1 := by unfold at8; omega
          refine ⟨?_, by omega, ?_⟩
          · rw [take_succD hs 0, he]
            unfold wrCol
            dsimp only
            rw [show UInt8.ofNat (at8 l (rdB l k 32).2.1).toNat = l.getD (rdB l k 32).2.1 0 from by unfold at8; rw [Int.toNat_natCast]; simp, List.append_assoc]
          · unfold colErr
            dsimp only
            rw [if_neg (by omega), if_neg (by rw [hf]; simp), if_neg (by omega)]
      · rw [rdCol_short h1 hf hs] at h; cases h
    · have hf2 : fine (rdB l k 32).1 ah = false := by simpa using hf
      rw [rdCol_name h1 hf2] at h; cases h
  · rw [rdCol_bytes h1] at h; exact absurd h h1

theorem names_app (a b : List Col) : names (a ++ b) = names a ++ names b := by simp [names]
theorem errFrom_snoc : ∀ (acc : List Col) (ah : List (List UInt8)) (c : Col), errFrom ah acc = 0 → colErr (ah ++ names acc) c = 0 → errFrom ah (acc ++ [c]) = 0
  | [], ah, c, _, hc => by
    rw [List.nil_append, errFrom, if_neg (by simpa [names] using hc), errFrom]
  | x :: r, ah, c, h, hc => by
    rw [errFrom] at h
    by_cases hx : colErr ah x ≠ 0
    · rw [if_pos hx] at h; exact absurd h hx
    · rw [if_neg hx] at h
      rw [List.cons_append, errFrom, if_neg hx]
      refine errFrom_snoc r _ c h ?_
      rw [List.append_assoc]
      exact hc

theorem rdCols_enc (l P : List UInt8) : ∀ (m : Nat) (acc : List Col) (k : Nat), k ≤ l.length → l.take k = P ++ wrCols acc → errFrom [] acc = 0 → (rdCols l m acc k).2.2 = 0 →
    l.take (rdCols l m acc k).2.1 = P ++ wrCols (rdCols l m acc k).1 ∧ (rdCols l m acc k).2.1 ≤ l.length ∧ errFrom [] (rdCols l m acc k).1 = 0 ∧ (rdCols l m acc k).1.length = acc.length + m
  | 0, acc, k, hk, ht, he, h => by rw [rdCols]; exact ⟨ht, hk, he, rfl⟩
  | m + 1, acc, k, hk, ht, he, h => by
    rw [rdCols] at h ⊢
    by_cases h1 : (rdCol l (names acc) k).2.2 ≠ 0
    · rw [if_pos h1] at h; exact absurd h h1
    · rw [if_neg h1] at h ⊢
      obtain ⟨c1, c2, c3⟩ := rdCol_enc hk (Decidable.of_not_not h1)
      have ih := rdCols_enc l P m (acc ++ [(rdCol l (names acc) k).1]) (rdCol l (names acc) k).2.1 c2 (by
        rw [c1, ht]; unfold wrCols; rw [List.flatMap_append, List.append_assoc]; simp) (errFrom_snoc acc [] _ he (by simpa using c3)) h
      refine ⟨ih.1, ih.2.1, ih.2.2.1, ?_⟩
      rw [ih.2.2.2, List.length_append, List.length_singleton]; omega

theorem rdTake_enc {l : List UInt8} (h : (rdTake l).2.2 = 0) : l.take (rdTake l).2.1 = wrS (rdTake l).1 ∧ (rdTake l).2.1 ≤ l.length ∧ errS (rdTake l).1 = 0 := by
  unfold rdTake at h ⊢
  by_cases h1 : (rdU l 0 8).2.2 ≠ 0
  · rw [if_pos h1] at h; exact absurd h h1
  · rw [if_neg h1] at h ⊢
    by_cases h2 : (rdU l 0 8).1 = 0
    · rw [if_pos h2] at h; cases h
    · rw [if_neg h2] at h ⊢
      obtain ⟨u1, u2, u3⟩ := rdU_enc (Nat.zero_le _) (Decidable.of_not_not h1)
      rw [List.take_zero, List.nil_append] at u1
      obtain ⟨r1, r2, r3, r4⟩ := rdCols_enc l (encU (rdU l 0 8).1) (rdU l 0 8).1 [] (rdU l 0 8).2.1 u2 (by rw [u1]; simp [wrCols]) rfl h
      rw [List.length_nil, Nat.zero_add] at r4
      refine ⟨?_, r2, ?_⟩
      · rw [r1]; unfold wrS; rw [r4]
      · unfold errS; rw [if_neg (by omega), if_neg (by omega)]; exact r3

theorem told_zero {l : List UInt8} {k x : Nat} (h : told l k x = 0) : x = 0 ∧ l.length ≤ k := by
  unfold told at h
  split at h
  · rename_i hx
    split at h
    · cases h
    · exact ⟨hx, by omega⟩
  · rename_i hx; exact absurd h hx
/-- What is read whole may be, and has those bytes. -/
theorem read_one {l : List UInt8} (h : readE l = 0) : errS (readC l) = 0 ∧ wrS (readC l) = l ∧ (rdTake l).2.1 = l.length := by
  obtain ⟨h1, h2⟩ := told_zero h
  obtain ⟨a, b, c⟩ := rdTake_enc h1
  have hk : (rdTake l).2.1 = l.length := by omega
  rw [hk, List.take_of_length_le (Nat.le_refl _)] at a
  unfold readC
  rw [if_pos h]
  exact ⟨c, a.symm, hk⟩

theorem cutL_join (c : UInt8) : ∀ l, Lib.join (cutL c l) [c] = l
  | [] => by rw [cutL, Lib.join_one]
  | x :: r => by
    have ih := cutL_join c r
    have hp := cutL_pos c r
    rw [cutL]
    cases hc : cutL c r with
    | nil => rw [hc] at hp; simp at hp
    | cons a t =>
      rw [hc] at ih
      rw [Lib.join_cons] at ih
      split
      · rename_i hx
        rw [Lib.join_cons]
        rw [hx, ← ih]
        simp [Lib.joinTail]
      · rw [consHead, Lib.join_cons]
        simpa using ih
theorem prPart_text {p : List UInt8} {c : Col} (h : prPart p = some c) : txCol c = p := by
  have hj := cutL_join 58 p
  unfold prPart at h
  split at h
  · rename_i n k hc
    rw [hc] at hj
    by_cases h0 : 0 ≤ kindI k
    · rw [if_pos h0] at h
      cases h
      unfold txCol
      dsimp only
      rw [kindI_name h0, ← hj, Lib.join_cons]
      simp [Lib.joinTail]
    · rw [if_neg h0] at h; cases h
  · cases h
theorem prParts_text : ∀ {ps : List (List UInt8)} {cs : List Col}, prParts ps = some cs → cs.map txCol = ps
  | [], cs, h => by rw [prParts] at h; cases h; rfl
  | p :: r, cs, h => by
    rw [prParts] at h
    cases hp : prPart p with
    | none => rw [hp] at h; cases h
    | some c =>
      rw [hp] at h
      dsimp only at h
      cases hr : prParts r with
      | none => rw [hr] at h; cases h
      | some x =>
        rw [hr] at h
        cases h
        rw [List.map_cons, prPart_text hp, prParts_text hr]
/-- What is parsed of a text has that text. -/
theorem parse_one {l : List UInt8} : ((prS l).2 = 0 ∧ errS (prS l).1 = 0 ∧ txS (prS l).1 = l) ∨ ((prS l).2 ≠ 0 ∧ (prS l).1 = []) := by
  unfold prS
  cases hp : prParts (cutL 44 l) with
  | none => exact .inr ⟨by simp, rfl⟩
  | some cs =>
    dsimp only
    by_cases h0 : errS cs = 0
    · rw [if_pos h0]
      refine .inl ⟨rfl, h0, ?_⟩
      unfold txS
      rw [prParts_text hp]
      exact cutL_join 44 l
    · rw [if_neg h0]
      exact .inr ⟨h0, rfl⟩

/-! The place is within the bytes. -/
theorem rdCol_place {l : List UInt8} {ah : List (List UInt8)} {k : Nat} (hk : k ≤ l.length) : (rdCol l ah k).2.1 ≤ l.length := by
  by_cases h1 : (rdB l k 32).2.2 = 0
  · obtain ⟨_, hle, _⟩ := rdB_enc hk h1
    by_cases hf : fine (rdB l k 32).1 ah = true
    · by_cases hs : (rdB l k 32).2.1 < l.length
      · by_cases h5 : 5 < at8 l (rdB l k 32).2.1
        · rw [rdCol_kind h1 hf hs h5]; dsimp only; omega
        · rw [rdCol_ok h1 hf hs h5]; dsimp only; omega
      · rw [rdCol_short h1 hf hs]; dsimp only; omega
    · have hf2 : fine (rdB l k 32).1 ah = false := by simpa using hf
      rw [rdCol_name h1 hf2]; dsimp only; omega
  · rw [rdCol_bytes h1]
    dsimp only
    unfold rdB at h1 ⊢
    split
    · exact hk
    · rename_i h2
      rw [if_neg h2] at h1
      exact absurd rfl h1
theorem rdCols_place (l : List UInt8) : ∀ (m : Nat) (acc : List Col) (k : Nat), k ≤ l.length → (rdCols l m acc k).2.1 ≤ l.length
  | 0, acc, k, hk => by rw [rdCols]; exact hk
  | m + 1, acc, k, hk => by
    have hc := rdCol_place (ah := names acc) hk
    rw [rdCols]
    split
    · exact hc
    · exact rdCols_place l m _ _ hc
theorem rdTake_place (l : List UInt8) : (rdTake l).2.1 ≤ l.length := by
  have hu : (rdU l 0 8).2.1 ≤ l.length := by
    by_cases h0 : (rdU l 0 8).2.2 = 0
    · exact (rdU_enc (Nat.zero_le _) h0).2.1
    · unfold rdU at h0 ⊢
      split
      · exact Nat.zero_le _
      · split
        · exact Nat.zero_le _
        · rename_i h1 h2
          rw [if_neg h1, if_neg h2] at h0
          exact absurd rfl h0
  unfold rdTake
  split
  · exact hu
  · split
    · exact hu
    · exact rdCols_place l _ _ _ hu

end Go.Proofs.YtdegeifklchjaaaDoor


/-
  Layer 5's law: its example, and whether columns are too many.
-/
namespace Go.Proofs.YtdegeifklchjaaaDoor
open Go.RowKit Go.Shelf

/-- The example's text. -/
def exT : List UInt8 := [105, 100, 58, 105, 110, 116, 44, 110, 97, 109, 101, 58, 116, 101, 120, 116]
def exC : List Col := [([105, 100], 0), ([110, 97, 109, 101], 4)]
theorem exC_fine : errS exC = 0 := by decide +kernel
theorem exC_bytes : wrS exC = [2, 2, 105, 100, 0, 4, 110, 97, 109, 101, 4] := by decide +kernel
theorem exT_parts : prParts (cutL 44 exT) = some exC := by
  have e : cutL 44 exT = [[105, 100, 58, 105, 110, 116], [110, 97, 109, 101, 58, 116, 101, 120, 116]] := by decide +kernel
  rw [e]
  have h1 : prPart [105, 100, 58, 105, 110, 116] = some ([105, 100], 0) := by
    rw [prPart_cut, show Lib.cut [105, 100, 58, 105, 110, 116] [58] = ([105, 100], [105, 110, 116], true) by decide +kernel]
    dsimp only
    rw [kindI_eq]; rfl
  have h2 : prPart [110, 97, 109, 101, 58, 116, 101, 120, 116] = some ([110, 97, 109, 101], 4) := by
    rw [prPart_cut, show Lib.cut [110, 97, 109, 101, 58, 116, 101, 120, 116] [58] = ([110, 97, 109, 101], [116, 101, 120, 116], true) by decide +kernel]
    dsimp only
    rw [kindI_eq]; rfl
  rw [prParts, h1]; dsimp only
  rw [prParts, h2]; dsimp only
  rfl
theorem exT_pr : prS exT = (exC, 0) := by
  unfold prS
  rw [exT_parts]
  exact if_pos exC_fine

set_option maxHeartbeats 4000000 in
theorem law05_alive (w : World) (hT : Tabs w) (hX : Mx w) :
    Calls Tryd.prog 8 #[] w fun e w' => e = .returned (.bool true) ∧ Below w.heap.size w w' := by
  have hS : RdS ({ data := #[105, 100, 58, 105, 110, 116, 44, 110, 97, 109, 101, 58, 116, 101, 120, 116] } : ByteArray) exT := ⟨rfl, by unfold exT; simp⟩
  have HP := Lib.hid (schema_Parse _ exT w hS (by unfold exT; simp) hT hX)
  have HT := Lib.hid hT
  clear hS hX hT
  go_enter Tryd.func8, Tryd.ntmps8
  go_wp2_with fail
  refine HP.out.mono ?_
  rintro e w1 ⟨hb1, tv, cs, rfl, hO, hC, hl8, hcs⟩
  rw [exT_pr] at hcs
  rw [exT_pr]
  dsimp only at hcs ⊢
  have HW := schema_Write tv cs w1 (hO.rd (by omega)) hC (HT.out.later hb1)
  rw [hcs] at HW
  have HW := Lib.hid HW
  have HB1 := Lib.hid hb1
  clear hb1 hO hC hl8 hcs HP HT
  go_wp2_with fail
  refine HW.out.mono ?_
  rintro e w2 ⟨bv, rfl, hb2, hres⟩
  rw [exC_fine] at hres
  rw [exC_fine]
  rw [exC_bytes] at hres
  rcases hres with ⟨h, _⟩ | ⟨_, hO⟩
  · exact absurd rfl h
  have HB2 := Lib.hid (HB1.out.trans (hb2.mono HB1.out.size))
  have hR := hO.rd (by decide)
  have HR := Lib.hid hR
  clear hb2 hO HW
  have hstr := HR.out.str
  go_wp2
  go_ret
  exact ⟨rfl, HB2.out⟩

set_option maxHeartbeats 4000000 in
theorem law05_great (v : Value) (cs : List ColB) (w : World) (h : RdC w v cs) (hC : CS cs) :
    Calls Tryd.prog 9 #[v] w fun e w' => ∃ b, e = .returned (.bool b) ∧ Below w.heap.size w w' := by
  have hlen := h.len
  have hsm := h.small
  have HH := Lib.hid h
  obtain ⟨n, hn⟩ : ∃ n, n = cs.length := ⟨_, rfl⟩
  rw [← hn] at hlen hsm
  have HN := Lib.hid hn
  clear h hn
  go_enter Tryd.func9, Tryd.ntmps9
  go_wp2
  go_loopw [3, 8] (fun a i wr => ∃ (k : Nat) (x : Int), k ≤ n ∧ i = .int .i64 k ∧ a = .int .i64 x ∧ Hid (Below w.heap.size w wr)) (fun _ i _ => n - (intOf i).toNat)
  case atStart => exact ⟨0, 0, by omega, rfl, rfl, Lib.hid (Below.refl _ _)⟩
  case round =>
    obtain ⟨k, x, hk, rfl, rfl, HB⟩ := hrel
    by_cases hlt : k < n
    · have hr := HH.out.later HB.out (Nat.le_refl _)
      have hl2 : k < cs.length := by rw [← HN.out]; exact hlt
      obtain ⟨b, o, hidx, hcell, hblk⟩ := hr.get hl2
      obtain ⟨hc0, hc1⟩ := hcell _ hr
      obtain ⟨hs1, hk1, hk2⟩ := hC.get hl2
      rcases hcg : cs.getD k default with ⟨s, kd⟩
      rw [hcg] at hc0 hc1 hs1 hk1 hk2
      dsimp only at hc0 hc1 hs1 hk1 hk2
      have HB1 := Lib.hid (HB.out.alloc HB.out.size (.cells #[.string s, .int .i64 kd] 51))
      clear hr hcell hcg hl2 hblk
      go_wp2
      go_roundw
      case rel => exact ⟨k + 1, _, by omega, by go_num, rfl, HB1⟩
      case measure => simp [intOf]; omega
    · obtain rfl : k = n := by omega
      clear hlt
      go_wp2
      go_ret
      exact ⟨_, rfl, HB.out⟩

end Go.Proofs.YtdegeifklchjaaaDoor


/-
  SchemaOne: the law's own walk.
-/
namespace Go.Proofs.YtdegeifklchjaaaDoor
open Go.RowKit Go.Shelf

theorem rdS_same {s t : ByteArray} {l : List UInt8} (h : RdS s l) (h2 : RdS t l) : s = t := h.eq.trans h2.eq.symm
theorem colsL_nil {cs : List ColB} (h : colsL cs = []) : cs = [] := by
  cases cs with
  | nil => rfl
  | cons a r => simp [colsL] at h

set_option maxHeartbeats 8000000 in
theorem schemaOne_walk (b : Value) (l : List UInt8) (t : ByteArray) (m : List UInt8) (w : World) (hR : Rd w b l) (hS : RdS t m) (hT : Tabs w) (hX : Mx w) :
    Calls Tryd.prog 6 #[b, .string t] w fun e w' => e = .returned (.bool true) ∧ Below w.heap.size w w' := by
  have hrl := hR.len
  have hsl := hS.len
  have HR := Lib.hid hR
  have HS := Lib.hid hS
  have HT := Lib.hid hT
  have HX := Lib.hid hX
  have hrs := hR.small
  have hss := hS.small
  clear hR hS hT hX
  go_enter Tryd.func6, Tryd.ntmps6
  go_wp2_with fail
  refine (law05_alive w HT.out HX.out).mono ?_
  rintro e w1 ⟨rfl, hb⟩
  have HB := Lib.hid hb
  clear hb
  by_cases hgo : l.length ≤ 2000 ∧ m.length ≤ 2000
  · obtain ⟨g1, g2⟩ := hgo
    have d1 : decide ((2000 : Int) < (l.length : Int)) = false := decide_eq_false (by omega)
    have d2 : decide ((2000 : Int) < (m.length : Int)) = false := decide_eq_false (by omega)
    go_wp2_with fail
    refine (schema_Read b l w1 (HR.out.later HB.out (Nat.le_refl _)) (HT.out.later HB.out)).mono ?_
    rintro e w2 ⟨hb, tv, cs, rfl, hO, hC, hl8, hcs⟩
    have HB2 := Lib.hid (HB.out.trans (hb.mono HB.out.size))
    have H1 := Lib.hid (hO.rd (by omega))
    have HC := Lib.hid hC
    have C1 := Lib.hid hcs
    have hpl := rdTake_place l
    clear hb hO hC hcs
    obtain ⟨n1, hn1⟩ : ∃ n1, n1 = (rdTake l).2.1 := ⟨_, rfl⟩
    obtain ⟨e1, he1⟩ : ∃ e1, e1 = readE l := ⟨_, rfl⟩
    rw [← hn1, ← he1]
    rw [← hn1] at hpl
    have HN1 := Lib.hid hn1
    have HE1 := Lib.hid he1
    clear hn1 he1
    by_cases h0 : e1 = 0
    · obtain ⟨r1, r2, r3⟩ := read_one (l := l) (by rw [← HE1.out]; exact h0)
      have q0 : ((e1 : Int) == 0) = true := by rw [h0]; rfl
      have hnl : n1 = l.length := by rw [HN1.out]; exact r3
      have q1 : ((n1 : Int) != (l.length : Int)) = false := by rw [hnl]; simp
      have HW := schema_Write tv cs w2 H1.out HC.out (HT.out.later HB2.out)
      rw [C1.out] at HW
      have HW := Lib.hid HW
      have R1 := Lib.hid r1
      have R2 := Lib.hid r2
      clear h0 r1 r2 r3 hnl
      go_wp2_with fail
      refine HW.out.mono ?_
      rintro e w3 ⟨bv, rfl, hb3, hres⟩
      rw [R1.out] at hres
      rw [R1.out]
      rw [R2.out] at hres
      rcases hres with ⟨h, _⟩ | ⟨_, hO⟩
      · exact absurd rfl h
      have HB3 := Lib.hid (HB2.out.trans (hb3.mono HB2.out.size))
      have H3 := Lib.hid (H1.out.later hb3 (Nat.le_refl _))
      have HRc := Lib.hid (hO.rd (by omega))
      have HRb := Lib.hid (HR.out.later HB3.out (Nat.le_refl _))
      have HCK := schema_Check tv cs w3 H3.out HC.out (HT.out.later HB3.out)
      rw [C1.out, R1.out] at HCK
      have HCK := Lib.hid HCK
      have hstr1 := HRc.out.str
      have hstr2 := HRb.out.str
      clear hb3 hO HW hl8
      go_wp2_with fail
      refine HCK.out.mono ?_
      rintro e w4 ⟨rfl, hb4⟩
      have HB4 := Lib.hid (HB3.out.trans (hb4.mono HB3.out.size))
      clear hb4 HCK hstr1 hstr2
      go_wp2_with fail
      refine (schema_Parse t m w4 HS.out (by omega) (HT.out.later HB4.out) (HX.out.later HB4.out (Nat.le_refl _))).mono ?_
      rintro e w5 ⟨hb, xv, xs, rfl, hO, hC, hl8, hcs⟩
      have HB5 := Lib.hid (HB4.out.trans (hb.mono HB4.out.size))
      have H5 := Lib.hid (hO.rd (by omega))
      have HC5 := Lib.hid hC
      have C5 := Lib.hid hcs
      clear hb hO hC hl8 hcs
      obtain ⟨e2, he2⟩ : ∃ e2, e2 = (prS m).2 := ⟨_, rfl⟩
      rw [← he2]
      have HE2 := Lib.hid he2
      clear he2
      rcases parse_one (l := m) with ⟨p0, p1, p2⟩ | ⟨p0, p1⟩
      · rw [← HE2.out] at p0
        have z0 : ((e2 : Int) != 0) = false := by rw [p0]; rfl
        have HX5 := schema_Text xv xs w5 H5.out HC5.out (HT.out.later HB5.out)
        rw [C5.out] at HX5
        have HX5 := Lib.hid HX5
        have P1 := Lib.hid p1
        have P2 := Lib.hid p2
        clear p0 p1 p2
        go_wp2_with fail
        refine HX5.out.mono ?_
        rintro e w6 ⟨x, rfl, hb, hres⟩
        rw [P1.out] at hres
        rw [P1.out]
        rw [P2.out] at hres
        rcases hres with ⟨h, _⟩ | ⟨_, hx⟩
        · exact absurd rfl h
        have hxt : x = t := rdS_same hx HS.out
        subst hxt
        have HB6 := Lib.hid (HB5.out.trans (hb.mono HB5.out.size))
        clear hb hx HX5
        go_wp2
        go_ret
        exact ⟨rfl, HB6.out⟩
      · rw [← HE2.out] at p0
        have z0 : ((e2 : Int) != 0) = true := by rw [bne_iff_ne]; omega
        have hx0 : xs = [] := colsL_nil (by rw [C5.out]; exact p1)
        have hxlen := H5.out.len
        rw [show ((xs.length : Nat) : Int) = 0 from by rw [hx0]; rfl] at hxlen
        clear p0 p1 hx0
        go_wp2
        go_ret
        exact ⟨rfl, HB5.out⟩
    · have q0 : ((e1 : Int) == 0) = false := by rw [beq_eq_false_iff_ne]; omega
      have hc0 : cs = [] := colsL_nil (by rw [C1.out]; unfold readC; rw [if_neg (by rw [← HE1.out]; exact h0)])
      have hlen := H1.out.len
      rw [show ((cs.length : Nat) : Int) = 0 from by rw [hc0]; rfl] at hlen
      have q1 : decide ((n1 : Int) < 0) = false := decide_eq_false (by omega)
      have q2 : decide ((l.length : Int) < (n1 : Int)) = false := decide_eq_false (by omega)
      have HB4 := HB2
      obtain ⟨w4, hw4⟩ : ∃ w4, w4 = w2 := ⟨_, rfl⟩
      rw [← hw4] at HB4
      have HW4 := Lib.hid hw4
      clear h0 hc0 hl8 hw4
      go_wp2_with fail
      rw [← HW4.out]
      refine (schema_Parse t m w4 HS.out (by omega) (HT.out.later HB4.out) (HX.out.later HB4.out (Nat.le_refl _))).mono ?_
      rintro e w5 ⟨hb, xv, xs, rfl, hO, hC, hl8, hcs⟩
      have HB5 := Lib.hid (HB4.out.trans (hb.mono HB4.out.size))
      have H5 := Lib.hid (hO.rd (by omega))
      have HC5 := Lib.hid hC
      have C5 := Lib.hid hcs
      clear hb hO hC hl8 hcs hlen
      obtain ⟨e2, he2⟩ : ∃ e2, e2 = (prS m).2 := ⟨_, rfl⟩
      rw [← he2]
      have HE2 := Lib.hid he2
      clear he2
      rcases parse_one (l := m) with ⟨p0, p1, p2⟩ | ⟨p0, p1⟩
      · rw [← HE2.out] at p0
        have z0 : ((e2 : Int) != 0) = false := by rw [p0]; rfl
        have HX5 := schema_Text xv xs w5 H5.out HC5.out (HT.out.later HB5.out)
        rw [C5.out] at HX5
        have HX5 := Lib.hid HX5
        have P1 := Lib.hid p1
        have P2 := Lib.hid p2
        clear p0 p1 p2
        go_wp2_with fail
        refine HX5.out.mono ?_
        rintro e w6 ⟨x, rfl, hb, hres⟩
        rw [P1.out] at hres
        rw [P1.out]
        rw [P2.out] at hres
        rcases hres with ⟨h, _⟩ | ⟨_, hx⟩
        · exact absurd rfl h
        have hxt : x = t := rdS_same hx HS.out
        subst hxt
        have HB6 := Lib.hid (HB5.out.trans (hb.mono HB5.out.size))
        clear hb hx HX5
        go_wp2
        go_ret
        exact ⟨rfl, HB6.out⟩
      · rw [← HE2.out] at p0
        have z0 : ((e2 : Int) != 0) = true := by rw [bne_iff_ne]; omega
        have hx0 : xs = [] := colsL_nil (by rw [C5.out]; exact p1)
        have hxlen := H5.out.len
        rw [show ((xs.length : Nat) : Int) = 0 from by rw [hx0]; rfl] at hxlen
        clear p0 p1 hx0
        go_wp2
        go_ret
        exact ⟨rfl, HB5.out⟩
  · have HF := Lib.hid (fun wz (hz : Below w.heap.size w wz) => (law05_alive wz (HT.out.later hz) (HX.out.later hz (Nat.le_refl _))))
    by_cases g1 : l.length ≤ 2000
    · have g2 : ¬ m.length ≤ 2000 := fun h => hgo ⟨g1, h⟩
      have d1 : decide ((2000 : Int) < (l.length : Int)) = false := decide_eq_false (by omega)
      have d2 : decide ((2000 : Int) < (m.length : Int)) = true := decide_eq_true (by omega)
      clear hgo
      go_wp2_with fail
      refine (HF.out w1 HB.out).mono ?_
      rintro e w2 ⟨rfl, hb⟩
      have HB2 := Lib.hid (HB.out.trans (hb.mono HB.out.size))
      clear hb
      go_wp2
      go_ret
      exact ⟨rfl, HB2.out⟩
    · have d1 : decide ((2000 : Int) < (l.length : Int)) = true := decide_eq_true (by omega)
      clear hgo
      go_wp2_with fail
      refine (HF.out w1 HB.out).mono ?_
      rintro e w2 ⟨rfl, hb⟩
      have HB2 := Lib.hid (HB.out.trans (hb.mono HB.out.size))
      clear hb
      go_wp2
      go_ret
      exact ⟨rfl, HB2.out⟩

end Go.Proofs.YtdegeifklchjaaaDoor


/-
  What the frames of layer 5's laws want: the library's tables, as the row lists them; the library's number, out of the world's shape; a string, a slice of columns that came in.
-/
namespace Go.Proofs.YtdegeifklchjaaaDoor
open Go.ChangeShapes Go.WideShapes Go.ChangeAt Go.RowKit Go.Shelf

theorem u8Extra : U8Extra Tryd.prog Tryd.laysValid_ren := ⟨by kernel_rfl, by kernel_rfl, by kernel_rfl, by kernel_rfl, by kernel_rfl, by kernel_rfl, by kernel_rfl⟩
theorem accept_eq : (Rows.laid_unicode_utf8_acceptRanges : DataW Unit) = Lib.acceptData := by kernel_rfl
/-- The tables, out of what the row lists. -/
theorem tabs_of {W : World} (h1 : Lib.VarReads Tryd.prog W "unicode/utf8.first" Rows.laid_unicode_utf8_first) (h2 : Lib.VarReads Tryd.prog W "unicode/utf8.acceptRanges" Rows.laid_unicode_utf8_acceptRanges) : Tabs W :=
  utf8Tabs_of_readsT (U8Types.of196 Tryd.laysValid) u8Extra (Pinned.utf8First_eq ▸ h1) (accept_eq ▸ h2)
/-- The library's number, out of the world's shape. -/
theorem mx_of {W : World} (h : W.ShapedOpen Tryd.prog) : Mx W :=
  cell_of_shapedOpen_int (g := Tryd.laysSplit_ren.g 1) (t := 3) (zero := #[.int .i64 0]) h (of_decide_eq_true (by kernel_rfl)) (by kernel_rfl) rfl (by kernel_rfl) (by kernel_rfl) Tryd.underlying3

section
variable {H : Type} {enc : TypeId × Value → H} {W : World}

theorem str_open {base : Nat} {v : Value} {d : DataW H} {ps : List MemPlace} {ts : List TypeId} {ds : List (DataW H)} {j : Nat} (hval : Value.okWide Tryd.prog W .any base 9 v)
    (h : DataW.Trod enc Tryd.prog W 0 (fun _ => true) true 9 v d ps) (hz : (DataW.weightsEach Tryd.prog ts ds).all (· ≤ reachBytes) = true) (ht : ts[j]? = some 9) (hd : ds[j]? = some d) : ∃ (s : ByteArray) (l : List UInt8), v = .string s ∧ RdS s l := by
  obtain ⟨s, rfl, rfl, rfl, hs⟩ := Go.ChangeMaps.open_string Tryd.underlying9 hval h
  have := sized_string hz ht hd
  exact ⟨s, _, rfl, ⟨rfl, by simpa [reachBytes] using this⟩⟩

/-- A law's frame that hands on the world's shape, beside what the row lists. -/
theorem returns_shaped {a : Assume} {C : Checked} {os : Os} {f : FuncId} {fn : Func} {s : ChangeSpec} {conds : List PathCond} {apart fresh handsOn again : Bool} {X : World → Array Value → Prop}
    (hX : ∀ (w w' : World) (args : Array Value), w.heap = w'.heap → X w args → X w' args)
    (own : ownKnob C.prog.godebug = none) (started : os.Started) (noInit : C.prog.inits.idxOf? f = none) (hfn : C.prog.funcs[f]? = some fn)
    (witness : ∃ (w : World) (tape : Tape) (i : Input), w.os = os ∧ (w.forCall tape i).Shaped C.prog ∧ i.vars = [] ∧ Input.okWide C.prog (w.forCall tape i) .any w.heap.size f i ∧
      ((s.pre enc C.prog fn conds apart (w.forCall tape i).memory i.args ∧ X (w.forCall tape i).memory i.args) ∧ sizedMet enc C.prog fn (OpenSpec.ofChange s) apart (w.forCall tape i).memory i.args) ∧ a.holds C.prog (lone (Frame.enter C.prog f i.args .normal) [] (w.forCall tape i)))
    (contract : ∀ (W : World) (base : Nat) (args : Array Value) (ds gs : List (DataW H)) (before : List MemPlace),
      (∀ (j : Nat) t v, fn.params[j]? = some t → args[j]? = some v → Value.okWide C.prog W .any base t v) →
      DataW.Whole enc C.prog fn.params.toList s.vars apart W args.toList ds gs before →
      (DataW.weightsEach C.prog (fn.params.toList ++ s.plain.varTypes C.prog) (ds ++ gs)).all (· ≤ reachBytes) = true → X W args → W.ShapedOpen C.prog →
      Calls C.prog f args W fun e W' => ∃ v, e = .returned v ∧ s.post enc C.prog fn apart fresh handsOn again W args v W') :
    ReturnsInHanded a C os f .any (fun w args => (s.pre enc C.prog fn conds apart w args ∧ X w args) ∧ sizedMet enc C.prog fn (OpenSpec.ofChange s) apart w args) (s.post enc C.prog fn apart fresh handsOn again) := by
  refine returnsInHanded_of_calls own started noInit witness ?_
  intro w tape i _ hsh _ hok hpre _
  obtain ⟨_, _, _, fn2, hf2, _, _, _, _, hval⟩ := hok
  obtain rfl : fn2 = fn := Option.some.inj (hf2.symm.trans hfn)
  obtain ⟨⟨⟨ds, gs, before, hw, _⟩, hx⟩, hz⟩ := hpre
  refine (contract (w.forCall tape i) w.heap.size i.args ds gs before hval (DataW.Whole.of_heap (w' := w.forCall tape i) (by rfl) hw) (hz.weights hw) (hX _ _ _ (by rfl) hx) hsh).mono fun e W' ⟨v, he, hp⟩ => ?_
  subst he
  exact ChangeSpec.post_blind hp
end

end Go.Proofs.YtdegeifklchjaaaDoor


/-
  SchemaOne: a schema that is read of any bytes may be, and has those bytes; one that is parsed of any text has that text. For every input.
-/
namespace Go.Proofs.YtdegeifklchjaaaDoor.schemaOne
open Go.ChangeShapes Go.WideShapes Go.ChangeAt Go.RowKit

set_option maxRecDepth 1000000 in
theorem lifted (os : Os) (started : os.Started) (H : Type) (enc : TypeId × Value → H) :
    ReturnsInHanded {} Tryd.checked os 6 .any (fun w args => (Rows.schemaOneSpec.pre enc Tryd.prog Tryd.f6 [] false w args ∧ laidMetH Tryd.prog Rows.schemaOneRow.laid w) ∧ sizedMet enc Tryd.prog Tryd.f6 (OpenSpec.ofChange Rows.schemaOneSpec) false w args)
      (Rows.schemaOneSpec.post enc Tryd.prog Tryd.f6 false true false false) := by
  refine returns_shaped (C := Tryd.checked) (X := fun w _ => laidMetH Tryd.prog Rows.schemaOneRow.laid w) (fun _ _ _ hh h => h.of_heap hh) own started (by kernel_rfl) Tryd.func6
    (ChangeSpec.witness_shaped (enc := enc) (C := Tryd.checked) (os := os) (X := fun w _ => laidMetH Tryd.prog Rows.schemaOneRow.laid w) false (World.laidAll Tryd.prog os Rows.schemaOneRow.laid) #[.slice none 0 0, .string ⟨#[]⟩] 8 (World.laidAll_os _ _ _)
      (World.shaped_of_ZipB (by kernel_rfl) (by kernel_rfl)) (by kernel_rfl) (by kernel_rfl) (by kernel_rfl)
      (by rw [MakeChecks.laidMetH_plain _ _ _ (by kernel_rfl)]; exact laidMet_laidAll _ (by kernel_rfl) (by kernel_rfl))) ?_
  intro W base args ds gs before hval0 hW hsz0 hL0 hsh
  have hL := hL0
  rw [MakeChecks.laidMetH_plain _ _ _ (by kernel_rfl)] at hL
  have hT : Tabs W := tabs_of (Lib.laidMet.reads hL (.tail _ (.head _))) (Lib.laidMet.reads hL (.head _))
  have hX := mx_of hsh
  have hsz : (DataW.weightsEach Tryd.prog (Tryd.f6.params.toList ++ Rows.schemaOneSpec.plain.varTypes Tryd.prog) (ds ++ gs)).all (· ≤ reachBytes) = true := hsz0
  have hval : ∀ (j : Nat) t v, Tryd.f6.params[j]? = some t → args[j]? = some v → Value.okWide Tryd.prog W .any base t v := hval0
  have hW' := hW
  obtain ⟨p, q, hA0, hV, rfl, hfz, hnd⟩ := hW
  have hA : DataW.TrodAll enc Tryd.prog W 0 (fun _ => true) true Tryd.f6.params.toList args.toList ds p := hA0
  rw [Tryd.params6] at hA hval hsz
  obtain ⟨v0, vs0, d0, ds0, p0, q0, hargs, rfl, rfl, h0, r0⟩ := trodAll_cons hA
  obtain ⟨v1, vs1, d1, ds1, p1, q1, rfl, rfl, rfl, h1, r1⟩ := trodAll_cons r0
  obtain ⟨rfl, rfl, rfl⟩ := trodAll_nil r1
  obtain rfl : args = #[v0, v1] := by cases args; simp_all
  obtain ⟨rfl, rfl⟩ := trodVars_none hV
  have k0 := h0
  have lt0 : ∀ x ∈ p0, x.block < W.heap.size := by obtain ⟨m, hm⟩ := k0; exact DataW.trod_lt m _ _ _ hm
  obtain ⟨l0, w0⟩ := rd_open (hval 0 25 v0 rfl rfl) h0 hsz (j := 0) rfl rfl
  have k1 := h1
  have lt1 : ∀ x ∈ p1, x.block < W.heap.size := by obtain ⟨m, hm⟩ := k1; exact DataW.trod_lt m _ _ _ hm
  obtain ⟨s1, l1, rfl, hs1⟩ := str_open (hval 1 9 v1 rfl rfl) h1 hsz (j := 1) rfl rfl
  clear hA0 hval0 hsz0
  refine (schemaOne_walk v0 l0 s1 l1 W w0 hs1 hT hX).mono fun e W' ⟨he, bel⟩ => ?_
  subst he
  exact ⟨_, rfl, _, _, _, [], _, [], hW', trodAll_mk1 (shut_bool Tryd.underlying4 _), (trodAll_cons_mk (Below.trod laidOut (by kernel_rfl) (of_decide_eq_true (by kernel_rfl)) k0 bel lt0) (trodAll_cons_mk (Below.trod laidOut (by kernel_rfl) (of_decide_eq_true (by kernel_rfl)) k1 bel lt1) trodAll_mk0)), rfl, bel.frame _, fun h => by cases h⟩

theorem over : Rows.schemaOneRow.holds Tryd.pinned (OpenSpec.ofChange Rows.schemaOneSpec) :=
  OpenClaim.holds_of_wide 6 Tryd.f6 rfl rfl rfl rfl rfl rfl rfl ⟨rfl, rfl, rfl, rfl, rfl⟩ rfl rfl rfl rfl rfl (by kernel_rfl) Tryd.func6 (by kernel_rfl)
    (of_decide_eq_true (by kernel_rfl)) (by unfold Func.isWrapper; first | (rw [if_pos (by decide +kernel)]; kernel_rfl) | (rw [if_neg (by decide +kernel)]; exact ⟨rfl, rfl⟩))
    (fun os started H enc _ => lifted os started H enc)

theorem proved : Rows.SchemaOneCardSaid :=
  Claim7.holds_tied_plain_at .later [] _ _ _ _ over (fun _ h => by cases h) (by kernel_rfl) (fun _ h => by cases h) schemaOne_row_tie rfl ⟨rfl, rfl⟩ (by kernel_rfl) rfl
    (fun f fn hf hfn => by
      obtain rfl : f = 6 := Option.some.inj ((show Tryd.prog.funcNamed "deckle/decklelaw05.SchemaOne" = some 6 by kernel_rfl).symm.trans hf) |>.symm
      obtain rfl : fn = Tryd.f6 := (Option.some.inj (Tryd.func6.symm.trans hfn)).symm
      exact ⟨by kernel_rfl, fun j t ht => by
        rw [Tryd.params6] at ht
        have hm : t ∈ [25, 9] := by simpa using Array.mem_of_getElem? ht
        have hall : ([25, 9].all fun u => !Tryd.prog.wantsStandIn u) = true := by kernel_rfl
        exact (show Tryd.prog.wantsStandIn t = false by simpa using List.all_eq_true.1 hall t hm)⟩)
    (by kernel_rfl)
#print axioms proved
end Go.Proofs.YtdegeifklchjaaaDoor.schemaOne

