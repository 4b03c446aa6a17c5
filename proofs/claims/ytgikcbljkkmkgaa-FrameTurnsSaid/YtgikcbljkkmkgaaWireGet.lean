/-
  The walks of layer 1's functions that get: GetInt, GetBytes.
-/
import Derived.Test.YtgikcbljkkmkgaaWirePut
import Derived.Test.YtgikcbljkkmkgaaWireWalks
set_option linter.unusedVariables false
set_option linter.unusedSimpArgs false
set_option maxRecDepth 1000000
namespace Go.Proofs.Ytgikcbljkkmkgaa
open Go.RowKit

theorem getU_err (l : List UInt8) : (getU l).2.2 ≠ 0 → (getU l).1 = 0 ∧ (getU l).2.1 = 0 := by
  intro h
  unfold getU at h ⊢
  simp only at h ⊢
  by_cases h1 : leadU 10 l = 10
  · simp [h1]
  · by_cases h2 : leadU 10 l = l.length
    · simp [h2]; split <;> simp
    · by_cases h3 : 2 ^ 64 ≤ valU (l.take (leadU 10 l + 1))
      · simp only [if_neg h1, if_neg h2, if_pos h3]; simp
      · by_cases h4 : 0 < leadU 10 l ∧ at8 l (leadU 10 l) = 0
        · simp only [if_neg h1, if_neg h2, if_neg h3, if_pos h4]; simp
        · simp only [if_neg h1, if_neg h2, if_neg h3, if_neg h4] at h; simp at h

theorem getU_good (l : List UInt8) : (getU l).2.2 = 0 → (getU l).1 < 2 ^ 64 ∧ 1 ≤ (getU l).2.1 ∧ (getU l).2.1 ≤ l.length ∧ (getU l).2.1 ≤ 10 := by
  intro h
  have hle := leadU_le 10 l
  unfold getU at h ⊢
  simp only at h ⊢
  by_cases h1 : leadU 10 l = 10
  · simp [h1] at h
  · by_cases h2 : leadU 10 l = l.length
    · simp only [if_neg h1, if_pos h2] at h; simp at h
    · by_cases h3 : 2 ^ 64 ≤ valU (l.take (leadU 10 l + 1))
      · simp only [if_neg h1, if_neg h2, if_pos h3] at h; simp at h
      · by_cases h4 : 0 < leadU 10 l ∧ at8 l (leadU 10 l) = 0
        · simp only [if_neg h1, if_neg h2, if_neg h3, if_pos h4] at h; simp at h
        · simp only [if_neg h1, if_neg h2, if_neg h3, if_neg h4]; omega

theorem getU_codes (l : List UInt8) : (getU l).2.2 ≤ 7 := by
  unfold getU; simp only; split
  · simp
  · split
    · simp
    · split
      · simp
      · split <;> simp

/-- The bytes that bytes begin with, how many all have, and why there are none. -/
def getB (l : List UInt8) (most : Int) : List UInt8 × Nat × Nat :=
  if (getU l).2.2 ≠ 0 then ([], 0, (getU l).2.2)
  else if most < 0 ∨ most < (getU l).1 then ([], 0, 13)
  else if l.length - (getU l).2.1 < (getU l).1 then ([], 0, 5)
  else ((l.drop (getU l).2.1).take (getU l).1, (getU l).2.1 + (getU l).1, 0)

/-- What a call that makes bytes, and tells two numbers, answers. -/
def RetB3 (w : World) (r : List UInt8 × Nat × Nat) (e : Ending) (w' : World) : Prop :=
  ∃ v, e = .returned (.tuple #[v, .int .i64 (r.2.1 : Nat), .int .i64 (r.2.2 : Nat)]) ∧ Own w' w.heap.size v r.1 ∧ Below w.heap.size w w'

theorem RetB3.none {w : World} {r : List UInt8 × Nat × Nat} {k : Nat} {y : Int} (h : r = ([], 0, k)) (hy : y = k) : RetB3 w r (.returned (.tuple #[.slice none 0 0, .int .i64 0, .int .i64 y])) w := by
  subst h; subst hy
  exact ⟨_, rfl, own_nil w _, Below.refl _ _⟩

theorem RetB3.own {w w' : World} {r : List UInt8 × Nat × Nat} {l : List UInt8} {n k : Nat} {v : Value} {x y : Int} (h : r = (l, n, k)) (ho : Own w' w.heap.size v l) (hb : Below w.heap.size w w') (hx : x = (n : Nat)) (hy : y = (k : Nat)) :
    RetB3 w r (.returned (.tuple #[v, .int .i64 x, .int .i64 y])) w' := by
  subst h hx hy
  exact ⟨_, rfl, ho, hb⟩

set_option maxHeartbeats 1000000 in
theorem wire_GetBytes (v : Value) (l : List UInt8) (most : Int) (hm0 : -9223372036854775808 ≤ most) (hm1 : most ≤ 9223372036854775807) (w : World) (h : Rd w v l) :
    Calls Try.prog 25 #[v, .int .i64 most] w (RetB3 w (getB l most)) := by
  have hz := getU_err l
  have hg := getU_good l
  have hc := getU_codes l
  have hlen := h.len
  have hsm := h.small
  have hb : getB l most = getB l most := rfl
  conv at hb => rhs; unfold getB
  rcases hr : getU l with ⟨x, n, er⟩
  rw [hr] at hz hg hc hb
  dsimp only at hz hg hc hb
  have HR := Lib.hid hr
  clear hr
  by_cases he : er = 0
  · subst he
    obtain ⟨hx, hn1, hn2, hn3⟩ := hg rfl
    clear hz hg hc
    rw [if_neg (by simp)] at hb
    by_cases hlim : most < 0 ∨ most < x
    · rw [if_pos hlim] at hb
      have HB := Lib.hid hb
      clear hb
      by_cases hneg : most < 0
      · clear hlim
        go_enter Try.func25, Try.ntmps25
        go_wp2_with (go_at_call 37; refine (wire_GetUint v l _ h).mono ?_; rintro e w' ⟨rfl, rfl⟩; rw [HR.out]; dsimp only)
        go_ret3
        exact RetB3.none HB.out rfl
      · have hlt : most < x := by omega
        have hge : 0 ≤ most := by omega
        clear hlim hneg
        go_enter Try.func25, Try.ntmps25
        go_wp2_with (go_at_call 37; refine (wire_GetUint v l _ h).mono ?_; rintro e w' ⟨rfl, rfl⟩; rw [HR.out]; dsimp only)
        go_ret3
        exact RetB3.none HB.out rfl
    · rw [if_neg hlim] at hb
      have hle : (x : Int) ≤ most := by omega
      have hge : 0 ≤ most := by omega
      clear hlim
      by_cases hsh : l.length - n < x
      · rw [if_pos hsh] at hb
        have HB := Lib.hid hb
        clear hb
        have hsh' : (l.length : Int) - n < x := by omega
        have hnl : (n : Int) ≤ l.length := by omega
        go_enter Try.func25, Try.ntmps25
        go_wp2_with (go_at_call 37; refine (wire_GetUint v l _ h).mono ?_; rintro e w' ⟨rfl, rfl⟩; rw [HR.out]; dsimp only)
        go_ret3
        exact RetB3.none HB.out rfl
      · rw [if_neg hsh] at hb
        have HB := Lib.hid hb
        clear hb
        have hsh' : (x : Int) ≤ (l.length : Int) - n := by omega
        have hnl : (n : Int) ≤ l.length := by omega
        have hmk := make_bytes (x : Int) (by omega) (by omega)
        rw [Int.toNat_natCast] at hmk
        obtain ⟨v', hfr, hrd⟩ := h.from n hn2
        have HRD := Lib.hid hrd
        clear hrd
        go_enter Try.func25, Try.ntmps25
        have hbel : Below w.heap.size w (w.alloc (.cells (cellsB (List.replicate x 0)).toArray 5)) := (Below.refl _ _).alloc (Nat.le_refl _) _
        go_wp2_with (first | (go_at_call 37; refine (wire_GetUint v l _ h).mono ?_; rintro e w' ⟨rfl, rfl⟩; rw [HR.out]; dsimp only) | (with_reducible refine wpl_copy_part (some ⟨w.heap.size, 0, none⟩) x x ?hd v' (l.drop n) ?hs (HRD.out _ (h.alloc _)) ?hn w.heap.size 0 (List.replicate x 0) (heap_alloc_new w _) (fun _ => rfl) ?hfit w.heap.size w hbel (Nat.le_refl _) ?_))
        case hd => rfl
        case hs => rfl
        case hn => rw [List.length_drop]; omega
        case hfit => simp
        intro w2 HG2 hb2
        have hlen2 : ((l.drop n).take x).length = x := by simp; omega
        have e := splice_head [] ((l.drop n).take x) 0 rfl
        rw [hlen2] at e
        simp only [List.nil_append] at e
        rw [e] at HG2
        go_wp2
        go_ret3
        exact RetB3.own HB.out (own_of_block (Nat.le_refl _) HG2.out hlen2.symm (Nat.le_refl _) (by unfold maxLen; omega) (by rw [cellsB_length]; exact hlen2) (List.take_of_length_le (by rw [cellsB_length]; exact Nat.le_of_eq hlen2))) hb2 (by omega) rfl
  · obtain ⟨hx, hn⟩ := hz he
    subst hx hn
    rw [if_pos he] at hb
    have HB := Lib.hid hb
    clear hb hg
    have hne : ((er : Int) != 0) = true := by simp; omega
    go_enter Try.func25, Try.ntmps25
    go_wp2_with (go_at_call 37; refine (wire_GetUint v l _ h).mono ?_; rintro e w' ⟨rfl, rfl⟩; rw [HR.out]; dsimp only)
    go_ret3
    exact RetB3.none HB.out rfl

end Go.Proofs.Ytgikcbljkkmkgaa
