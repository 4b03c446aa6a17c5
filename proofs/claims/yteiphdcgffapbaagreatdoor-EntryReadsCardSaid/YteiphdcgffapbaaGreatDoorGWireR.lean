/-
  The walks of the document's own answers for layer 1.
-/
import Derived.Test.YteiphdcgffapbaaGreatDoorGWire
set_option linter.unusedVariables false
set_option linter.unusedSimpArgs false
set_option maxRecDepth 1000000
namespace Go.Proofs.YteiphdcgffapbaaGreatDoor
open Go.RowKit

end Go.Proofs.YteiphdcgffapbaaGreatDoor


/-
  The walks of the document's own answers for layer 1 that get: GetUint, GetBytes.
-/
namespace Go.Proofs.YteiphdcgffapbaaGreatDoor
open Go.RowKit

theorem valU_drop (l : List UInt8) (n j : Nat) (hn : n < l.length) (hj : j ≤ n) : (valU ((l.take (n + 1)).drop j) : Int) = at8 l j % 128 + 128 * valU ((l.take (n + 1)).drop (j + 1)) := by
  have hlen : j < (l.take (n + 1)).length := by simp; omega
  rw [List.drop_eq_getElem_cons hlen, valU_cons, at8_eq (by omega)]
  simp

theorem valU_cut (l : List UInt8) (j : Nat) (hj : j ≤ l.length) : 128 ^ j * valU (l.drop j) ≤ valU l := by
  have h := valU_append (l.take j) (l.drop j)
  rw [List.take_append_drop, List.length_take, Nat.min_eq_left hj] at h
  omega

theorem valU_over (l : List UInt8) (n j : Nat) (hn : n < l.length) (hj : j ≤ n) (h : 144115188075855871 < valU ((l.take (n + 1)).drop (j + 1))) : 2 ^ 64 ≤ valU (l.take (n + 1)) := by
  have h1 := valU_cut (l.take (n + 1)) (j + 1) (by simp; omega)
  have h2 : 128 ^ 1 ≤ 128 ^ (j + 1) := Nat.pow_le_pow_right (by decide) (by omega)
  have h3 : 128 ^ 1 * 144115188075855872 ≤ 128 ^ (j + 1) * valU ((l.take (n + 1)).drop (j + 1)) := Nat.mul_le_mul h2 (by omega)
  omega

theorem getU_over {l : List UInt8} {k : Nat} (h1 : ∀ j, j < k → 128 ≤ at8 l j) (hk : k < 10) (hl : k < l.length) (h2 : at8 l k < 128) (hb : 2 ^ 64 ≤ valU (l.take (k + 1))) : getU l = (0, 0, 7) := by
  have := leadU_eq (k := 10) (n := k) (l := l) (by omega) (by omega) h1 (fun _ _ => h2)
  simp only [getU, this]
  rw [if_neg (by omega), if_neg (by omega), if_pos hb]

theorem getU_zero {l : List UInt8} {k : Nat} (h1 : ∀ j, j < k → 128 ≤ at8 l j) (hk : k < 10) (hl : k < l.length) (h2 : at8 l k = 0) (h0 : 0 < k) (hb : valU (l.take (k + 1)) < 2 ^ 64) : getU l = (0, 0, 6) := by
  have := leadU_eq (k := 10) (n := k) (l := l) (by omega) (by omega) h1 (fun _ _ => by omega)
  simp only [getU, this]
  rw [if_neg (by omega), if_neg (by omega), if_neg (by omega), if_pos ⟨h0, h2⟩]

theorem getU_fine {l : List UInt8} {k : Nat} (h1 : ∀ j, j < k → 128 ≤ at8 l j) (hk : k < 10) (hl : k < l.length) (h2 : at8 l k < 128) (h0 : ¬ (0 < k ∧ at8 l k = 0)) (hb : valU (l.take (k + 1)) < 2 ^ 64) : getU l = (valU (l.take (k + 1)), k + 1, 0) := by
  have := leadU_eq (k := 10) (n := k) (l := l) (by omega) (by omega) h1 (fun _ _ => h2)
  simp only [getU, this]
  rw [if_neg (by omega), if_neg (by omega), if_neg (by omega), if_neg h0]

set_option maxHeartbeats 2000000 in
set_option maxRecDepth 1000000 in
theorem ref_GetUint (v : Value) (l : List UInt8) (w : World) (h : Rd w v l) :
    Calls Tryz.prog 82 #[v] w fun e w' => e = .returned (.tuple #[.int .u64 (getU l).1, .int .i64 (getU l).2.1, .int .i64 (getU l).2.2]) ∧ w = w' := by
  have hlen := h.len
  have hidx := h.idx
  have hcel := h.cells
  have hsm := h.small
  go_enter Tryz.func82, Tryz.ntmps82
  go_wp2
  go_loop [5] (fun i => ∃ (k : Nat), k ≤ l.length ∧ k ≤ 10 ∧ i = .int .i64 k ∧ Hid (∀ j, j < k → 128 ≤ at8 l j)) (fun i => 10 - (intOf i).toNat)
  case atStart => exact ⟨0, by omega, by omega, rfl, fun j hj => absurd hj (by omega)⟩
  case round =>
    obtain ⟨k, hkl, hk10, rfl, HI⟩ := hrel
    have hc0 := at8_lo l k
    have hc1 := at8_hi l k
    by_cases h10 : k < 10
    · by_cases hl : k < l.length
      · by_cases hb : 127 < at8 l k
        · go_wp2
          go_round
          case rel => exact ⟨k + 1, by omega, by omega, by go_num, fun j hj => (by
              by_cases e : j = k
              · subst e; omega
              · exact HI j (by omega))⟩
          case measure => simp [intOf]; omega
        · have hz : ((k : Int) == 10) = false := by simp; omega
          have hz2 : ((k : Int) == (l.length : Int)) = false := by simp; omega
          go_wp2
          go_loop [6, 7] (fun x i => (∃ (j : Nat) (X : Int), j ≤ k ∧ 0 ≤ X ∧ i = .int .i64 j ∧ x = .int .u64 X ∧ Hid (X = valU ((l.take (k + 1)).drop (j + 1)))) ∨ (∃ X : Int, i = .int .i64 (-1) ∧ x = .int .u64 X ∧ Hid (X = valU (l.take (k + 1)) ∧ X < 2 ^ 64))) (fun _ i => (intOf i + 1).toNat)
          case atStart => exact .inl ⟨k, 0, Nat.le_refl _, Int.le_refl _, rfl, rfl, by rw [List.drop_of_length_le (by simp; omega)]; rfl⟩
          case round =>
            rcases hrel with ⟨j, X, hj, hX0, rfl, rfl, HX⟩ | ⟨X, rfl, rfl, HX⟩
            · have hjl : j < l.length := by omega
              have hd0 := at8_lo l j
              have hd1 := at8_hi l j
              by_cases hbig : 144115188075855871 < X
              · go_wp2
                go_ret3
                refine ⟨?_, rfl⟩
                have hX := HX.out
                exact ret3 (getU_over HI h10 hl (by omega) (valU_over l k j hl hj (by omega))) rfl rfl rfl
              · go_wp2
                have hv := valU_drop l k j hl hj
                have hX := HX.out
                rw [← hX] at hv
                go_round
                case rel =>
                  by_cases hj0 : j = 0
                  · subst hj0
                    exact .inr ⟨_, rfl, rfl, by rw [List.drop_zero] at hv; omega, by omega⟩
                  · exact .inl ⟨j - 1, _, by omega, by omega, by go_num, rfl, by rw [show j - 1 + 1 = j by omega]; show _ = _; omega⟩
                case measure => simp [intOf]
            · go_wp2
              all_goals go_ret3
              all_goals refine ⟨?_, rfl⟩
              all_goals obtain ⟨rfl, hX2⟩ := HX
              · exact ret3 (getU_zero HI h10 hl (eq_of_beq (by assumption)) (by omega) (by omega)) rfl rfl rfl
              · have hz3 : (at8 l k == 0) = false := by assumption
                exact ret3 (getU_fine HI h10 hl (by omega) (fun hh => by simp [hh.2] at hz3) (by omega)) rfl (by omega) rfl
              · exact ret3 (getU_fine HI h10 hl (by omega) (fun hh => by omega) (by omega)) rfl (by omega) rfl
      · obtain rfl : k = l.length := by omega
        have hz : ((l.length : Int) == 10) = false := by simp; omega
        go_wp2
        go_ret3
        exact ⟨ret3 (getU_short HI h10 rfl) rfl rfl rfl, rfl⟩
    · obtain rfl : k = 10 := by omega
      go_wp2
      go_ret3
      exact ⟨ret3 (getU_full HI rfl hkl) rfl rfl rfl, rfl⟩

set_option maxHeartbeats 1000000 in
theorem ref_GetBytes (v : Value) (l : List UInt8) (most : Int) (hm0 : -9223372036854775808 ≤ most) (hm1 : most ≤ 9223372036854775807) (w : World) (h : Rd w v l) :
    Calls Tryz.prog 170 #[v, .int .i64 most] w (RetB3 w (getB l most)) := by
  have hz := getU_err l
  have hg := getU_good l
  have hc := getU_codes l
  have hlen := h.len
  have hsm := h.small
  have hb : getB l most = getB l most := rfl
  conv at hb => rhs; unfold getB
  rcases hr : getU l with ⟨x, n, er⟩
  rw [hr] at hz hg hc hb
  dsimp only at hz hg hc hb
  have HR := Lib.hid hr
  clear hr
  by_cases he : er = 0
  · subst he
    obtain ⟨hx, hn1, hn2, hn3⟩ := hg rfl
    clear hz hg hc
    rw [if_neg (by simp)] at hb
    by_cases hlim : most < 0 ∨ most < x
    · rw [if_pos hlim] at hb
      have HB := Lib.hid hb
      clear hb
      by_cases hneg : most < 0
      · clear hlim
        go_enter Tryz.func170, Tryz.ntmps170
        go_wp2_with (go_at_call 82; refine (ref_GetUint v l _ h).mono ?_; rintro e w' ⟨rfl, rfl⟩; rw [HR.out]; dsimp only)
        go_ret3
        exact RetB3.none HB.out rfl
      · have hlt : most < x := by omega
        have hge : 0 ≤ most := by omega
        clear hlim hneg
        go_enter Tryz.func170, Tryz.ntmps170
        go_wp2_with (go_at_call 82; refine (ref_GetUint v l _ h).mono ?_; rintro e w' ⟨rfl, rfl⟩; rw [HR.out]; dsimp only)
        go_ret3
        exact RetB3.none HB.out rfl
    · rw [if_neg hlim] at hb
      have hle : (x : Int) ≤ most := by omega
      have hge : 0 ≤ most := by omega
      clear hlim
      by_cases hsh : l.length - n < x
      · rw [if_pos hsh] at hb
        have HB := Lib.hid hb
        clear hb
        have hsh' : (l.length : Int) - n < x := by omega
        have hnl : (n : Int) ≤ l.length := by omega
        go_enter Tryz.func170, Tryz.ntmps170
        go_wp2_with (go_at_call 82; refine (ref_GetUint v l _ h).mono ?_; rintro e w' ⟨rfl, rfl⟩; rw [HR.out]; dsimp only)
        go_ret3
        exact RetB3.none HB.out rfl
      · rw [if_neg hsh] at hb
        have HB := Lib.hid hb
        clear hb
        have hsh' : (x : Int) ≤ (l.length : Int) - n := by omega
        have hnl : (n : Int) ≤ l.length := by omega
        obtain ⟨v', hfr, hrd⟩ := h.cut n (n + x) (by omega) (by omega)
        have HRD := Lib.hid hrd
        clear hrd
        rw [show (((n + x : Nat)) : Int) = (n : Int) + (x : Int) by omega] at hfr
        go_enter Tryz.func170, Tryz.ntmps170
        have hbel : Below w.heap.size w (w.alloc (.cells #[] 5)) := (Below.refl _ _).alloc (Nat.le_refl _) _
        go_wp2_with (first | (go_at_call 82; refine (ref_GetUint v l _ h).mono ?_; rintro e w' ⟨rfl, rfl⟩; rw [HR.out]; dsimp only) | (with_reducible refine wpl_append w.heap.size _ [] ?hs (own_empty w w.heap.size (Nat.le_refl _)) v' _ ?hx (HRD.out _ (h.alloc _)) ?hn ?hbase w.heap.size w hbel (Nat.le_refl _) ?_))
        case hs => rfl
        case hx => rfl
        case hn => simp; omega
        case hbase => simp
        intro v2 w2 hown2 hb2 _
        go_wp2
        go_ret3
        rw [List.nil_append, List.drop_take, Nat.add_sub_cancel_left] at hown2
        exact RetB3.own HB.out hown2 hb2 (by omega) rfl
  · obtain ⟨hx, hn⟩ := hz he
    subst hx hn
    rw [if_pos he] at hb
    have HB := Lib.hid hb
    clear hb hg
    have hne : ((er : Int) != 0) = true := by simp; omega
    go_enter Tryz.func170, Tryz.ntmps170
    go_wp2_with (go_at_call 82; refine (ref_GetUint v l _ h).mono ?_; rintro e w' ⟨rfl, rfl⟩; rw [HR.out]; dsimp only)
    go_ret3
    exact RetB3.none HB.out rfl

end Go.Proofs.YteiphdcgffapbaaGreatDoor

