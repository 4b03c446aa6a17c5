/-
  WireBack: what is put is got, whatever stands behind; fewer of its bytes are too short. For every input.
-/
import Derived.Test.YtbnonbpdihglaaaAlive
import Derived.Test.YtbnonbpdihglaaaWireMath2
import Derived.Test.YtbnonbpdihglaaaWireRef
import Derived.Test.YtbnonbpdihglaaaLater
set_option linter.unusedVariables false
set_option linter.unusedSimpArgs false
namespace Go.Proofs.Ytbnonbpdihglaaa
open Go.RowKit

set_option maxHeartbeats 8000000 in
set_option maxRecDepth 20000 in
theorem wireBack_walk (x : Int) (vb : Value) (lb : List UInt8) (vh : Value) (lh : List UInt8) (w : World) (hx : -9223372036854775808 ≤ x ∧ x ≤ 9223372036854775807) (h : Rd w vb lb) (hh : Rd w vh lh) :
    Calls Try.prog 5 #[.int .i64 x, vb, vh] w fun e w' => e = .returned (.bool true) ∧ Below w.heap.size w w' := by
  have hlen := h.len
  have hlenh := hh.len
  by_cases hbig : 1000 < lb.length
  · go_enter Try.func5, Try.ntmps5
    go_wp2_with fail
    refine (law01_alive w).mono ?_
    rintro e w1 ⟨rfl, hb⟩
    go_wp2_with fail
    go_ret
    exact ⟨rfl, hb⟩
  by_cases hbig2 : 1000 < lh.length
  · go_enter Try.func5, Try.ntmps5
    go_wp2_with fail
    refine (law01_alive w).mono ?_
    rintro e w1 ⟨rfl, hb⟩
    go_wp2_with fail
    go_ret
    exact ⟨rfl, hb⟩
  have hz := zig_lt x hx.1 hx.2
  have hle1 := encU_le (zig x) hz
  have hle2 := encU_le lb.length (by omega)
  have hlq := encB_length lb
  have hput := getU_put (zig x) hz lh
  have hputB := getB_put lb lh (by omega)
  have hless := getB_less lb (by omega)
  have hcut := fun i => getU_cut (zig x) i hz
  have hcutB := fun i => getB_cut lb i (by omega)
  have hzz := zag_zig x
  obtain ⟨p, hp⟩ : ∃ p, p = encU (zig x) := ⟨_, rfl⟩
  obtain ⟨q, hq⟩ : ∃ q, q = encB lb := ⟨_, rfl⟩
  rw [← hp] at hle1 hput hcut
  rw [← hq] at hputB hless hcutB hlq
  have hpl : p.length ≤ 10 := hle1
  have hql : q.length ≤ 1010 := by omega
  have HP := Lib.hid hp
  have HQ := Lib.hid hq
  have HPUT := Lib.hid hput
  have HPUTB := Lib.hid hputB
  have HLESS := Lib.hid hless
  have HCUT := Lib.hid hcut
  have HCUTB := Lib.hid hcutB
  have HZZ := Lib.hid hzz
  clear hp hq hput hputB hless hcut hcutB hzz hlq hle1 hle2
  go_enter Try.func5, Try.ntmps5
  go_wp2_with fail
  refine (wire_Int x hx.1 hx.2 _).mono ?_
  rintro e w1 ⟨v1, rfl, ho1, hb1⟩
  rw [← HP.out] at ho1
  have h1 := h.later hb1 (Nat.le_refl _)
  go_wp2_with fail
  refine (wire_Bytes vb lb _ h1).mono ?_
  rintro e w2 ⟨v2, rfl, ho2, hb2⟩
  rw [← HQ.out] at ho2
  have hbel := hb1.trans (hb2.mono hb1.size)
  have hp2 := (ho1.rd (by omega)).later hb2 (Nat.le_refl _)
  have hq2 := ho2.rd (by omega)
  have hh2 := hh.later hbel (Nat.le_refl _)
  have hvb2 := h1.later hb2 (Nat.le_refl _)
  have hlenp := hp2.len
  have hlenq := hq2.len
  have hA : Below w2.heap.size w2 (w2.alloc (.cells #[] 5)) := (Below.refl _ _).alloc (Nat.le_refl _) _
  clear ho1 ho2 hb1 hb2 h1
  go_wp2_with (with_reducible refine wpl_append w2.heap.size _ [] ?hs1 (own_empty w2 w2.heap.size (Nat.le_refl _)) v1 _ ?hx1 (hp2.alloc _) ?hn1 ?hb1 w2.heap.size w2 hA (Nat.le_refl _) ?_)
  case hs1 => rfl
  case hx1 => rfl
  case hn1 => simp; omega
  case hb1 => simp
  intro v3 w3 ho3 hb3 _
  rw [List.nil_append] at ho3
  have hh3 := hh2.later hb3 (Nat.le_refl _)
  go_wp2_with (with_reducible refine wpl_append w2.heap.size _ _ ?hs2 ho3 vh _ ?hx2 hh3 ?hn2 ?hb2 w2.heap.size w2 hb3 (Nat.le_refl _) ?_)
  case hs2 => rfl
  case hx2 => rfl
  case hn2 => omega
  case hb2 => exact hb3.size
  intro v4 w4 ho4 hb4 _
  have hr4 := ho4.rd (by simp; omega)
  clear ho3 hb3 ho4 hh3 hA
  go_wp2_with fail
  refine (wire_GetInt _ _ _ hr4).mono ?_
  rintro e w' ⟨rfl, rfl⟩
  rw [HPUT.out]; dsimp only
  rw [if_pos rfl, HZZ.out]
  have hp4 := hp2.later hb4 (Nat.le_refl _)
  have hq4 := hq2.later hb4 (Nat.le_refl _)
  have hh4 := hh2.later hb4 (Nat.le_refl _)
  have hvb4 := hvb2.later hb4 (Nat.le_refl _)
  have hbel4 := hbel.trans (hb4.mono hbel.size)
  clear hp2 hq2 hh2 hvb2 hb4 hbel hr4
  have hA : Below w4.heap.size w4 (w4.alloc (.cells #[] 5)) := (Below.refl _ _).alloc (Nat.le_refl _) _
  go_wp2_with (with_reducible refine wpl_append w4.heap.size _ [] ?hs3 (own_empty w4 w4.heap.size (Nat.le_refl _)) v2 _ ?hx3 (hq4.alloc _) ?hn3 ?hb3 w4.heap.size w4 hA (Nat.le_refl _) ?_)
  case hs3 => rfl
  case hx3 => rfl
  case hn3 => simp; omega
  case hb3 => simp
  intro v5 w5 ho5 hb5 _
  rw [List.nil_append] at ho5
  have hh5 := hh4.later hb5 (Nat.le_refl _)
  go_wp2_with (with_reducible refine wpl_append w4.heap.size _ _ ?hs4 ho5 vh _ ?hx4 hh5 ?hn4 ?hb4 w4.heap.size w4 hb5 (Nat.le_refl _) ?_)
  case hs4 => rfl
  case hx4 => rfl
  case hn4 => omega
  case hb4 => exact hb5.size
  intro v6 w6 ho6 hb6 _
  have hr6 := ho6.rd (by simp; omega)
  clear ho5 hb5 ho6 hh5 hA
  go_wp2_with fail
  refine (wire_GetBytes _ _ lb.length (by omega) (by omega) _ hr6).mono ?_
  rintro e w7 ⟨v7, rfl, ho7, hb7⟩
  rw [HPUTB.out] at ho7 ⊢; dsimp only at ho7 ⊢
  have hb67 := hb6.trans (hb7.mono hb6.size)
  have hp7 := hp4.later hb67 (Nat.le_refl _)
  have hq7 := hq4.later hb67 (Nat.le_refl _)
  have hvb7 := hvb4.later hb67 (Nat.le_refl _)
  have hbel7 := hbel4.trans (hb67.mono hbel4.size)
  have hs7 := (ho7.rd (by omega)).str
  have hs8 := hvb7.str
  clear hp4 hq4 hh4 hvb4 hb6 hb7 hb67 hbel4 hr6 ho7
  go_wp2_with fail
  go_loop [93] (fun i => ∃ k : Nat, k ≤ p.length ∧ i = .int .i64 k) (fun i => p.length - (intOf i).toNat)
  case atStart => exact ⟨0, by omega, rfl⟩
  case round =>
    obtain ⟨k, hk, rfl⟩ := hrel
    by_cases hlt : k < p.length
    · obtain ⟨s', hsl, hs'⟩ := hp7.upto k hk
      have hr' := hs' _ hp7
      have HC := Lib.hid (HCUT.out k hlt)
      clear hs'
      go_wp2_with (go_at_call 23; refine (wire_GetInt _ _ _ hr').mono ?_; rintro e w' ⟨rfl, rfl⟩; rw [HC.out]; dsimp only)
      go_round
      case rel => exact ⟨k + 1, by omega, by go_num⟩
      case measure => simp [intOf]; omega
    · obtain rfl : k = p.length := by omega
      go_wp2_with fail
      go_loopw [109] (fun i wr => ∃ k : Nat, k ≤ q.length ∧ i = .int .i64 k ∧ Rd wr v2 q ∧ Below w.heap.size w wr) (fun i _ => q.length - (intOf i).toNat)
      case atStart => exact ⟨0, by omega, rfl, hq7, hbel7⟩
      case round =>
        obtain ⟨k, hk, rfl, hqr, hbr⟩ := hrel
        by_cases hlt2 : k < q.length
        · obtain ⟨s', hsl, hs'⟩ := hqr.upto k hk
          have hr' := hs' _ hqr
          have HC := Lib.hid (HCUTB.out k hlt2)
          clear hs'
          go_wp2_with fail
          refine (wire_GetBytes _ _ lb.length (by omega) (by omega) _ hr').mono ?_
          rintro e w9 ⟨v9, rfl, ho9, hb9⟩
          rw [HC.out] at ho9 ⊢; dsimp only at ho9 ⊢
          have hl9 : ∀ (u : World), (Builtin.len_ #[23] 3 #[v9]).run Try.prog u = .ok (.int .i64 0) u := len_own ho9 (by simp)
          have hq9 := hqr.later hb9 (Nat.le_refl _)
          have hbel9 := hbr.trans (hb9.mono hbr.size)
          clear ho9 hb9
          go_wp2
          go_roundw
          case rel => exact ⟨k + 1, by omega, by go_num, hq9, hbel9⟩
          case measure => simp [intOf]; omega
        · go_wp2_with fail
          refine (wire_GetBytes _ _ ((lb.length : Int) - 1) (by omega) (by omega) _ hqr).mono ?_
          rintro e w9 ⟨v9, rfl, ho9, hb9⟩
          rw [HLESS.out]; dsimp only
          have hbel9 := hbr.trans (hb9.mono hbr.size)
          go_wp2_with fail
          refine (law01_alive _).mono ?_
          rintro e w10 ⟨rfl, hb10⟩
          have hfin := hbel9.trans (hb10.mono hbel9.size)
          go_wp2_with fail
          go_ret
          exact ⟨rfl, hfin⟩

end Go.Proofs.Ytbnonbpdihglaaa
