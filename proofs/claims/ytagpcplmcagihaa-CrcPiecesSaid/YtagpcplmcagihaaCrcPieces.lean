/-
  CrcPieces: in whatever pieces bytes are added, the sum is the same. For every input.
-/
import Derived.Test.YtagpcplmcagihaaCrcWalks
set_option linter.unusedVariables false
set_option linter.unusedSimpArgs false
namespace Go.Proofs.Ytagpcplmcagihaa
open Go.RowKit

set_option maxHeartbeats 4000000 in
set_option maxRecDepth 20000 in
theorem crcPieces_walk (v : Value) (l : List UInt8) (v2 : Value) (c : List UInt8) (w : World) (h : Rd w v l) (h2 : Rd w v2 c) :
    Calls Try.prog 7 #[v, v2] w fun e w' => e = .returned (.bool true) ∧ Below w.heap.size w w' := by
  have hlen := h.len
  have hlen2 := h2.len
  have hsm := h.small
  have hidx := h2.idx
  by_cases hbig : 2000 < l.length ∨ 100 < c.length
  · rcases hbig with hbig | hbig
    · go_enter Try.func7, Try.ntmps7
      go_wp2_with fail
      refine (law02_alive w).mono ?_
      rintro e w1 ⟨rfl, hb⟩
      go_wp2
      go_ret
      exact ⟨rfl, hb⟩
    · by_cases hb2 : 2000 < l.length
      all_goals
        go_enter Try.func7, Try.ntmps7
        go_wp2_with fail
        refine (law02_alive w).mono ?_
        rintro e w1 ⟨rfl, hb⟩
        go_wp2
        go_ret
        exact ⟨rfl, hb⟩
  · have hl2 : l.length ≤ 2000 := by omega
    have hc2 : c.length ≤ 100 := by omega
    clear hbig
    go_enter Try.func7, Try.ntmps7
    go_wp2
    go_loopw [5, 6, 22] (fun s r i wr => ∃ (k : Nat) (m n : List UInt8), k ≤ c.length ∧ i = .int .i64 k ∧ Hid (l = m ++ n) ∧ n.length ≤ 2000 ∧ s = .int .u32 ((Crc.sum m : Nat) : Int) ∧ Rd wr r n ∧ Below w.heap.size w wr) (fun _ _ i _ => c.length - (intOf i).toNat)
    case atStart => exact ⟨0, [], l, by omega, rfl, Lib.hid rfl, hl2, by rw [Crc.sum_nil]; rfl, h, Below.refl _ _⟩
    case round =>
      obtain ⟨k, m, n, hk, rfl, HL, hn, rfl, hr, hbel⟩ := hrel
      have hsum := Crc.sum_lt m
      have hrl := hr.len
      by_cases hlt : k < c.length
      · have hcel := (h2.later hbel (Nat.le_refl _)).cells k hlt
        have hb0 := at8_lo c k
        have hb1 := at8_hi c k
        obtain ⟨q, hq⟩ : ∃ q : Nat, at8 c k % ((n.length : Int) + 1) = (q : Int) ∧ q ≤ n.length := by
          have h0 := Int.emod_nonneg (at8 c k) (b := (n.length : Int) + 1) (by omega)
          have h1 := Int.emod_lt_of_pos (at8 c k) (b := (n.length : Int) + 1) (by omega)
          exact ⟨(at8 c k % ((n.length : Int) + 1)).toNat, by omega, by omega⟩
        obtain ⟨hq, hqn⟩ := hq
        obtain ⟨va, hsl1, hrd1⟩ := hr.upto q hqn
        obtain ⟨vb, hsl2, hrd2⟩ := hr.from q hqn
        go_wp2_with fail
        refine (crc_More _ hsum _ (n.take q) wr (hrd1 _ hr)).mono ?_
        rintro e w2 ⟨rfl, hb2⟩
        rw [Crc.more_sum]
        go_wp2
        go_roundw
        case rel => exact ⟨k + 1, m ++ n.take q, n.drop q, by omega, by go_num, Lib.hid (by rw [List.append_assoc, List.take_append_drop]; exact HL.out), by simp; omega, rfl, hrd2 _ (hr.later hb2 (Nat.le_refl _)), hbel.trans (hb2.mono hbel.size)⟩
        case measure => simp [intOf]; omega
      · obtain rfl : k = c.length := by omega
        go_wp2_with fail
        refine (law02_alive _).mono ?_
        rintro e w2 ⟨rfl, hb2⟩
        replace hr := hr.later hb2 (Nat.le_refl _)
        replace hbel := hbel.trans (hb2.mono hbel.size)
        clear hb2
        go_wp2_with fail
        refine (crc_More _ hsum _ n _ hr).mono ?_
        rintro e w3 ⟨rfl, hb3⟩
        replace hbel := hbel.trans (hb3.mono hbel.size)
        clear hb3
        rw [Crc.more_sum, ← HL.out]
        go_wp2_with fail
        refine (crc_Sum _ l _ (h.later hbel (Nat.le_refl _))).mono ?_
        rintro e w4 ⟨rfl, hb4⟩
        replace hbel := hbel.trans (hb4.mono hbel.size)
        clear hb4
        go_wp2
        go_ret
        exact ⟨rfl, hbel⟩

end Go.Proofs.Ytagpcplmcagihaa
