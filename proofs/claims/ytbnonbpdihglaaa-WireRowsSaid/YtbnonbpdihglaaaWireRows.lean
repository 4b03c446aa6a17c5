/-
  WireRows: numbers that were put, one behind the other, are got, one behind the other, each by its size. For every input.
-/
import Derived.Test.YtbnonbpdihglaaaAlive
import Derived.Test.YtbnonbpdihglaaaWireMath2
import Derived.Test.YtbnonbpdihglaaaNums
set_option linter.unusedVariables false
set_option linter.unusedSimpArgs false
namespace Go.Proofs.Ytbnonbpdihglaaa
open Go.RowKit

theorem encsI_snoc (l : List Int) (k : Nat) (h : k < l.length) : encsU (l.take (k + 1)) = encsU (l.take k) ++ encU (atI l k).toNat := encsU_snoc l k h
theorem encsI_drop (l : List Int) (k : Nat) (h : k < l.length) : encsU (l.drop k) = encU (atI l k).toNat ++ encsU (l.drop (k + 1)) := encsU_drop l k h

set_option maxHeartbeats 4000000 in
set_option maxRecDepth 20000 in
theorem wireRows_walk (v : Value) (l : List Int) (w : World) (h : RdI .u64 w v l) :
    Calls Try.prog 8 #[v] w fun e w' => e = .returned (.bool true) ∧ Below w.heap.size w w' := by
  have hlen := h.len Try.underlying47
  have hidx := h.idx Try.underlying47 (by kernel_rfl)
  have hsm := h.small
  by_cases hbig : 200 < l.length
  · go_enter Try.func8, Try.ntmps8
    go_wp2_with fail
    refine (law01_alive w).mono ?_
    rintro e w1 ⟨rfl, hb⟩
    go_wp2_with fail
    go_ret
    exact ⟨rfl, hb⟩
  · have hall : ∀ n ∈ l, 0 ≤ n ∧ n ≤ 18446744073709551615 := fun n hn => bd_u64 (h.wf n hn)
    have HALL := Lib.hid hall
    have hbd : ∀ i, i < l.length → 0 ≤ atI l i ∧ atI l i ≤ 18446744073709551615 := fun i hi => bd_u64 (h.mem hi)
    have HBD := Lib.hid hbd
    clear hall hbd
    go_enter Try.func8, Try.ntmps8
    go_wp2_with fail
    go_loopw [3, 17] (fun s i wr => ∃ k : Nat, k ≤ l.length ∧ i = .int .i64 k ∧ Own wr w.heap.size s (encsU (l.take k)) ∧ Below w.heap.size w wr) (fun _ i _ => l.length - (intOf i).toNat)
    case atStart => exact ⟨0, by omega, rfl, own_nil _ _, Below.refl _ _⟩
    case round =>
      obtain ⟨k, hk, rfl, hown, hbel⟩ := hrel
      by_cases hlt : k < l.length
      · have hR := h.later hbel (Nat.le_refl _)
        have hc := hR.cells k hlt
        have hx := HBD.out k hlt
        have hsn := Lib.hid (encsI_snoc l k hlt)
        have hle1 := encsU_le (l.take k) (fun n hn => HALL.out n (List.mem_of_mem_take hn))
        rw [List.length_take, Nat.min_eq_left hk] at hle1
        generalize atI l k = x at *
        have hle2 := encU_le x.toNat (by omega)
        go_wp2_with fail
        refine (wire_Uint x hx.1 hx.2 _).mono ?_
        rintro e w1 ⟨v1, rfl, ho1, hb1⟩
        have hown1 := hown.later hb1 (Nat.le_refl _)
        have hbel1 := hbel.trans (hb1.mono hbel.size)
        go_wp2_with (with_reducible refine wpl_append w.heap.size _ _ ?hs hown1 _ _ ?hx2 (ho1.rd (by omega)) ?hn ?hbase w.heap.size w hbel1 (Nat.le_refl _) ?_)
        case hs => rfl
        case hx2 => rfl
        case hn => omega
        case hbase => exact hbel1.size
        intro v2 w2 hown2 hbel2 _
        rw [← hsn.out] at hown2
        go_wp2
        go_roundw
        case rel => exact ⟨k + 1, by omega, by go_num, hown2, hbel2⟩
        case measure => simp [intOf]; omega
      · obtain rfl : k = l.length := by omega
        rw [List.take_length] at hown
        have hR := h.later hbel (Nat.le_refl _)
        have HC := Lib.hid hR.cells
        have hle1 := encsU_le l HALL.out
        have hrd := hown.rd (by omega)
        have hEQ : encsU (l.drop 0) = encsU l := by rw [List.drop_zero]
        go_wp2_with fail
        go_loop [3, 28] (fun s i => ∃ k : Nat, k ≤ l.length ∧ i = .int .i64 k ∧ Rd wr s (encsU (l.drop k))) (fun _ i => l.length - (intOf i).toNat)
        case atStart => exact ⟨0, by omega, rfl, by rw [List.drop_zero]; exact hrd⟩
        case round =>
          obtain ⟨k, hk, rfl, hS⟩ := hrel
          by_cases hlt2 : k < l.length
          · have hc := HC.out k hlt2
            have hx := HBD.out k hlt2
            have hdr := encsI_drop l k hlt2
            have hslen := hS.len
            rw [hdr] at hS hslen
            generalize atI l k = x at *
            obtain ⟨x, rfl⟩ := Int.eq_ofNat_of_zero_le hx.1
            rw [Int.toNat_natCast] at *
            obtain ⟨m, hm⟩ : ∃ m, m = encsU (l.drop (k + 1)) := ⟨_, rfl⟩
            rw [← hm] at hS hslen
            have HM := Lib.hid hm
            have hput := getU_put x (by omega) m
            have HP := Lib.hid hput
            obtain ⟨n, hn⟩ : ∃ n, n = (encU x).length := ⟨_, rfl⟩
            have hnp := encU_pos x
            have hnl : n ≤ (encU x ++ m).length := by simp; omega
            have hn1 : 1 ≤ n := by omega
            rw [← hn] at HP
            have HN := Lib.hid hn
            obtain ⟨s', hsl, hs'⟩ := hS.from n hnl
            have HS' := Lib.hid hs'
            clear hm hput hn hdr hs' hnp
            obtain ⟨L, hL⟩ : ∃ L, L = (encU x ++ m).length := ⟨_, rfl⟩
            rw [← hL] at hslen hnl
            have HLL := Lib.hid hL
            clear hL
            go_wp2_with (first | (go_at_call 21; refine (wire_GetUint _ _ _ hS).mono ?_; rintro e w' ⟨rfl, rfl⟩; rw [HP.out]; dsimp only) | (go_at_call 12; refine (wire_Size x hx.1 hx.2 _).mono ?_; rintro e w' ⟨rfl, rfl⟩; rw [Int.toNat_natCast, ← HN.out]))
            have hnext := HS'.out _ hS
            rw [HN.out, List.drop_left, HM.out] at hnext
            go_round
            case rel => exact ⟨k + 1, by omega, by go_num, hnext⟩
            case measure => simp [intOf]; omega
          · obtain rfl : k = l.length := by omega
            rw [List.drop_of_length_le (Nat.le_refl _)] at hS
            have hslen := hS.len
            go_wp2_with fail
            refine (law01_alive _).mono ?_
            rintro e w2 ⟨rfl, hb2⟩
            have hfin := hbel.trans (hb2.mono hbel.size)
            have hslen' : ∀ (u : World), (Builtin.len_ #[23] 3 #[u3]).run Try.prog u = .ok (.int .i64 0) u := hslen
            clear hslen
            go_wp2_with fail
            go_ret
            exact ⟨rfl, hfin⟩

end Go.Proofs.Ytbnonbpdihglaaa
