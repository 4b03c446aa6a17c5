/-
  The document's own answer for layer 6 (deckleref06): Same.
-/
import Derived.Test.YtccclfpngdjmjaaDoorGBaseA
import Derived.Deep.RegionHeld3
import Derived.Deep.QuietTactic
import Derived.BigQuiet
set_option linter.unusedVariables false
set_option linter.unusedSimpArgs false
set_option maxRecDepth 1000000
namespace Go.Proofs.YtccclfpngdjmjaaDoor
open Go.RowKit

theorem eqE_step {cs ds : List CellB} {k : Nat} (h1 : k < cs.length) (h2 : k < ds.length) (h : cs.take k = ds.take k) (he : cs.getD k default = ds.getD k default) : cs.take (k + 1) = ds.take (k + 1) := by
  rw [take_succD h1 default, take_succD h2 default, h, he]

set_option maxHeartbeats 4000000 in
theorem ref_Same06 (v1 v2 : Value) (cs ds : List CellB) (w : World) (h1 : RdE w v1 cs) (h2 : RdE w v2 ds) :
    Calls Tryd.prog 17 #[v1, v2] w fun e w' => e = .returned (.bool (decide (cs = ds))) ∧ Below w.heap.size w w' := by
  have hl1 := h1.len
  have hl2 := h2.len
  have hs1 := h1.small
  have hs2 := h2.small
  by_cases hn : cs.length = ds.length
  · obtain ⟨n, hn1⟩ : ∃ n, n = cs.length := ⟨_, rfl⟩
    have hn2 : n = ds.length := by omega
    rw [← hn1] at hl1 hs1
    rw [← hn2] at hl2
    have HN1 := Lib.hid hn1
    have HN2 := Lib.hid hn2
    have H1 := Lib.hid h1
    have H2 := Lib.hid h2
    have hb0 := Lib.hid (Below.refl w.heap.size w)
    clear hn hn1 hn2 h1 h2 hs2
    go_enter Tryd.func17, Tryd.ntmps17
    go_wp2
    go_loopw [5] (fun i wr => ∃ k : Nat, k ≤ n ∧ i = .int .i64 k ∧ Hid (cs.take k = ds.take k) ∧ Hid (Below w.heap.size w wr)) (fun i _ => n - (intOf i).toNat)
    case atStart => exact ⟨0, by omega, rfl, Lib.hid rfl, hb0⟩
    case round =>
      obtain ⟨k, hk, rfl, HT, HB⟩ := hrel
      clear hb0
      by_cases hlt : k < n
      · have hr1 := H1.out.later HB.out (Nat.le_refl _)
        have hr2 := H2.out.later HB.out (Nat.le_refl _)
        have k1 : k < cs.length := by rw [← HN1.out]; exact hlt
        have k2 : k < ds.length := by rw [← HN2.out]; exact hlt
        obtain ⟨b1, o1, hi1, hc1, hb1⟩ := hr1.get k1
        obtain ⟨b2, o2, hi2, hc2, hb2⟩ := hr2.get k2
        obtain ⟨c10, c11⟩ := hc1 _ hr1
        obtain ⟨c20, c21⟩ := hc2 _ hr2
        have hes := Lib.hid (fun he => eqE_step k1 k2 HT.out he)
        have hne := Lib.hid (show cs.getD k default ≠ ds.getD k default → cs ≠ ds from fun h hh => h (by rw [hh]))
        clear hr1 hr2 hc1 hc2 k1 k2
        rcases hcg : cs.getD k default with ⟨kd, s⟩
        rcases hdg : ds.getD k default with ⟨ke, t⟩
        rw [hcg] at c10 c11
        rw [hdg] at c20 c21
        rw [hcg, hdg] at hes hne
        dsimp only at c10 c11 c20 c21
        clear hcg hdg
        by_cases hke : kd = ke
        · subst hke
          by_cases hst : s = t
          · subst hst
            have HES := Lib.hid (hes.out rfl)
            clear hes hne
            go_wp2
            go_quiet (fail)
            go_wp2
            go_roundw
            case rel => exact ⟨k + 1, by omega, by go_num, HES, Lib.hid (below_drewN HB.out _)⟩
            case measure => simp [intOf]; omega
          · have HF := Lib.hid (show decide (cs = ds) = false from decide_eq_false (hne.out (fun h => hst (by injection h))))
            obtain ⟨q1, q2⟩ := str_ne hst
            clear hst
            clear hes hne
            go_wp2
            go_quiet (fail)
            go_wp2
            go_ret
            exact ⟨by rw [HF.out]; rfl, below_drewN HB.out _⟩
        · have HF := Lib.hid (show decide (cs = ds) = false from decide_eq_false (hne.out (fun h => hke (by injection h))))
          have q1 : ((kd : Int) == (ke : Int)) = false := by rw [beq_eq_false_iff_ne]; omega
          have q2 : ((kd : Int) != (ke : Int)) = true := by rw [bne_iff_ne]; omega
          have q3 : (kd == ke) = false := by simpa using hke
          have q4 : (kd != ke) = true := by simpa using hke
          clear hke
          clear hes hne
          go_wp2
          go_quiet (fail)
          go_wp2
          go_ret
          exact ⟨by rw [HF.out]; rfl, below_drewN HB.out _⟩
      · obtain rfl : k = n := by omega
        have HF := Lib.hid (show decide (cs = ds) = true from decide_eq_true (by
          have := HT.out
          rwa [List.take_of_length_le (by rw [← HN1.out]; exact Nat.le_refl _), List.take_of_length_le (by rw [← HN2.out]; exact Nat.le_refl _)] at this))
        clear hlt
        go_wp2
        go_ret
        exact ⟨by rw [HF.out]; rfl, HB.out⟩
  · have q : ((cs.length : Int) != (ds.length : Int)) = true := by rw [bne_iff_ne]; omega
    have q' : (cs.length != ds.length) = true := by simpa using hn
    have HF := Lib.hid (show decide (cs = ds) = false from decide_eq_false (fun h => hn (by rw [h])))
    clear hn h1 h2
    go_enter Tryd.func17, Tryd.ntmps17
    go_wp2
    go_ret
    exact ⟨by rw [HF.out]; rfl, Below.refl _ _⟩

end Go.Proofs.YtccclfpngdjmjaaDoor
