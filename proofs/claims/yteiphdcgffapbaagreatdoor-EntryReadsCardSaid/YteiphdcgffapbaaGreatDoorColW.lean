/-
  Package column: Shared, Bound, the bytes of numbers.
-/
import Derived.Test.YteiphdcgffapbaaGreatDoorGColM
import Derived.Test.YteiphdcgffapbaaGreatDoorGColSh
import Derived.Test.YteiphdcgffapbaaGreatDoorGWire
import Derived.Test.YteiphdcgffapbaaGreatDoorGBaseB
import Derived.Deep.QuietTactic
import Derived.BigQuiet
import Derived.BigRegion
set_option linter.unusedVariables false
set_option linter.unusedSimpArgs false
set_option maxRecDepth 1000000
namespace Go.Proofs.YteiphdcgffapbaaGreatDoor
open Go.RowKit

set_option maxHeartbeats 4000000 in
theorem column_Shared (s t : ByteArray) (l m : List UInt8) (w : World) (h1 : RdS s l) (h2 : RdS t m) :
    Calls Tryz.prog 158 #[.string s, .string t] w fun e w' => e = .returned (.int .i64 (shr l m : Nat)) ∧ Below w.heap.size w w' := by
  have hlen1 := h1.len
  have hlen2 := h2.len
  have hi1 := h1.idx
  have hi2 := h2.idx
  have hs1 := h1.small
  have hs2 := h2.small
  have hb0 := Lib.hid (Below.refl w.heap.size w)
  obtain ⟨p, hp⟩ : ∃ p, p = l.length := ⟨_, rfl⟩
  obtain ⟨q, hq⟩ : ∃ q, q = m.length := ⟨_, rfl⟩
  rw [← hp] at hlen1 hs1 hi1
  rw [← hq] at hlen2 hs2 hi2
  have HP := Lib.hid hp
  have HQ := Lib.hid hq
  obtain ⟨n, hn⟩ : ∃ n : Nat, n = min p q := ⟨_, rfl⟩
  have hn1 : n ≤ p := by omega
  have hn2 : n ≤ q := by omega
  have hn3 : n = p ∨ n = q := by omega
  have hif : (if (q : Int) < (p : Int) then (q : Int) else (p : Int)) = (n : Int) := by split <;> omega
  have hmn : ∀ u, (Builtin.min_ #[3, 3] 3 #[.int .i64 (p : Int), .int .i64 (q : Int)]).run Tryz.prog u = .ok (.int .i64 (n : Int)) u := by
    intro u; rw [← hif]; rfl
  have HN3 := Lib.hid hn3
  clear hp hq h1 h2 hn hn3 hif
  go_enter Tryz.func158, Tryz.ntmps158
  go_wp2
  go_loopw [13] (fun i wr => ∃ k : Nat, k ≤ n ∧ i = .int .i64 k ∧ Hid (l.take k = m.take k) ∧ Hid (Below w.heap.size w wr)) (fun i _ => n - (intOf i).toNat)
  case atStart => exact ⟨0, by omega, rfl, Lib.hid rfl, hb0⟩
  case round =>
    obtain ⟨k, hk, rfl, HT, HB⟩ := hrel
    clear hb0
    have HE := Lib.hid (fun h => shr_at (l := l) (m := m) (k := k) (by rw [← HP.out]; omega) (by rw [← HQ.out]; omega) HT.out h)
    by_cases h1 : k < n
    · have k1 : k < p := by omega
      have k2 : k < q := by omega
      have HN := Lib.hid (fun h => shr_next (l := l) (m := m) (k := k) (by rw [← HP.out]; exact k1) (by rw [← HQ.out]; exact k2) HT.out h)
      have x1 := hi1 k k1
      have x2 := hi2 k k2
      obtain ⟨c, hc⟩ : ∃ c : Nat, at8 l k = (c : Int) := ⟨(l.getD k 0).toNat, rfl⟩
      obtain ⟨d, hd⟩ : ∃ d : Nat, at8 m k = (d : Int) := ⟨(m.getD k 0).toNat, rfl⟩
      have hcc : (l.getD k 0).toNat = c := by unfold at8 at hc; omega
      have hdd : (m.getD k 0).toNat = d := by unfold at8 at hd; omega
      have HC := Lib.hid hcc
      have HD := Lib.hid hdd
      rw [hc] at x1
      rw [hd] at x2
      clear hcc hdd hc hd hi1 hi2 k1 k2
      by_cases he : c = d
      · have HN2 := Lib.hid (HN.out (UInt8.toNat_inj.1 (by rw [HC.out, HD.out, he])))
        subst he
        clear HE HN HC HD
        have hq : ((c : Int) != (c : Int)) = false := by simp
        go_wp2
        go_quiet (fail)
        go_wp2
        go_roundw
        case rel => exact ⟨k + 1, by omega, by go_num, HN2, Lib.hid (below_drewN HB.out _)⟩
        case measure => simp [intOf]; omega
      · have HE2 := Lib.hid (HE.out (fun _ _ h => he (by rw [← HC.out, ← HD.out, h])))
        have hq : ((c : Int) != (d : Int)) = true := by simp; omega
        clear HE HN HC HD he
        go_wp2
        go_quiet (fail)
        go_wp2
        go_ret
        exact ⟨by rw [HE2.out]; rfl, below_drewN HB.out _⟩
    · obtain rfl : k = n := by omega
      have HE2 := Lib.hid (HE.out (fun h9 h8 => absurd HN3.out (by rw [HP.out, HQ.out]; omega)))
      clear HE hi1 hi2
      go_wp2
      go_ret
      exact ⟨by rw [HE2.out]; rfl, HB.out⟩

/-! ## Numbers -/
end Go.Proofs.YteiphdcgffapbaaGreatDoor
