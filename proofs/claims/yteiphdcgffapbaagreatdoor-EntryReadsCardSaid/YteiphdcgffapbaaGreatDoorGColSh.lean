/-
  The document's own answers for layer 9 (deckleref09): Shared, Bound.
-/
import Derived.Test.YteiphdcgffapbaaGreatDoorGColM
import Derived.Deep.QuietTactic
import Derived.BigQuiet
import Derived.Test.YteiphdcgffapbaaGreatDoorGBaseB
import Derived.Test.YteiphdcgffapbaaGreatDoorGWireR
import Derived.Test.YteiphdcgffapbaaGreatDoorGBaseA
import Derived.BigRegion
set_option linter.unusedVariables false
set_option linter.unusedSimpArgs false
set_option maxRecDepth 1000000
namespace Go.Proofs.YteiphdcgffapbaaGreatDoor
open Go.RowKit

theorem shr_at {l m : List UInt8} {k : Nat} (hl : k ≤ l.length) (hm : k ≤ m.length) (ht : l.take k = m.take k) (h : k < l.length → k < m.length → l.getD k 0 ≠ m.getD k 0) : shr l m = k := shr_eq hl hm ht h
theorem shr_next {l m : List UInt8} {k : Nat} (hl : k < l.length) (hm : k < m.length) (ht : l.take k = m.take k) (h : l.getD k 0 = m.getD k 0) : l.take (k + 1) = m.take (k + 1) := by
  rw [List.take_succ_eq_append_getElem hl, List.take_succ_eq_append_getElem hm, ht]
  simp [List.getD, hl, hm] at h
  rw [h]

set_option maxHeartbeats 4000000 in
theorem ref_Shared (s t : ByteArray) (l m : List UInt8) (w : World) (h1 : RdS s l) (h2 : RdS t m) :
    Calls Tryz.prog 98 #[.string s, .string t] w fun e w' => e = .returned (.int .i64 (shr l m : Nat)) ∧ Below w.heap.size w w' := by
  have hlen1 := h1.len
  have hlen2 := h2.len
  have hi1 := h1.idx
  have hi2 := h2.idx
  have hs1 := h1.small
  have hs2 := h2.small
  have hb0 := Lib.hid (Below.refl w.heap.size w)
  obtain ⟨p, hp⟩ : ∃ p, p = l.length := ⟨_, rfl⟩
  obtain ⟨q, hq⟩ : ∃ q, q = m.length := ⟨_, rfl⟩
  rw [← hp] at hlen1 hs1 hi1
  rw [← hq] at hlen2 hs2 hi2
  have HP := Lib.hid hp
  have HQ := Lib.hid hq
  clear hp hq h1 h2
  go_enter Tryz.func98, Tryz.ntmps98
  go_wp2
  go_loopw [5] (fun i wr => ∃ k : Nat, k ≤ p ∧ k ≤ q ∧ i = .int .i64 k ∧ Hid (l.take k = m.take k) ∧ Hid (Below w.heap.size w wr)) (fun i _ => p - (intOf i).toNat)
  case atStart => exact ⟨0, by omega, by omega, rfl, Lib.hid rfl, hb0⟩
  case round =>
    obtain ⟨k, hk1, hk2, rfl, HT, HB⟩ := hrel
    clear hb0
    have HE := Lib.hid (fun h => shr_at (l := l) (m := m) (k := k) (by rw [← HP.out]; exact hk1) (by rw [← HQ.out]; exact hk2) HT.out h)
    by_cases h1 : k < p
    · by_cases h2 : k < q
      · have HN := Lib.hid (fun h => shr_next (l := l) (m := m) (k := k) (by rw [← HP.out]; exact h1) (by rw [← HQ.out]; exact h2) HT.out h)
        have x1 := hi1 k h1
        have x2 := hi2 k h2
        obtain ⟨c, hc⟩ : ∃ c : Nat, at8 l k = (c : Int) := ⟨(l.getD k 0).toNat, rfl⟩
        obtain ⟨d, hd⟩ : ∃ d : Nat, at8 m k = (d : Int) := ⟨(m.getD k 0).toNat, rfl⟩
        have hcc : (l.getD k 0).toNat = c := by unfold at8 at hc; omega
        have hdd : (m.getD k 0).toNat = d := by unfold at8 at hd; omega
        have HC := Lib.hid hcc
        have HD := Lib.hid hdd
        rw [hc] at x1
        rw [hd] at x2
        clear hcc hdd hc hd hi1 hi2
        by_cases he : c = d
        · have HN2 := Lib.hid (HN.out (UInt8.toNat_inj.1 (by rw [HC.out, HD.out, he])))
          subst he
          clear HE HN HC HD
          have hq : ((c : Int) == (c : Int)) = true := by simp
          go_wp2
          go_quiet (fail)
          go_wp2
          go_roundw
          case rel => exact ⟨k + 1, by omega, by omega, by go_num, HN2, Lib.hid (below_drewN HB.out _)⟩
          case measure => simp [intOf]; omega
        · have HE2 := Lib.hid (HE.out (fun _ _ h => he (by rw [← HC.out, ← HD.out, h])))
          have hq : ((c : Int) == (d : Int)) = false := by simp; omega
          clear HE HN HC HD he
          go_wp2
          go_quiet (fail)
          go_wp2
          go_ret
          exact ⟨by rw [HE2.out]; rfl, below_drewN HB.out _⟩
      · have HE2 := Lib.hid (HE.out (fun _ h => absurd (by rw [HQ.out]; exact h) h2))
        clear HE hi1 hi2
        go_wp2
        go_quiet (fail)
        go_wp2
        go_ret
        exact ⟨by rw [HE2.out]; rfl, below_drewN HB.out _⟩
    · have HE2 := Lib.hid (HE.out (fun h _ => absurd (by rw [HP.out]; exact h) h1))
      clear HE hi1 hi2
      go_wp2
      go_quiet (fail)
      go_wp2
      go_ret
      exact ⟨by rw [HE2.out]; rfl, below_drewN HB.out _⟩

end Go.Proofs.YteiphdcgffapbaaGreatDoor


/-
  The document's own answers for layer 9 (deckleref09): Write.
-/
namespace Go.Proofs.YteiphdcgffapbaaGreatDoor
open Go.RowKit

/-- A cell's number and text, in lists. -/
def ceL (c : CellB) : Ce := (c.1, c.2.data.toList)
def cesL (cs : List CellB) : List Ce := cs.map ceL
theorem cesL_length (cs : List CellB) : (cesL cs).length = cs.length := by unfold cesL; rw [List.length_map]
/-- The cell that is the last one of some; ahead of all an empty one. -/
def lstB (cs : List CellB) (k : Nat) : CellB := if k = 0 then (0, ⟨#[]⟩) else cs.getD (k - 1) default
end Go.Proofs.YteiphdcgffapbaaGreatDoor

