/-
  The document's own answers for layer 12 (deckleref12): Check, Same, Write.
-/
import Derived.Test.YteiphdcgffapbaaGreatDoorEntry
import Derived.Test.YteiphdcgffapbaaGreatDoorGEntP
import Derived.Test.YteiphdcgffapbaaGreatDoorGBatRef
import Derived.Test.YteiphdcgffapbaaGreatDoorGFrame
import Derived.Test.YteiphdcgffapbaaGreatDoorGWireR
import Derived.Test.YteiphdcgffapbaaGreatDoorGZRef
import Derived.Test.YteiphdcgffapbaaGreatDoorGBaseA
set_option linter.unusedVariables false
set_option linter.unusedSimpArgs false
set_option maxRecDepth 1000000
namespace Go.Proofs.YteiphdcgffapbaaGreatDoor
open Go.RowKit Go.Shelf

set_option maxHeartbeats 4000000 in
theorem ref_Same12 (v1 v2 : Value) (x y : EntB) (w : World) (h1 : RdN w v1 x) (h2 : RdN w v2 y) :
    Calls Tryz.prog 15 #[v1, v2] w fun e w' => e = .returned (.bool (decide (x = y))) ∧ Below w.heap.size w w' := by
  obtain ⟨k1, s1, ps⟩ := x
  obtain ⟨k2, s2, qs⟩ := y
  obtain ⟨p1, rfl, hP⟩ := h1
  obtain ⟨p2, rfl, hQ⟩ := h2
  dsimp only at hP hQ ⊢
  obtain ⟨ao, no, co, rfl⟩ := hP.lit12
  obtain ⟨bo, mo, do_, rfl⟩ := hQ.lit12
  have SM := Lib.hid (fun wz (hz : Below w.heap.size w wz) => ref_Same08 (.slice ao no co) (.slice bo mo do_) ps qs wz (hP.later hz (Nat.le_refl _)) (hQ.later hz (Nat.le_refl _)))
  have HB0 := Lib.hid (((Below.refl w.heap.size w).alloc (Nat.le_refl _) (.cells #[.int .i64 k1, .int .i64 s1, .slice ao no co] 25)).alloc (by simp) (.cells #[.int .i64 k2, .int .i64 s2, .slice bo mo do_] 25))
  clear hP hQ
  by_cases h1 : k1 = k2
  · subst h1
    have d1 : ((k1 : Int) == k1) = true := by simp
    by_cases h2 : s1 = s2
    · subst h2
      have d2 : ((s1 : Int) == s1) = true := by simp
      have HE := Lib.hid (show decide (ps = qs) = decide (((k1, s1, ps) : EntB) = (k1, s1, qs)) from by simp)
      go_enter Tryz.func15, Tryz.ntmps15
      go_wp2_with fail
      refine (SM.out _ HB0.out).mono ?_
      rintro e w3 ⟨rfl, hb⟩
      have HB3 := Lib.hid (HB0.out.trans (hb.mono HB0.out.size))
      generalize decide (ps = qs) = z at *
      clear hb
      go_wp2
      go_ret
      exact ⟨by rw [← HE.out]; rfl, HB3.out⟩
    · have d2 : ((s1 : Int) == s2) = false := by rw [beq_eq_false_iff_ne]; exact h2
      have HE := Lib.hid (show false = decide (((k1, s1, ps) : EntB) = (k1, s2, qs)) from by simp [h2])
      clear h2 SM
      go_enter Tryz.func15, Tryz.ntmps15
      go_wp2
      go_ret
      exact ⟨by rw [← HE.out]; rfl, HB0.out⟩
  · have d1 : ((k1 : Int) == k2) = false := by rw [beq_eq_false_iff_ne]; exact h1
    have HE := Lib.hid (show false = decide (((k1, s1, ps) : EntB) = (k2, s2, qs)) from by simp [h1])
    clear h1 SM
    go_enter Tryz.func15, Tryz.ntmps15
    go_wp2
    go_ret
    exact ⟨by rw [← HE.out]; rfl, HB0.out⟩

end Go.Proofs.YteiphdcgffapbaaGreatDoor
