/-
  The document's Check and Same of layer 8.
-/
import Derived.Test.YteiphdcgffapbaaGreatDoorGZDefs
import Derived.Test.YteiphdcgffapbaaGreatDoorGRow
import Derived.StillTailTactics
import Derived.IntWalk
import Derived.WalkSmall
import Derived.Deep.QuietTactic
import Derived.BigQuiet
set_option linter.unusedVariables false
set_option linter.unusedSimpArgs false
set_option maxRecDepth 1000000
namespace Go.Proofs.YteiphdcgffapbaaGreatDoor
open Go.RowKit Go.Shelf

/-- The row ahead of place k. -/
def prevR (ps : List PairB) : Nat → Option (List CellB)
  | 0 => none
  | k + 1 => some (ps.getD k default).1
theorem drop_get {α : Type} [Inhabited α] {l : List α} {k : Nat} (h : k < l.length) : l.drop k = l.getD k default :: l.drop (k + 1) := by
  rw [List.drop_eq_getElem_cons h]; simp [List.getD, h]
theorem chkF_step {cs : List ColB} {ps : List PairB} {k : Nat} (h : k < ps.length) (h1 : errRow cs (ps.getD k default).1 = 0) (h2 : (ps.getD k default).2 ≠ 0) (h3 : ∀ r, prevR ps k = some r → cmpR cs r (ps.getD k default).1 < 0) :
    chkF cs (prevR ps k) (ps.drop k) = chkF cs (prevR ps (k + 1)) (ps.drop (k + 1)) := by
  rw [drop_get h]
  conv => lhs; unfold chkF
  rw [if_neg (fun h9 => h9 h1), if_neg h2]
  cases hq : prevR ps k with
  | none => rfl
  | some r =>
    have := h3 r hq
    show (if _ then _ else _) = _
    rw [if_neg (by omega)]; rfl

end Go.Proofs.YteiphdcgffapbaaGreatDoor


/-
  The document's Same, Weight of layer 8.
-/
namespace Go.Proofs.YteiphdcgffapbaaGreatDoor
open Go.RowKit Go.Shelf

theorem takeP_step {α : Type} [Inhabited α] {a b : List α} {k : Nat} (h1 : k < a.length) (h2 : k < b.length) (h : a.take k = b.take k) (he : a.getD k default = b.getD k default) : a.take (k + 1) = b.take (k + 1) := by
  rw [List.take_add_one, List.take_add_one, h]
  simp [List.getD, h1, h2] at he
  simp [h1, h2, he]

set_option maxHeartbeats 4000000 in
theorem ref_Same08 (v1 v2 : Value) (ps qs : List PairB) (w : World) (h1 : RdP w v1 ps) (h2 : RdP w v2 qs) :
    Calls Tryz.prog 18 #[v1, v2] w fun e w' => e = .returned (.bool (decide (ps = qs))) ∧ Below w.heap.size w w' := by
  have hl1 := h1.len
  have hl2 := h2.len
  have hs1 := h1.small
  have hs2 := h2.small
  by_cases hn : ps.length = qs.length
  · obtain ⟨n, hn1⟩ : ∃ n, n = ps.length := ⟨_, rfl⟩
    have hn2 : n = qs.length := by omega
    rw [← hn1] at hl1 hs1
    rw [← hn2] at hl2
    have HN1 := Lib.hid hn1
    have HN2 := Lib.hid hn2
    have H1 := Lib.hid h1
    have H2 := Lib.hid h2
    have hb0 := Lib.hid (Below.refl w.heap.size w)
    clear hn hn1 hn2 h1 h2 hs2
    go_enter Tryz.func18, Tryz.ntmps18
    go_wp2
    go_loopw [5] (fun i wr => ∃ k : Nat, k ≤ n ∧ i = .int .i64 k ∧ Hid (ps.take k = qs.take k) ∧ Hid (Below w.heap.size w wr)) (fun i _ => n - (intOf i).toNat)
    case atStart => exact ⟨0, by omega, rfl, Lib.hid rfl, hb0⟩
    case round =>
      obtain ⟨k, hk, rfl, HT, HB⟩ := hrel
      clear hb0
      by_cases hlt : k < n
      · have k1 : k < ps.length := by rw [← HN1.out]; exact hlt
        have k2 : k < qs.length := by rw [← HN2.out]; exact hlt
        obtain ⟨b1, o1, rv1, hi1, c10, c11, re1, _⟩ := (H1.out.later HB.out (Nat.le_refl _)).get k1
        obtain ⟨b2, o2, rv2, hi2, c20, c21, re2, _⟩ := (H2.out.later HB.out (Nat.le_refl _)).get k2
        have hes := Lib.hid (fun he => takeP_step k1 k2 HT.out he)
        have hne := Lib.hid (show ps.getD k default ≠ qs.getD k default → ps ≠ qs from fun h hh => h (by rw [hh]))
        clear k1 k2
        rcases hpg : ps.getD k default with ⟨r, x⟩
        rcases hqg : qs.getD k default with ⟨s, y⟩
        rw [hpg] at c11 re1
        rw [hqg] at c21 re2
        rw [hpg, hqg] at hes hne
        dsimp only at c11 c21 re1 re2
        clear hpg hqg
        have SS := Lib.hid (fun wz (hz : Below wr.heap.size wr wz) => ref_Same06 rv1 rv2 r s wz (re1.later hz (Nat.le_refl _)) (re2.later hz (Nat.le_refl _)))
        clear re1 re2
        by_cases hxy : x = y
        · subst hxy
          by_cases hrs : r = s
          · subst hrs
            have HES := Lib.hid (hes.out rfl)
            clear hes hne
            go_wp2
            go_still_tail 22, (by kernel_rfl)
            change wpList _ _ _ _ _ wr.drew
            have HB3 := Lib.hid HB.out.drew
            have HD3 := Lib.hid ((Below.refl wr.heap.size wr).drew)
            clear c10 c11 c20 c21
            go_wp2_with fail
            refine (SS.out _ HD3.out).mono ?_
            rintro e w3 ⟨rfl, hb⟩
            have HB4 := Lib.hid (HB3.out.trans (hb.mono HB3.out.size))
            clear hb HB3 HD3 SS
            go_wp2
            go_roundw
            case rel => exact ⟨k + 1, by omega, by go_num, HES, HB4⟩
            case measure => simp [intOf]; omega
          · have HF := Lib.hid (show decide (ps = qs) = false from decide_eq_false (hne.out (fun h => hrs (by injection h))))
            have hd : decide (r = s) = false := decide_eq_false hrs
            rw [hd] at SS
            clear hrs hes hne hd
            go_wp2
            go_still_tail 22, (by kernel_rfl)
            change wpList _ _ _ _ _ wr.drew
            have HB3 := Lib.hid HB.out.drew
            have HD3 := Lib.hid ((Below.refl wr.heap.size wr).drew)
            clear c10 c11 c20 c21
            go_wp2_with fail
            refine (SS.out _ HD3.out).mono ?_
            rintro e w3 ⟨rfl, hb⟩
            have HB4 := Lib.hid (HB3.out.trans (hb.mono HB3.out.size))
            clear hb HB3 HD3 SS
            go_wp2
            go_ret
            exact ⟨by rw [HF.out]; rfl, HB4.out⟩
        · have HF := Lib.hid (show decide (ps = qs) = false from decide_eq_false (hne.out (fun h => hxy (by injection h))))
          have hq : (x != y) = true := by rw [bne_iff_ne]; exact hxy
          clear hxy hes hne SS
          go_wp2
          go_quiet (fail)
          go_wp2
          go_ret
          exact ⟨by rw [HF.out]; rfl, _root_.Go.below_drewN HB.out _⟩
      · obtain rfl : k = n := by omega
        have HF := Lib.hid (show decide (ps = qs) = true from decide_eq_true (by
          have := HT.out
          rwa [List.take_of_length_le (by rw [← HN1.out]; exact Nat.le_refl _), List.take_of_length_le (by rw [← HN2.out]; exact Nat.le_refl _)] at this))
        go_wp2
        go_ret
        exact ⟨by rw [HF.out]; rfl, HB.out⟩
  · have HF := Lib.hid (show decide (ps = qs) = false from decide_eq_false (fun h => hn (by rw [h])))
    have hq : ((ps.length : Int) != (qs.length : Int)) = true := by rw [bne_iff_ne]; omega
    obtain ⟨n, hn1⟩ : ∃ n, n = ps.length := ⟨_, rfl⟩
    obtain ⟨m, hm1⟩ : ∃ m, m = qs.length := ⟨_, rfl⟩
    rw [← hn1] at hl1 hq
    rw [← hm1] at hl2 hq
    clear h1 h2 hn hn1 hm1 hs1 hs2
    go_enter Tryz.func18, Tryz.ntmps18
    go_wp2
    go_ret
    exact ⟨by rw [HF.out]; rfl, Below.refl _ _⟩

end Go.Proofs.YteiphdcgffapbaaGreatDoor

