/-
  ColumnReads: the law's own walk.
-/
import Derived.Test.YtccclfpngdjmjaaDoorColAlive
import Derived.Test.YtccclfpngdjmjaaDoorGColRef
import Derived.Test.YtccclfpngdjmjaaDoorRefSame06
set_option linter.unusedVariables false
set_option linter.unusedSimpArgs false
set_option maxRecDepth 1000000
namespace Go.Proofs.YtccclfpngdjmjaaDoor
open Go.RowKit Go.Shelf

theorem ceL_inj : ∀ {a b : CellB}, ceL a = ceL b → a = b
  | (a, x), (b, y), h => by
    unfold ceL at h
    injection h with h1 h2
    dsimp only at h1 h2
    subst h1
    have e : x = y := by
      apply ByteArray.ext
      exact Array.toList_inj.1 h2
    rw [e]
theorem cesL_inj : ∀ {cs ds : List CellB}, cesL cs = cesL ds → cs = ds
  | [], [], _ => rfl
  | [], _ :: _, h => by simp [cesL] at h
  | _ :: _, [], h => by simp [cesL] at h
  | a :: r, b :: s, h => by
    unfold cesL at h
    rw [List.map_cons, List.map_cons] at h
    injection h with h1 h2
    rw [ceL_inj h1, cesL_inj (cs := r) (ds := s) h2]

theorem rdK_len {l : List UInt8} {kind n : Int} (h : (rdK l kind n 0).2.2 = 0) : (rdK l kind n 0).1.length ≤ 1024 := by
  obtain ⟨_, _, _, _, h5, h6⟩ := rdK_enc (Nat.zero_le _) h
  omega
theorem told_zero {l : List UInt8} {k x : Nat} (h : told l k x = 0) : x = 0 ∧ l.length ≤ k := by
  unfold told at h
  by_cases hx : x = 0
  · rw [if_pos hx] at h
    by_cases hk : k < l.length
    · rw [if_pos hk] at h; cases h
    · exact ⟨hx, by omega⟩
  · rw [if_neg hx] at h; exact absurd h hx
theorem rdC9_len (l : List UInt8) (kind n : Int) : (rdC9 l kind n).length ≤ 1024 := by
  unfold rdC9
  split
  · rename_i h
    exact rdK_len (told_zero (show told l (rdK l kind n 0).2.1 (rdK l kind n 0).2.2 = 0 from h)).1
  · simp

set_option maxHeartbeats 8000000 in
theorem columnReads_walk (b : Value) (l : List UInt8) (kind n : Int) (w : World) (hR : Rd w b l) (hk : -9223372036854775808 ≤ kind ∧ kind ≤ 9223372036854775807) (hn : -9223372036854775808 ≤ n ∧ n ≤ 9223372036854775807) (hT : Tabs w) :
    Calls Tryd.prog 4 #[b, .int .i64 kind, .int .i64 n] w fun e w' => e = .returned (.bool true) ∧ Below w.heap.size w w' := by
  have hrl := hR.len
  have HR := Lib.hid hR
  have HT := Lib.hid hT
  have hrs := hR.small
  clear hR hT hk hn
  go_enter Tryd.func4, Tryd.ntmps4
  go_wp2_with fail
  refine (law09_alive w HT.out).mono ?_
  rintro e w1 ⟨rfl, hb⟩
  have HB := Lib.hid hb
  clear hb
  by_cases hgo : l.length ≤ 3000
  · have d1 : decide ((3000 : Int) < (l.length : Int)) = false := decide_eq_false (by omega)
    go_wp2_with fail
    refine (column_Read kind n b l w1 (HR.out.later HB.out (Nat.le_refl _)) (HT.out.later HB.out)).mono ?_
    rintro e w2 ⟨hb, tv, cs, rfl, hO, hC, hcs⟩
    have HB2 := Lib.hid (HB.out.trans (hb.mono HB.out.size))
    have HO2 := Lib.hid hO
    have HC2 := Lib.hid hcs
    clear hb hO hC hcs HB
    go_wp2_with fail
    refine (ref_Read09 kind n b l w2 (HR.out.later HB2.out (Nat.le_refl _))).mono ?_
    rintro e w3 ⟨hb, uv, ds, rfl, hO, hC, hds⟩
    have HB3 := Lib.hid (HB2.out.trans (hb.mono HB2.out.size))
    have hlen := rdC9_len l kind n
    have hcl : cs.length ≤ 1024 := by rw [← cesL_length, HC2.out]; exact hlen
    have hdl : ds.length ≤ 1024 := by rw [← cesL_length, hds]; exact hlen
    have HSm := Lib.hid (ref_Same06 tv uv cs ds w3 ((HO2.out.later hb (Nat.le_refl _)).rd (by omega)) (hO.rd (by omega)))
    have heq : cs = ds := cesL_inj (by rw [HC2.out, hds])
    rw [decide_eq_true heq] at HSm
    generalize (rdK l kind n 0).2.1 = kk at *
    generalize rdE9 l kind n = y at *
    clear hb hO hC hds heq hlen hcl hdl HO2 HB2
    go_wp2_with fail
    refine HSm.out.mono ?_
    rintro e w4 ⟨rfl, hb⟩
    have HB4 := Lib.hid (HB3.out.trans (hb.mono HB3.out.size))
    clear hb HB3 HSm
    go_wp2
    go_ret
    exact ⟨by simp, HB4.out⟩
  · have d1 : decide ((3000 : Int) < (l.length : Int)) = true := decide_eq_true (by omega)
    go_wp2_with fail
    refine (law09_alive w1 (HT.out.later HB.out)).mono ?_
    rintro e w2 ⟨rfl, hb⟩
    have HB2 := Lib.hid (HB.out.trans (hb.mono HB.out.size))
    clear hb HB
    go_wp2
    go_ret
    exact ⟨rfl, HB2.out⟩

end Go.Proofs.YtccclfpngdjmjaaDoor
