/-
  ColumnOne: the law's own walk.
-/
import Derived.Test.YtccclfpngdjmjaaDoorColumnReads
set_option linter.unusedVariables false
set_option linter.unusedSimpArgs false
set_option maxRecDepth 1000000
namespace Go.Proofs.YtccclfpngdjmjaaDoor
open Go.RowKit Go.Shelf

theorem sumT_fit {kind : Int} : ∀ {l : List Ce}, (∀ c ∈ l, Fit kind c) → sumT l ≤ 256 * l.length
  | [], _ => by simp [sumT]
  | c :: r, hl => by
    have h1 := sumT_fit (l := r) (fun x hx => hl x (by simp [hx]))
    have h2 := hl c (by simp)
    have h3 : c.2.length ≤ 256 := by
      by_cases ht : kind = 3 ∨ kind = 4
      · exact (h2.text ht).2.1
      · rw [(h2.num ht).1]; simp
    rw [sumT, List.length_cons]; omega
theorem fit_wrE {kind : Int} {cs : List Ce} (hk : 0 ≤ kind ∧ kind ≤ 5) (h : ∀ c ∈ cs, Fit kind c) : wrE kind cs = 0 := by
  unfold wrE
  rw [if_neg (by omega)]
  exact fit_errK h
/-- Cells that are read of bytes may be, and have those bytes. -/
theorem read_back {l : List UInt8} {kind n : Int} (h : rdE9 l kind n = 0) :
    (rdK l kind n 0).2.1 = l.length ∧ wrC kind (rdK l kind n 0).1 = l ∧ wrE kind (rdK l kind n 0).1 = 0 ∧ (((rdK l kind n 0).1.length : Nat) : Int) = n ∧ 10 * (rdK l kind n 0).1.length + sumT (rdK l kind n 0).1 ≤ 1000000 := by
  obtain ⟨hx, hp⟩ := told_zero (show told l (rdK l kind n 0).2.1 (rdK l kind n 0).2.2 = 0 from h)
  obtain ⟨h1, h2, h3, h4, h5, h6⟩ := rdK_enc (Nat.zero_le _) hx
  have e : (rdK l kind n 0).2.1 = l.length := by omega
  rw [e, List.take_length, List.take_zero, List.nil_append] at h1
  have := sumT_fit h4
  exact ⟨e, h1.symm, fit_wrE h3 h4, h5, by omega⟩

set_option maxHeartbeats 8000000 in
theorem columnOne_walk (b : Value) (l : List UInt8) (kind n : Int) (w : World) (hR : Rd w b l) (hk : -9223372036854775808 ≤ kind ∧ kind ≤ 9223372036854775807) (hn : -9223372036854775808 ≤ n ∧ n ≤ 9223372036854775807) (hT : Tabs w) :
    Calls Tryd.prog 7 #[b, .int .i64 kind, .int .i64 n] w fun e w' => e = .returned (.bool true) ∧ Below w.heap.size w w' := by
  have hrl := hR.len
  have HR := Lib.hid hR
  have HT := Lib.hid hT
  have hrs := hR.small
  clear hR hT hk hn
  go_enter Tryd.func7, Tryd.ntmps7
  go_wp2_with fail
  refine (law09_alive w HT.out).mono ?_
  rintro e w1 ⟨rfl, hb⟩
  have HB := Lib.hid hb
  clear hb
  by_cases hgo : l.length ≤ 3000
  · have d1 : decide ((3000 : Int) < (l.length : Int)) = false := decide_eq_false (by omega)
    go_wp2_with fail
    refine (column_Read kind n b l w1 (HR.out.later HB.out (Nat.le_refl _)) (HT.out.later HB.out)).mono ?_
    rintro e w2 ⟨hb, tv, cs, rfl, hO, hC, hcs⟩
    have HB2 := Lib.hid (HB.out.trans (hb.mono HB.out.size))
    by_cases hy : rdE9 l kind n = 0
    · obtain ⟨r1, r2, r3, r4, r5⟩ := read_back hy
      unfold rdC9 at hcs
      rw [if_pos hy] at hcs
      rw [hy, r1]
      rw [← hcs] at r2 r3 r4 r5
      rw [cesL_length] at r4 r5
      have hcl : cs.length ≤ 1000000 := by omega
      have hrd := hO.rd (by omega)
      have hlen := hrd.len
      rw [r4] at hlen
      have HRd := Lib.hid hrd
      have HC := Lib.hid hC
      have HR2 := Lib.hid r2
      have HR3 := Lib.hid r3
      have HR5 := Lib.hid r5
      clear hb hO hC hcs hy HB r1 r2 r3 r4 r5 hrd hcl
      go_wp2_with fail
      refine (column_Write kind tv cs w2 HRd.out HC.out (HT.out.later HB2.out) (fun _ => HR5.out)).mono ?_
      rintro e w3 ⟨cv, rfl, hO, hb⟩
      have HB3 := Lib.hid (HB2.out.trans (hb.mono HB2.out.size))
      rw [HR3.out]
      rw [HR3.out, if_pos rfl, HR2.out] at hO
      have hs1 := (hO.rd hrs).str
      have hs2 := (HR.out.later HB3.out (Nat.le_refl _)).str
      clear hb hO HB2 HRd
      go_wp2
      go_ret
      exact ⟨by simp, HB3.out⟩
    · have hp := rdK_place (l := l) (kind := kind) (n := n) (Nat.zero_le l.length)
      unfold rdC9 at hcs
      rw [if_neg hy] at hcs
      have hl0 : cs.length = 0 := by rw [← cesL_length, hcs]; rfl
      have hlen := (hO.rd (by omega)).len
      rw [hl0] at hlen
      have hlen : ∀ u, (Builtin.len_ #[22] 3 #[tv]).run Tryd.prog u = .ok (.int .i64 0) u := hlen
      generalize (rdK l kind n 0).2.1 = kk at *
      generalize rdE9 l kind n = y at *
      have hyb : ((y : Int) != 0) = true := by rw [bne_iff_ne]; omega
      have d3 : decide ((kk : Int) ≥ 0) = true := decide_eq_true (by omega)
      have d4 : decide ((kk : Int) ≤ (l.length : Int)) = true := decide_eq_true (by omega)
      clear hb hO hC hcs hy HB hl0
      go_wp2
      go_ret
      exact ⟨by simp, HB2.out⟩
  · have d1 : decide ((3000 : Int) < (l.length : Int)) = true := decide_eq_true (by omega)
    go_wp2_with fail
    refine (law09_alive w1 (HT.out.later HB.out)).mono ?_
    rintro e w2 ⟨rfl, hb⟩
    have HB2 := Lib.hid (HB.out.trans (hb.mono HB.out.size))
    clear hb HB
    go_wp2
    go_ret
    exact ⟨rfl, HB2.out⟩

end Go.Proofs.YtccclfpngdjmjaaDoor
