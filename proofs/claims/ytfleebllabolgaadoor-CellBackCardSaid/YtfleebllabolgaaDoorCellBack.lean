/-
  CellBack: Text and Read undo each other; whole numbers' cells stand as they do: the function.
-/
import Derived.Test.YtfleebllabolgaaDoorCellBackYY
import Derived.Test.YtfleebllabolgaaDoorCellBackYN
import Derived.Test.YtfleebllabolgaaDoorCellBackNY
import Derived.Test.YtfleebllabolgaaDoorCellBackNN
set_option linter.unusedVariables false
set_option linter.unusedSimpArgs false
set_option maxRecDepth 1000000
namespace Go.Proofs.YtfleebllabolgaaDoor
open Go.RowKit Go.Shelf

set_option maxHeartbeats 16000000 in
theorem cellBack_walk (kind : Int) (num : Nat) (s : ByteArray) (l : List UInt8) (x y : Int) (w : World) (hk : -9223372036854775808 ≤ kind ∧ kind ≤ 9223372036854775807) (hnum : num < 18446744073709551616) (hs : RdS s l) (hx : -9223372036854775808 ≤ x ∧ x ≤ 9223372036854775807) (hy : -9223372036854775808 ≤ y ∧ y ≤ 9223372036854775807) (hL : Lib4 w) :
    Calls Tryd.prog 6 #[.int .i64 kind, cellV num s, .agg #[.int .i64 x, .int .i64 y]] w fun e w' => e = .returned (.bool true) ∧ Below w.heap.size w w' := by
  by_cases hl : 1000 < l.length
  · obtain ⟨N0, N1, N2, N3⟩ := new2 w (.cells #[.int .u64 (num : Int), .string s] 24) (.cells #[.int .i64 x, .int .i64 y] 44)
    obtain ⟨w0, hw0⟩ : ∃ w0, w0 = (w.alloc (.cells #[.int .u64 (num : Int), .string s] 24)).alloc (.cells #[.int .i64 x, .int .i64 y] 44) := ⟨_, rfl⟩
    rw [← hw0] at N0 N1 N2 N3
    have HB := Lib.hid N3
    have q1 : CellAt w0 w.heap.size num s := N1
    have q2 := N2
    have c1 := q1.c0; have c2 := q1.c1
    have hlen := hs.len
    have hcv : ∀ n u, cellV n u = .agg #[.int .u64 (n : Int), .string u] := fun _ _ => rfl
    clear N0 N1 N2 N3
    obtain ⟨n1, hn1⟩ : ∃ n : Nat, x % 18446744073709551616 = n := ⟨(x % 18446744073709551616).toNat, by omega⟩
    obtain ⟨n2, hn2⟩ : ∃ n : Nat, y % 18446744073709551616 = n := ⟨(y % 18446744073709551616).toNat, by omega⟩
    have hb1 : n1 < 18446744073709551616 := by omega
    have hb2 : n2 < 18446744073709551616 := by omega
    have HW1 := Lib.hid (wrap_of8 hn1 hx.1 hx.2)
    have HW2 := Lib.hid (wrap_of8 hn2 hy.1 hy.2)
    have HN1 := Lib.hid hn1
    have HN2 := Lib.hid hn2
    clear hn1 hn2
    have hd : decide ((l.length : Int) > 1000) = true := decide_eq_true (by omega)
    clear hl
    go_enter Tryd.func6, Tryd.ntmps6
    go_wp2_with fail
    rw [← hw0]
    clear hw0

    go_wp2_with fail
    refine (law04_alive _ (hL.l3.tabs.later HB.out)).mono ?_
    rintro e w9 ⟨rfl, hb⟩
    replace HB := Lib.hid (HB.out.trans (hb.mono HB.out.size))
    clear hb
    go_wp2
    go_ret
    exact ⟨rfl, HB.out⟩
  · cases hrl : readV kind l with
    | mk o k0 =>
      by_cases hc : checkC kind num l = 0
      · cases o with
        | some yb => exact cellBack_YY kind num s l x y w hk hnum hs hx hy hL hl hc yb.1 yb.2 k0 hrl
        | none => exact cellBack_YN kind num s l x y w hk hnum hs hx hy hL hl hc k0 hrl
      · cases o with
        | some yb => exact cellBack_NY kind num s l x y w hk hnum hs hx hy hL hl hc yb.1 yb.2 k0 hrl
        | none => exact cellBack_NN kind num s l x y w hk hnum hs hx hy hL hl hc k0 hrl

theorem cellBack_walkT (kind : Int) (num : Nat) (s : ByteArray) (l : List UInt8) (x y : Int) (w : World) (hk : -9223372036854775808 ≤ kind ∧ kind ≤ 9223372036854775807) (hnum : num < 18446744073709551616) (hs : RdS s l) (hx : -9223372036854775808 ≤ x ∧ x ≤ 9223372036854775807) (hy : -9223372036854775808 ≤ y ∧ y ≤ 9223372036854775807) (hT : Tabs w) (hL : Lib4 w) :
    Calls Tryd.prog 6 #[.int .i64 kind, cellV num s, .agg #[.int .i64 x, .int .i64 y]] w fun e w' => e = .returned (.bool true) ∧ Below w.heap.size w w' := by
  exact cellBack_walk kind num s l x y w hk hnum hs hx hy hL
end Go.Proofs.YtfleebllabolgaaDoor
