/-
  The library's strconv, as package cell calls it: numbers written at base 10, and truth values.
-/
import Derived.Test.YtkljkpffpdpphaaGreatDoorShelf2
import Derived.Test.YtkljkpffpdpphaaGreatDoorCellB
import Derived.Test.YtkljkpffpdpphaaGreatDoorGHex
import Derived.Lib.AppendIntMem
import Derived.Lib.SmallJoins
set_option linter.unusedVariables false
set_option linter.unusedSimpArgs false
set_option maxRecDepth 1000000
namespace Go.Proofs.YtkljkpffpdpphaaGreatDoor
open Go.RowKit Go.Shelf Go.Sort

/-- The powers of ten lie as the library's initialiser lays them. -/
def Pow (w : World) : Prop := Lib.TabIs Tryz.prog w "internal/strconv.uint64pow10" .u64 Lib.pow10Tab
theorem Pow.later {w w' : World} (h : Pow w) (hb : Below w.heap.size w w') : Pow w' :=
  Joins.var_stays (show Tryz.prog.globalNamed "internal/strconv.uint64pow10" = some 4 by kernel_rfl) h hb (Nat.le_refl _)

theorem below_grow (w : World) (k : Nat) (os : Array Obj) : Below w.heap.size w (grow (w.drewN k) os) := by
  refine ⟨rfl, rfl, rfl, ?_, ?_⟩
  · show w.heap.size ≤ (w.heap ++ os).size
    rw [Array.size_append]; omega
  · intro b hb
    show (w.heap ++ os)[b]? = w.heap[b]?
    rw [Array.getElem?_append_left hb]

theorem dec_eq (u : Nat) : dec u = Lib.decDigits u := by
  induction u using Nat.strongRecOn with
  | _ u ih =>
    by_cases h : u < 10
    · rw [dec_lo h, Lib.decDigits, dif_pos h]
    · rw [dec_hi h, Lib.decDigits, dif_neg h, ih (u / 10) (by omega)]
theorem sdec_eq (x : Int) : sdec x = Lib.itoa x := by
  unfold sdec Lib.itoa
  by_cases h : x < 0
  · rw [if_pos h, if_pos h, dec_eq, show (-x).toNat = x.natAbs by omega]
  · rw [if_neg h, if_neg h, dec_eq]

theorem lib_FormatInt (x : Int) (h0 : -9223372036854775808 ≤ x) (h1 : x ≤ 9223372036854775807) (w : World) (hP : Pow w) :
    Calls Tryz.prog 76 #[.int .i64 x, .int .i64 10] w fun e w' => e = .returned (.string ⟨(sdec x).toArray⟩) ∧ Below w.heap.size w w' := by
  have c : Calls Tryz.prog 76 #[.int .i64 x, .int .i64 10] w _ := Any.strconv_FormatInt_10 Tryz.laysFmtInt x h0 h1 w hP
  rw [← sdec_eq] at c
  refine c.mono fun e w' ⟨he, k, os, hw⟩ => ⟨he, ?_⟩
  rw [hw]; exact below_grow w k os

theorem lib_FormatBool (b : Bool) (w : World) :
    Calls Tryz.prog 77 #[.bool b] w fun e w' => e = .returned (.string ⟨(if b then [116, 114, 117, 101] else [102, 97, 108, 115, 101] : List UInt8).toArray⟩) ∧ w' = w := by
  have c : Calls Tryz.prog 77 #[.bool b] w _ := Any.strconv_FormatBool Tryz.laysFmtBool b w
  have e : (Lib.formatBool b) = (if b then [116, 114, 117, 101] else [102, 97, 108, 115, 101]) := by cases b <;> decide
  rw [e] at c
  exact c

theorem lib_small (i : Nat) (h : i < 100) (w : World) :
    Calls Tryz.prog 114 #[.int .i64 i] w fun e w' => e = .returned (.string ⟨(dec i).toArray⟩) ∧ w' = w := by
  rw [dec_eq]
  exact Any.internal_strconv_small Tryz.laysSmall i h w

set_option maxHeartbeats 4000000 in
theorem intl_FormatUint (u : Nat) (hu64 : u < 18446744073709551616) (w : World) (hP : Pow w) :
    Calls Tryz.prog 97 #[.int .u64 (u : Int), .int .i64 10] w fun e w' => e = .returned (.string ⟨(dec u).toArray⟩) ∧ Below w.heap.size w w' := by
  by_cases hs : u < 100
  · have hd : decide ((u : Int) < 100) = true := decide_eq_true (by omega)
    go_enter Tryz.func97, Tryz.ntmps97
    go_wp2_with fail
    refine (lib_small u hs _).mono ?_
    rintro e w1 ⟨rfl, rfl⟩
    go_wp2
    go_ret
    exact ⟨rfl, Below.refl _ _⟩
  · have hd : decide ((u : Int) < 100) = false := decide_eq_false (by omega)
    have hu1 : 1 ≤ u := by omega
    have hnd20 : Lib.nDigits u ≤ 20 := by have := Lib.numDigits_eq u hu1 hu64; split at this <;> omega
    have hal : Tryz.prog.arrayLen 161 = 24 := by simp [Program.arrayLen, Tryz.underlying161]
    have hsl1 : ∀ W, (Instr.sliceAt 161 (.pointer (some ⟨w.heap.size, 0, none⟩)) none (some (.int .i64 (Lib.nDigits u : Int))) none).run Tryz.prog W = .ok (.slice (some ⟨w.heap.size, 0, none⟩) (Lib.nDigits u) 24) W := fun W => by
      rw [run_sliceAt_array_h W 161 ⟨w.heap.size, 0, none⟩ (by simp [Program.arrayLen, Program.elem, Tryz.underlying161]) .i64 (Lib.nDigits u : Int) (by omega) (by rw [hal]; omega)]
      go_simp
      try omega
    have hH0 := Lib.holds_zero0 w 161 (Lib.nDigits u) (by omega)
    have hfmt : Calls Tryz.prog 116 _ _ _ := Any.internal_strconv_formatBase10 Tryz.laysFB10 w.heap.size 0 24 u (Array.replicate (Lib.nDigits u) 0) (w.alloc (.cells Lib.zeros24 161)) hH0 (by rw [Array.size_replicate]; exact Lib.lt_pow_nDigits u) hu64 (by rw [Array.size_replicate]; omega)
    rw [Array.size_replicate] at hfmt
    have hnum : Calls Tryz.prog 115 #[.int .u64 (u : Int)] (w.alloc (.cells Lib.zeros24 161)) _ := Any.internal_strconv_numDigits Tryz.laysNumDigits u hu1 hu64 _ (Lib.tabIs_alloc hP _)
    have HH0 := Lib.hid hH0
    rw [dec_eq]
    clear hH0 hal
    go_enter Tryz.func97, Tryz.ntmps97
    go_wp2_with fail
    refine hnum.mono ?_
    rintro e w1 ⟨rfl, rfl⟩
    go_wp2_with fail
    refine hfmt.mono ?_
    rintro e w2 ⟨rfl, k, v', dk, rfl, hF⟩
    have hcv : (convert 91 9 (.slice (some ⟨w.heap.size, 0, none⟩) (Lib.nDigits u) 24)).run Tryz.prog ((putRow (fun (b : UInt8) => Value.int .u8 (b.toNat : Int)) (w.alloc (.cells Lib.zeros24 161)) w.heap.size 0 dk).drewN k) = .ok (.string ⟨(Lib.decDigits u).toArray⟩) ((putRow (fun (b : UInt8) => Value.int .u8 (b.toNat : Int)) (w.alloc (.cells Lib.zeros24 161)) w.heap.size 0 dk).drewN k) := by
      have h := run_convert_bytes_back (P := Tryz.prog) ((putRow (fun (b : UInt8) => Value.int .u8 (b.toNat : Int)) (w.alloc (.cells Lib.zeros24 161)) w.heap.size 0 dk).drewN k) 91 9 5 ⟨w.heap.size, 0, none⟩ 24 (Lib.decDigits u) Tryz.underlying91 Tryz.underlying5 Tryz.underlying9 (fun j hj => by
        rw [Lib.row_is_numeral hF j hj, Lib.add_plain, World.cell?_drewN]
        exact cell?_putRow (fun (b : UInt8) => Value.int .u8 (b.toNat : Int)) _ w.heap.size 0 _ dk HH0.out (by rw [hF.size, Array.size_replicate]) j (by rw [hF.size]; rw [Lib.decDigits_length] at hj; exact hj))
      rw [Lib.decDigits_length] at h
      exact h
    go_wp2
    go_ret
    obtain ⟨os, eo⟩ := Lib.fin_at w (.cells Lib.zeros24 161) dk k 0
    refine ⟨rfl, ?_⟩
    rw [eo]; exact below_grow w k os

theorem lib_FormatUint (u : Nat) (hu64 : u < 18446744073709551616) (w : World) (hP : Pow w) :
    Calls Tryz.prog 78 #[.int .u64 (u : Int), .int .i64 10] w fun e w' => e = .returned (.string ⟨(dec u).toArray⟩) ∧ Below w.heap.size w w' := by
  go_enter Tryz.func78, Tryz.ntmps78
  go_wp2_with fail
  refine (intl_FormatUint u hu64 _ hP).mono ?_
  rintro e w1 ⟨rfl, hb⟩
  go_wp2
  go_ret
  exact ⟨rfl, hb⟩

end Go.Proofs.YtkljkpffpdpphaaGreatDoor
