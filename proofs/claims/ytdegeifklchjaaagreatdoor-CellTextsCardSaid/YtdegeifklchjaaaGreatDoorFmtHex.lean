/-
  The library's FormatUint at base 16.
-/
import Derived.Test.YtdegeifklchjaaaGreatDoorStrconv
import Derived.Test.YtdegeifklchjaaaGreatDoorCellTxt
set_option linter.unusedVariables false
set_option linter.unusedSimpArgs false
set_option maxRecDepth 1000000
namespace Go.Proofs.YtdegeifklchjaaaGreatDoor
open Go.RowKit Go.Shelf

/-- A number's digits at base 16. -/
def hx (x : Nat) : List UInt8 := if x < 16 then [dig x] else hx (x / 16) ++ [dig (x % 16)]
  termination_by x
  decreasing_by omega
theorem hx_lo {x : Nat} (h : x < 16) : hx x = [dig x] := by rw [hx, if_pos h]
theorem hx_hi {x : Nat} (h : ¬ x < 16) : hx x = hx (x / 16) ++ [dig (x % 16)] := by rw [hx, if_neg h]

/-- The one place of the library's table that is read. -/
def Deb (w : World) : Prop := w.cell? ⟨8, 15, none⟩ = some (.int .u8 4)
theorem Deb.later {w w' : World} (h : Deb w) (hb : Below w.heap.size w w') : Deb w' := by
  have hlt : 8 < w.heap.size := by
    rcases Nat.lt_or_ge 8 w.heap.size with h' | h'
    · exact h'
    · unfold Deb at h; simp [World.cell?, Array.getElem?_eq_none h'] at h
  exact (World.cell?_of_block (hb.block _ hlt)).trans h

theorem lib_isPow (w : World) : Calls Tryz.prog 86 #[.int .i64 16] w fun e w' => e = .returned (.bool true) ∧ w' = w := by
  have h : bits .and .i64 16 15 = 0 := by decide
  go_enter Tryz.func86, Tryz.ntmps86
  go_wp2
  go_ret
  exact ⟨rfl, rfl⟩

theorem lib_TZ64 (w : World) (hD : Deb w) : Calls Tryz.prog 100 #[.int .u64 16] w fun e w' => e = .returned (.int .i64 4) ∧ w' = w := by
  unfold Deb at hD
  have h : bits .and .u64 16 18446744073709551600 = 16 := by decide
  have h1 : IntKind.u64.wrap (-16) = 18446744073709551600 := by decide
  have h3 : IntKind.u64.wrap 4573923408821661840 = 4573923408821661840 := by decide
  have hix : ∀ u, (Instr.indexAt 143 (.pointer (some ⟨8, 0, none⟩)) (.int .u64 15)).run Tryz.prog u = .ok (.pointer (some ⟨8, 15, none⟩)) u := fun u => by kernel_rfl
  go_enter Tryz.func100, Tryz.ntmps100
  go_wp2
  go_ret
  exact ⟨rfl, rfl⟩

theorem lib_TZ (w : World) (hD : Deb w) : Calls Tryz.prog 87 #[.int .u64 16] w fun e w' => e = .returned (.int .i64 4) ∧ w' = w := by
  go_enter Tryz.func87, Tryz.ntmps87
  go_wp2_with fail
  refine (lib_TZ64 w hD).mono ?_
  rintro e w1 ⟨rfl, rfl⟩
  go_wp2
  go_ret
  exact ⟨rfl, rfl⟩

def digs36 : List UInt8 := [48, 49, 50, 51, 52, 53, 54, 55, 56, 57, 97, 98, 99, 100, 101, 102, 103, 104, 105, 106, 107, 108, 109, 110, 111, 112, 113, 114, 115, 116, 117, 118, 119, 120, 121, 122]
theorem digs36_at {r : Nat} (h : r < 16) : at8 digs36 r = ((dig r).toNat : Int) := by
  have : ∀ r : Fin 16, at8 digs36 r.val = ((dig r.val).toNat : Int) := by decide
  exact this ⟨r, h⟩
theorem digs36_idx (r : Nat) (h : r < 16) : ∀ u, (Instr.index 9 (.string ({ data := #[48, 49, 50, 51, 52, 53, 54, 55, 56, 57, 97, 98, 99, 100, 101, 102, 103, 104, 105, 106, 107, 108, 109, 110, 111, 112, 113, 114, 115, 116, 117, 118, 119, 120, 121, 122] } : ByteArray)) (.int .u64 (r : Int))).run Tryz.prog u = .ok (.int .u8 ((dig r).toNat : Int)) u := by
  intro u
  have hd : RdS ({ data := #[48, 49, 50, 51, 52, 53, 54, 55, 56, 57, 97, 98, 99, 100, 101, 102, 103, 104, 105, 106, 107, 108, 109, 110, 111, 112, 113, 114, 115, 116, 117, 118, 119, 120, 121, 122] } : ByteArray) digs36 := ⟨rfl, by simp [digs36]⟩
  have := hd.idxK .u64 r (by simp [digs36]; omega) u
  rw [digs36_at h] at this
  exact this

theorem set_back (pre : List Value) (suf : List UInt8) (i : Nat) (d : UInt8) (hi : pre.length = i + 1) :
    ((pre ++ cellsB suf).toArray).setIfInBounds i (.int .u8 (d.toNat : Int)) = (pre.take i ++ cellsB (d :: suf)).toArray := by
  rw [List.setIfInBounds_toArray, List.set_append, if_pos (by omega), List.set_eq_take_append_cons_drop, if_pos (by omega)]
  congr 1
  simp [cellsB, cellB, hi]
  
/-- The buffer: a block of 65 places, the last ones are the digits that are there. -/
def Buf (w : World) (g i : Nat) (suf : List UInt8) : Prop := suf.length + i = 65 ∧ ∃ pre : List Value, pre.length = i ∧ w.heap[g]? = some (.cells (pre ++ cellsB suf).toArray 127 (0, 0))
theorem Buf.old {w : World} {g i : Nat} {suf : List UInt8} (h : Buf w g (i + 1) suf) : ∃ v, w.cell? ⟨g, i, none⟩ = some v := by
  obtain ⟨_, pre, hp, hr⟩ := h
  rw [cell_of_row _ _ _ _ _ _ hr]
  exact ⟨_, Array.getElem?_eq_getElem (by simp; omega)⟩
theorem Buf.free {w : World} {g i : Nat} {suf : List UInt8} (h : Buf w g i suf) (k : Nat) : w.frozen? ⟨g, k, none⟩ = false := by
  obtain ⟨_, pre, hp, hr⟩ := h
  exact frozen_of_row _ _ _ _ _ hr
theorem Buf.put {w : World} {g i : Nat} {suf : List UInt8} (h : Buf w g (i + 1) suf) (d : UInt8) : Buf (w.setCell ⟨g, i, none⟩ (.int .u8 (d.toNat : Int))) g i (d :: suf) := by
  obtain ⟨hl, pre, hp, hr⟩ := h
  refine ⟨by simp; omega, pre.take i, by simp; omega, ?_⟩
  have := block_setCell (k := i) hr (.int .u8 (d.toNat : Int))
  rw [set_back pre suf i d hp] at this
  exact this
theorem Buf.text {w : World} {g i : Nat} {suf : List UInt8} (h : Buf w g i suf) : (convert 63 9 (.slice (some ⟨g, i, none⟩) (65 - i) (65 - i))).run Tryz.prog w = .ok (.string ⟨suf.toArray⟩) w := by
  obtain ⟨hl, pre, hp, hr⟩ := h
  have h := run_convert_bytes_back (P := Tryz.prog) w 63 9 5 ⟨g, i, none⟩ (65 - i) suf Tryz.underlying63 Tryz.underlying5 Tryz.underlying9 (fun j hj => by
    rw [Lib.add_plain, cell_of_row _ _ _ _ _ _ hr]
    simp [cellsB, cellB, hp, hj])
  rw [show suf.length = 65 - i from by omega] at h
  exact h

theorem buf_zero (w : World) : Buf (w.alloc (.cells Tryz.zeroCells127 127)) w.heap.size 65 [] := by
  refine ⟨rfl, Tryz.zeroCells127.toList, by kernel_rfl, ?_⟩
  have := heap_alloc_new w (.cells Tryz.zeroCells127 127 (0, 0))
  simpa [cellsB] using this

theorem buf_idx (g k : Nat) (hk : k < 65) (z : Int) (hz : z = (k : Int)) : ∀ u, (Instr.indexAt 127 (.pointer (some ⟨g, 0, none⟩)) (.int .i64 z)).run Tryz.prog u = .ok (.pointer (some ⟨g, k, none⟩)) u := by
  intro u
  subst hz
  have ha : Tryz.prog.arrayLen 127 = 65 := by simp [Program.arrayLen, Tryz.underlying127]
  have he : Tryz.prog.elem 127 = 5 := by simp [Program.elem, Tryz.underlying127]
  have h := run_indexAt_array (P := Tryz.prog) (w := u) 127 ⟨g, 0, none⟩ .i64 (k : Int) (by rw [ha, he]; exact Tryz.underlying127)
  rw [h, ha, if_pos ⟨by omega, by omega⟩, he]
  simp [go_sem, Result.andThen, Addr.add]
  try omega

theorem buf_slice (g k : Nat) (hk : k < 65) (z : Int) (hz : z = (k : Int)) : ∀ u, (Instr.sliceAt 127 (.pointer (some ⟨g, 0, none⟩)) (some (.int .i64 z)) none none).run Tryz.prog u = .ok (.slice (some ⟨g, k, none⟩) (65 - k) (65 - k)) u := by
  intro u
  subst hz
  have ha : Tryz.prog.arrayLen 127 = 65 := by simp [Program.arrayLen, Tryz.underlying127]
  rw [run_sliceAt_array_l u 127 ⟨g, 0, none⟩ (by simp [Program.arrayLen, Program.elem, Tryz.underlying127]) .i64 (k : Int) (by omega) (by rw [ha]; omega)]
  rw [ha]
  go_simp
  try omega

set_option maxHeartbeats 4000000 in
theorem lib_formatBits (x : Nat) (hx64 : x < 18446744073709551616) (w : World) (hD : Deb w) :
    Calls Tryz.prog 69 #[.slice none 0 0, .int .u64 (x : Int), .int .i64 16, .bool false, .bool false] w fun e w' => e = .returned (.tuple #[.slice none 0 0, .string ⟨(hx x).toArray⟩]) ∧ Below w.heap.size w w' := by
  have hB0 := buf_zero w
  have hb0 : Below w.heap.size w (w.alloc (.cells Tryz.zeroCells127 127)) := (Below.refl _ _).alloc (Nat.le_refl _) _
  have hDD := hD.later hb0
  clear hD
  go_enter Tryz.func69, Tryz.ntmps69
  go_wp2_with fail
  refine (lib_isPow _).mono ?_
  rintro e w1 ⟨rfl, rfl⟩
  go_wp2_with fail
  refine (lib_TZ _ hDD).mono ?_
  rintro e w2 ⟨rfl, rfl⟩
  clear hDD
  go_wp2_with fail
  go_loopw [1, 13] (fun qq ii wr => ∃ (q k : Nat) (suf : List UInt8), qq = .int .u64 (q : Int) ∧ ii = .int .i64 ((k : Int) + 1) ∧ 49 ≤ k ∧ k ≤ 64 ∧ q < 18446744073709551616 ∧ Hid (q < 16 ^ (k - 48)) ∧ Hid (hx x = hx q ++ suf) ∧ Hid (Buf wr w.heap.size (k + 1) suf) ∧ Hid (Below w.heap.size w wr)) (fun qq _ _ => (intOf qq).toNat)
  case atStart => exact ⟨x, 64, [], rfl, rfl, by omega, by omega, hx64, Lib.hid (by omega), Lib.hid (by simp), Lib.hid hB0, Lib.hid hb0⟩
  case round =>
    obtain ⟨q, k, suf, rfl, rfl, hk1, hk2, hq64, HQ, HX, HBF, HB⟩ := hrel
    clear hB0 hb0
    by_cases hq : 16 ≤ q
    · obtain ⟨j, rfl⟩ : ∃ j, k = j + 1 := ⟨k - 1, by omega⟩
      have hj : 49 ≤ j := by
        rcases Nat.lt_or_ge 49 (j + 1) with h | h
        · omega
        · have : j + 1 = 49 := by omega
          have hq2 := HQ.out
          rw [this] at hq2
          omega
      obtain ⟨old, hold⟩ := HBF.out.old
      have hfr := HBF.out.free (j + 1)
      have hix := buf_idx w.heap.size (j + 1) (by omega) ((j : Int) + 1) (by omega)
      have hand : bits .and .u64 (q : Int) 15 = ((q % 16 : Nat) : Int) := by
        have h := u64_and_nat q 15 hq64 (by omega)
        rw [show ((15 : Nat) : Int) = 15 from rfl, show q &&& 15 = q % 16 from Nat.and_two_pow_sub_one_eq_mod q 4] at h
        exact h
      obtain ⟨r, hr⟩ : ∃ r, q % 16 = r := ⟨_, rfl⟩
      have hr16 : r < 16 := by omega
      have hxs := hx_hi (x := q) (by omega)
      rw [hr] at hand hxs
      have hdi := digs36_idx r hr16
      obtain ⟨p, hp⟩ : ∃ p, q / 16 = p := ⟨_, rfl⟩
      have hpz : (q : Int) / 16 = (p : Int) := by omega
      have hp64 : p < 18446744073709551616 := by omega
      have HPQ := Lib.hid (show p < 16 ^ (j - 48) from by
        have h1 := HQ.out
        rw [show j + 1 - 48 = (j - 48) + 1 from by omega, Nat.pow_succ] at h1
        rw [← hp]; exact Nat.div_lt_of_lt_mul (by rw [Nat.mul_comm]; exact h1))
      rw [hp] at hxs
      have HXS := Lib.hid hxs
      have HLT := Lib.hid (show p < q from by omega)
      clear hxs hr hp
      go_wp2
      go_roundw
      case rel =>
        refine ⟨p, j, dig r :: suf, rfl, rfl, hj, by omega, hp64, HPQ, ?_, Lib.hid (HBF.out.put (dig r)), ?_⟩
        · refine Lib.hid ?_
          rw [HX.out, HXS.out, List.append_assoc]
          rfl
        · exact Lib.hid (HB.out.setCell (Nat.le_refl _) _)
      case measure => have := HLT.out; simp [intOf]; omega
    · obtain ⟨old, hold⟩ := HBF.out.old
      have hfr := HBF.out.free k
      have hix := buf_idx w.heap.size k (by omega) (k : Int) rfl
      have hdi := digs36_idx q (by omega)
      have hsl := buf_slice w.heap.size k (by omega) (k : Int) rfl
      have hnew := HBF.out.put (dig q)
      have htx := hnew.text
      have HXS := Lib.hid (show hx x = dig q :: suf from by rw [HX.out, hx_lo (by omega)]; rfl)
      have HBN := Lib.hid (HB.out.setCell (p := ⟨w.heap.size, k, none⟩) (Nat.le_refl _) (.int .u8 ((dig q).toNat : Int)))
      clear hnew HQ HX
      go_wp2
      go_ret2
      exact ⟨by rw [HXS.out]; rfl, HBN.out⟩

theorem intl_FormatHex (x : Nat) (hx64 : x < 18446744073709551616) (w : World) (hD : Deb w) :
    Calls Tryz.prog 49 #[.int .u64 (x : Int), .int .i64 16] w fun e w' => e = .returned (.string ⟨(hx x).toArray⟩) ∧ Below w.heap.size w w' := by
  go_enter Tryz.func49, Tryz.ntmps49
  go_wp2_with fail
  refine (lib_formatBits x hx64 _ hD).mono ?_
  rintro e w1 ⟨rfl, hb⟩
  go_wp2
  go_ret
  exact ⟨rfl, hb⟩

theorem lib_FormatHex (x : Nat) (hx64 : x < 18446744073709551616) (w : World) (hD : Deb w) :
    Calls Tryz.prog 37 #[.int .u64 (x : Int), .int .i64 16] w fun e w' => e = .returned (.string ⟨(hx x).toArray⟩) ∧ Below w.heap.size w w' := by
  go_enter Tryz.func37, Tryz.ntmps37
  go_wp2_with fail
  refine (intl_FormatHex x hx64 _ hD).mono ?_
  rintro e w1 ⟨rfl, hb⟩
  go_wp2
  go_ret
  exact ⟨rfl, hb⟩

end Go.Proofs.YtdegeifklchjaaaGreatDoor
