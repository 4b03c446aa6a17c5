/-
  The library's FormatUint at base 16.
-/
import Derived.Test.YtkljkpffpdpphaaGreatDoorStrconv
import Derived.Test.YtkljkpffpdpphaaGreatDoorCellTxt
import Derived.Test.YtkljkpffpdpphaaGreatDoorCellAlive
import Derived.Lib.AtoiAll
import Derived.Shelf.Strconv.ToErrorRange
import Derived.Test.YtkljkpffpdpphaaGreatDoorShelf3
import Derived.Lib.ParseIntB
import Derived.Shelf.Strconv.ParseBool
set_option linter.unusedVariables false
set_option linter.unusedSimpArgs false
set_option maxRecDepth 1000000
namespace Go.Proofs.YtkljkpffpdpphaaGreatDoor
open Go.RowKit Go.Shelf

/-- A number's digits at base 16. -/
def hx (x : Nat) : List UInt8 := if x < 16 then [dig x] else hx (x / 16) ++ [dig (x % 16)]
  termination_by x
  decreasing_by omega
theorem hx_lo {x : Nat} (h : x < 16) : hx x = [dig x] := by rw [hx, if_pos h]
theorem hx_hi {x : Nat} (h : ¬ x < 16) : hx x = hx (x / 16) ++ [dig (x % 16)] := by rw [hx, if_neg h]

/-- The one place of the library's table that is read. -/
def Deb (w : World) : Prop := w.cell? ⟨8, 15, none⟩ = some (.int .u8 4)
theorem Deb.later {w w' : World} (h : Deb w) (hb : Below w.heap.size w w') : Deb w' := by
  have hlt : 8 < w.heap.size := by
    rcases Nat.lt_or_ge 8 w.heap.size with h' | h'
    · exact h'
    · unfold Deb at h; simp [World.cell?, Array.getElem?_eq_none h'] at h
  exact (World.cell?_of_block (hb.block _ hlt)).trans h

theorem lib_isPow (w : World) : Calls Tryz.prog 134 #[.int .i64 16] w fun e w' => e = .returned (.bool true) ∧ w' = w := by
  have h : bits .and .i64 16 15 = 0 := by decide
  go_enter Tryz.func134, Tryz.ntmps134
  go_wp2
  go_ret
  exact ⟨rfl, rfl⟩

theorem lib_TZ64 (w : World) (hD : Deb w) : Calls Tryz.prog 146 #[.int .u64 16] w fun e w' => e = .returned (.int .i64 4) ∧ w' = w := by
  unfold Deb at hD
  have h : bits .and .u64 16 18446744073709551600 = 16 := by decide
  have h1 : IntKind.u64.wrap (-16) = 18446744073709551600 := by decide
  have h3 : IntKind.u64.wrap 4573923408821661840 = 4573923408821661840 := by decide
  have hix : ∀ u, (Instr.indexAt 188 (.pointer (some ⟨8, 0, none⟩)) (.int .u64 15)).run Tryz.prog u = .ok (.pointer (some ⟨8, 15, none⟩)) u := fun u => by kernel_rfl
  go_enter Tryz.func146, Tryz.ntmps146
  go_wp2
  go_ret
  exact ⟨rfl, rfl⟩

theorem lib_TZ (w : World) (hD : Deb w) : Calls Tryz.prog 135 #[.int .u64 16] w fun e w' => e = .returned (.int .i64 4) ∧ w' = w := by
  go_enter Tryz.func135, Tryz.ntmps135
  go_wp2_with fail
  refine (lib_TZ64 w hD).mono ?_
  rintro e w1 ⟨rfl, rfl⟩
  go_wp2
  go_ret
  exact ⟨rfl, rfl⟩

def digs36 : List UInt8 := [48, 49, 50, 51, 52, 53, 54, 55, 56, 57, 97, 98, 99, 100, 101, 102, 103, 104, 105, 106, 107, 108, 109, 110, 111, 112, 113, 114, 115, 116, 117, 118, 119, 120, 121, 122]
theorem digs36_at {r : Nat} (h : r < 16) : at8 digs36 r = ((dig r).toNat : Int) := by
  have : ∀ r : Fin 16, at8 digs36 r.val = ((dig r.val).toNat : Int) := by decide
  exact this ⟨r, h⟩
theorem digs36_idx (r : Nat) (h : r < 16) : ∀ u, (Instr.index 9 (.string ({ data := #[48, 49, 50, 51, 52, 53, 54, 55, 56, 57, 97, 98, 99, 100, 101, 102, 103, 104, 105, 106, 107, 108, 109, 110, 111, 112, 113, 114, 115, 116, 117, 118, 119, 120, 121, 122] } : ByteArray)) (.int .u64 (r : Int))).run Tryz.prog u = .ok (.int .u8 ((dig r).toNat : Int)) u := by
  intro u
  have hd : RdS ({ data := #[48, 49, 50, 51, 52, 53, 54, 55, 56, 57, 97, 98, 99, 100, 101, 102, 103, 104, 105, 106, 107, 108, 109, 110, 111, 112, 113, 114, 115, 116, 117, 118, 119, 120, 121, 122] } : ByteArray) digs36 := ⟨rfl, by simp [digs36]⟩
  have := hd.idxK .u64 r (by simp [digs36]; omega) u
  rw [digs36_at h] at this
  exact this

theorem set_back (pre : List Value) (suf : List UInt8) (i : Nat) (d : UInt8) (hi : pre.length = i + 1) :
    ((pre ++ cellsB suf).toArray).setIfInBounds i (.int .u8 (d.toNat : Int)) = (pre.take i ++ cellsB (d :: suf)).toArray := by
  rw [List.setIfInBounds_toArray, List.set_append, if_pos (by omega), List.set_eq_take_append_cons_drop, if_pos (by omega)]
  congr 1
  simp [cellsB, cellB, hi]
  
/-- The buffer: a block of 65 places, the last ones are the digits that are there. -/
def Buf (w : World) (g i : Nat) (suf : List UInt8) : Prop := suf.length + i = 65 ∧ ∃ pre : List Value, pre.length = i ∧ w.heap[g]? = some (.cells (pre ++ cellsB suf).toArray 175 (0, 0))
theorem Buf.old {w : World} {g i : Nat} {suf : List UInt8} (h : Buf w g (i + 1) suf) : ∃ v, w.cell? ⟨g, i, none⟩ = some v := by
  obtain ⟨_, pre, hp, hr⟩ := h
  rw [cell_of_row _ _ _ _ _ _ hr]
  exact ⟨_, Array.getElem?_eq_getElem (by simp; omega)⟩
theorem Buf.free {w : World} {g i : Nat} {suf : List UInt8} (h : Buf w g i suf) (k : Nat) : w.frozen? ⟨g, k, none⟩ = false := by
  obtain ⟨_, pre, hp, hr⟩ := h
  exact frozen_of_row _ _ _ _ _ hr
theorem Buf.put {w : World} {g i : Nat} {suf : List UInt8} (h : Buf w g (i + 1) suf) (d : UInt8) : Buf (w.setCell ⟨g, i, none⟩ (.int .u8 (d.toNat : Int))) g i (d :: suf) := by
  obtain ⟨hl, pre, hp, hr⟩ := h
  refine ⟨by simp; omega, pre.take i, by simp; omega, ?_⟩
  have := block_setCell (k := i) hr (.int .u8 (d.toNat : Int))
  rw [set_back pre suf i d hp] at this
  exact this
theorem Buf.text {w : World} {g i : Nat} {suf : List UInt8} (h : Buf w g i suf) : (convert 91 9 (.slice (some ⟨g, i, none⟩) (65 - i) (65 - i))).run Tryz.prog w = .ok (.string ⟨suf.toArray⟩) w := by
  obtain ⟨hl, pre, hp, hr⟩ := h
  have h := run_convert_bytes_back (P := Tryz.prog) w 91 9 5 ⟨g, i, none⟩ (65 - i) suf Tryz.underlying91 Tryz.underlying5 Tryz.underlying9 (fun j hj => by
    rw [Lib.add_plain, cell_of_row _ _ _ _ _ _ hr]
    simp [cellsB, cellB, hp, hj])
  rw [show suf.length = 65 - i from by omega] at h
  exact h

theorem buf_zero (w : World) : Buf (w.alloc (.cells Tryz.zeroCells175 175)) w.heap.size 65 [] := by
  refine ⟨rfl, Tryz.zeroCells175.toList, by kernel_rfl, ?_⟩
  have := heap_alloc_new w (.cells Tryz.zeroCells175 175 (0, 0))
  simpa [cellsB] using this

theorem buf_idx (g k : Nat) (hk : k < 65) (z : Int) (hz : z = (k : Int)) : ∀ u, (Instr.indexAt 175 (.pointer (some ⟨g, 0, none⟩)) (.int .i64 z)).run Tryz.prog u = .ok (.pointer (some ⟨g, k, none⟩)) u := by
  intro u
  subst hz
  have ha : Tryz.prog.arrayLen 175 = 65 := by simp [Program.arrayLen, Tryz.underlying175]
  have he : Tryz.prog.elem 175 = 5 := by simp [Program.elem, Tryz.underlying175]
  have h := run_indexAt_array (P := Tryz.prog) (w := u) 175 ⟨g, 0, none⟩ .i64 (k : Int) (by rw [ha, he]; exact Tryz.underlying175)
  rw [h, ha, if_pos ⟨by omega, by omega⟩, he]
  simp [go_sem, Result.andThen, Addr.add]
  try omega

theorem buf_slice (g k : Nat) (hk : k < 65) (z : Int) (hz : z = (k : Int)) : ∀ u, (Instr.sliceAt 175 (.pointer (some ⟨g, 0, none⟩)) (some (.int .i64 z)) none none).run Tryz.prog u = .ok (.slice (some ⟨g, k, none⟩) (65 - k) (65 - k)) u := by
  intro u
  subst hz
  have ha : Tryz.prog.arrayLen 175 = 65 := by simp [Program.arrayLen, Tryz.underlying175]
  rw [run_sliceAt_array_l u 175 ⟨g, 0, none⟩ (by simp [Program.arrayLen, Program.elem, Tryz.underlying175]) .i64 (k : Int) (by omega) (by rw [ha]; omega)]
  rw [ha]
  go_simp
  try omega

set_option maxHeartbeats 4000000 in
theorem lib_formatBits (x : Nat) (hx64 : x < 18446744073709551616) (w : World) (hD : Deb w) :
    Calls Tryz.prog 117 #[.slice none 0 0, .int .u64 (x : Int), .int .i64 16, .bool false, .bool false] w fun e w' => e = .returned (.tuple #[.slice none 0 0, .string ⟨(hx x).toArray⟩]) ∧ Below w.heap.size w w' := by
  have hB0 := buf_zero w
  have hb0 : Below w.heap.size w (w.alloc (.cells Tryz.zeroCells175 175)) := (Below.refl _ _).alloc (Nat.le_refl _) _
  have hDD := hD.later hb0
  clear hD
  go_enter Tryz.func117, Tryz.ntmps117
  go_wp2_with fail
  refine (lib_isPow _).mono ?_
  rintro e w1 ⟨rfl, rfl⟩
  go_wp2_with fail
  refine (lib_TZ _ hDD).mono ?_
  rintro e w2 ⟨rfl, rfl⟩
  clear hDD
  go_wp2_with fail
  go_loopw [1, 13] (fun qq ii wr => ∃ (q k : Nat) (suf : List UInt8), qq = .int .u64 (q : Int) ∧ ii = .int .i64 ((k : Int) + 1) ∧ 49 ≤ k ∧ k ≤ 64 ∧ q < 18446744073709551616 ∧ Hid (q < 16 ^ (k - 48)) ∧ Hid (hx x = hx q ++ suf) ∧ Hid (Buf wr w.heap.size (k + 1) suf) ∧ Hid (Below w.heap.size w wr)) (fun qq _ _ => (intOf qq).toNat)
  case atStart => exact ⟨x, 64, [], rfl, rfl, by omega, by omega, hx64, Lib.hid (by omega), Lib.hid (by simp), Lib.hid hB0, Lib.hid hb0⟩
  case round =>
    obtain ⟨q, k, suf, rfl, rfl, hk1, hk2, hq64, HQ, HX, HBF, HB⟩ := hrel
    clear hB0 hb0
    by_cases hq : 16 ≤ q
    · obtain ⟨j, rfl⟩ : ∃ j, k = j + 1 := ⟨k - 1, by omega⟩
      have hj : 49 ≤ j := by
        rcases Nat.lt_or_ge 49 (j + 1) with h | h
        · omega
        · have : j + 1 = 49 := by omega
          have hq2 := HQ.out
          rw [this] at hq2
          omega
      obtain ⟨old, hold⟩ := HBF.out.old
      have hfr := HBF.out.free (j + 1)
      have hix := buf_idx w.heap.size (j + 1) (by omega) ((j : Int) + 1) (by omega)
      have hand : bits .and .u64 (q : Int) 15 = ((q % 16 : Nat) : Int) := by
        have h := u64_and_nat q 15 hq64 (by omega)
        rw [show ((15 : Nat) : Int) = 15 from rfl, show q &&& 15 = q % 16 from Nat.and_two_pow_sub_one_eq_mod q 4] at h
        exact h
      obtain ⟨r, hr⟩ : ∃ r, q % 16 = r := ⟨_, rfl⟩
      have hr16 : r < 16 := by omega
      have hxs := hx_hi (x := q) (by omega)
      rw [hr] at hand hxs
      have hdi := digs36_idx r hr16
      obtain ⟨p, hp⟩ : ∃ p, q / 16 = p := ⟨_, rfl⟩
      have hpz : (q : Int) / 16 = (p : Int) := by omega
      have hp64 : p < 18446744073709551616 := by omega
      have HPQ := Lib.hid (show p < 16 ^ (j - 48) from by
        have h1 := HQ.out
        rw [show j + 1 - 48 = (j - 48) + 1 from by omega, Nat.pow_succ] at h1
        rw [← hp]; exact Nat.div_lt_of_lt_mul (by rw [Nat.mul_comm]; exact h1))
      rw [hp] at hxs
      have HXS := Lib.hid hxs
      have HLT := Lib.hid (show p < q from by omega)
      clear hxs hr hp
      go_wp2
      go_roundw
      case rel =>
        refine ⟨p, j, dig r :: suf, rfl, rfl, hj, by omega, hp64, HPQ, ?_, Lib.hid (HBF.out.put (dig r)), ?_⟩
        · refine Lib.hid ?_
          rw [HX.out, HXS.out, List.append_assoc]
          rfl
        · exact Lib.hid (HB.out.setCell (Nat.le_refl _) _)
      case measure => have := HLT.out; simp [intOf]; omega
    · obtain ⟨old, hold⟩ := HBF.out.old
      have hfr := HBF.out.free k
      have hix := buf_idx w.heap.size k (by omega) (k : Int) rfl
      have hdi := digs36_idx q (by omega)
      have hsl := buf_slice w.heap.size k (by omega) (k : Int) rfl
      have hnew := HBF.out.put (dig q)
      have htx := hnew.text
      have HXS := Lib.hid (show hx x = dig q :: suf from by rw [HX.out, hx_lo (by omega)]; rfl)
      have HBN := Lib.hid (HB.out.setCell (p := ⟨w.heap.size, k, none⟩) (Nat.le_refl _) (.int .u8 ((dig q).toNat : Int)))
      clear hnew HQ HX
      go_wp2
      go_ret2
      exact ⟨by rw [HXS.out]; rfl, HBN.out⟩

theorem intl_FormatHex (x : Nat) (hx64 : x < 18446744073709551616) (w : World) (hD : Deb w) :
    Calls Tryz.prog 97 #[.int .u64 (x : Int), .int .i64 16] w fun e w' => e = .returned (.string ⟨(hx x).toArray⟩) ∧ Below w.heap.size w w' := by
  go_enter Tryz.func97, Tryz.ntmps97
  go_wp2_with fail
  refine (lib_formatBits x hx64 _ hD).mono ?_
  rintro e w1 ⟨rfl, hb⟩
  go_wp2
  go_ret
  exact ⟨rfl, hb⟩

theorem lib_FormatHex (x : Nat) (hx64 : x < 18446744073709551616) (w : World) (hD : Deb w) :
    Calls Tryz.prog 78 #[.int .u64 (x : Int), .int .i64 16] w fun e w' => e = .returned (.string ⟨(hx x).toArray⟩) ∧ Below w.heap.size w w' := by
  go_enter Tryz.func78, Tryz.ntmps78
  go_wp2_with fail
  refine (intl_FormatHex x hx64 _ hD).mono ?_
  rintro e w1 ⟨rfl, hb⟩
  go_wp2
  go_ret
  exact ⟨rfl, hb⟩

end Go.Proofs.YtkljkpffpdpphaaGreatDoor


/-
  Package cell: the text of a number, of each kind.
-/
namespace Go.Proofs.YtkljkpffpdpphaaGreatDoor
open Go.RowKit Go.Shelf

theorem builderX : Builder.Extra Tryz.prog Tryz.laysRepeat_ren := {
  sizeBuilder := by kernel_rfl
  liesBuilder := by kernel_rfl
  t5 := Tryz.underlying5
  a5 := Tryz.isAgg5
  z5 := Tryz.sizeOf5
  v5 := Tryz.zeroValue5
  infoByte := by kernel_rfl
  cellsByte := by kernel_rfl
  sizeByte := by kernel_rfl
  neB5 := by decide }

theorem repeat_zero : ∀ n, Lib.repeatL [48] n = List.replicate n 48
  | 0 => rfl
  | n + 1 => by rw [Lib.repeatL, repeat_zero n, List.replicate_succ]; rfl

theorem lib_Zeros (n : Nat) (hn : n ≤ 100) (w : World) :
    Calls Tryz.prog 79 #[.string ({ data := #[48] } : ByteArray), .int .i64 (n : Int)] w fun e w' => e = .returned (.string ⟨(List.replicate n 48).toArray⟩) ∧ Below w.heap.size w w' := by
  have c : Calls Tryz.prog 79 #[.string ({ data := #[48] } : ByteArray), .int .i64 (n : Int)] w _ := Any.strings_Repeat Tryz.laysRepeat builderX ({ data := #[48] } : ByteArray) n w (by omega) (by show 1 * n ≤ _; omega)
  rw [show ({ data := #[48] } : ByteArray).data.toList = [48] from rfl, repeat_zero] at c
  exact c

theorem hx_len : ∀ (k x : Nat), x < 16 ^ (k + 1) → (hx x).length ≤ k + 1
  | 0, x, h => by rw [hx_lo (by simpa using h)]; simp
  | k + 1, x, h => by
    by_cases h16 : x < 16
    · rw [hx_lo h16]; simp
    · rw [hx_hi h16, List.length_append]
      have := hx_len k (x / 16) (Nat.div_lt_of_lt_mul (by rw [Nat.mul_comm]; rw [Nat.pow_succ] at h; exact h))
      simp; omega

/-- The text of a number of a kind. -/
def numL (kind : Int) (x : Nat) : List UInt8 :=
  if kind = 0 then sdec (wrap64 (x : Int)) else if kind = 2 then (if x = 1 then [116, 114, 117, 101] else [102, 97, 108, 115, 101])
  else if kind = 5 then List.replicate (16 - (hx x).length) 48 ++ hx x else dec x

theorem sdec_len (x : Int) (h0 : -9223372036854775808 ≤ x) (h1 : x ≤ 9223372036854775807) : (sdec x).length ≤ 30 := by
  unfold sdec
  split
  · have := dec_len 19 (-x).toNat (by omega)
    simp; omega
  · have := dec_len 19 x.toNat (by omega)
    omega

/-- What the library's tables must hold. -/
structure Lib3 (w : World) : Prop where
  tabs : Tabs w
  pow : Pow w
  deb : Deb w
theorem Lib3.later {w w' : World} (h : Lib3 w) (hb : Below w.heap.size w w') : Lib3 w' := ⟨h.tabs.later hb, h.pow.later hb, h.deb.later hb⟩

theorem wrap_bounds (x : Nat) (hx : x < 18446744073709551616) : -9223372036854775808 ≤ wrap64 (x : Int) ∧ wrap64 (x : Int) ≤ 9223372036854775807 := by
  unfold wrap64; omega

set_option maxHeartbeats 2000000 in
theorem cell_numText (kind : Int) (hk : kind = 0 ∨ kind = 1 ∨ kind = 2 ∨ kind = 5) (x : Nat) (hx64 : x < 18446744073709551616) (w : World) (hT : Lib3 w) :
    Calls Tryz.prog 53 #[.int .i64 kind, .int .u64 (x : Int)] w fun e w' => (∃ t, e = .returned (.string t) ∧ RdS t (numL kind x)) ∧ Below w.heap.size w w' := by
  rcases hk with rfl | rfl | rfl | rfl
  · have hwb := wrap_bounds x hx64
    have hlen := sdec_len _ hwb.1 hwb.2
    have hc := lib_FormatInt (wrap64 (x : Int)) hwb.1 hwb.2 w hT.pow
    have HN := Lib.hid (show numL 0 x = sdec (wrap64 (x : Int)) from by unfold numL; rw [if_pos rfl])
    have HL := Lib.hid hlen
    clear hwb hlen
    go_enter Tryz.func53, Tryz.ntmps53
    go_wp2_with fail
    refine hc.mono ?_
    rintro e w1 ⟨rfl, hb⟩
    have HB := Lib.hid hb
    clear hb hc
    go_wp2
    go_ret
    exact ⟨⟨_, rfl, ⟨by rw [HN.out], by rw [HN.out]; have := HL.out; omega⟩⟩, HB.out⟩
  · have hlen := dec_len 19 x (by omega)
    have HN := Lib.hid (show numL 1 x = dec x from by unfold numL; rw [if_neg (by decide), if_neg (by decide), if_neg (by decide)])
    have HL := Lib.hid hlen
    clear hlen
    go_enter Tryz.func53, Tryz.ntmps53
    go_wp2_with fail
    refine (lib_FormatUint x hx64 _ hT.pow).mono ?_
    rintro e w1 ⟨rfl, hb⟩
    have HB := Lib.hid hb
    clear hb
    go_wp2
    go_ret
    exact ⟨⟨_, rfl, ⟨by rw [HN.out], by rw [HN.out]; have := HL.out; omega⟩⟩, HB.out⟩
  · have HN := Lib.hid (show numL 2 x = (if x = 1 then [116, 114, 117, 101] else [102, 97, 108, 115, 101]) from by unfold numL; rw [if_neg (by decide), if_pos rfl])
    by_cases h1 : x = 1
    · subst h1
      go_enter Tryz.func53, Tryz.ntmps53
      go_wp2_with fail
      refine (lib_FormatBool true _).mono ?_
      rintro e w1 ⟨rfl, rfl⟩
      go_wp2
      go_ret
      exact ⟨⟨_, rfl, ⟨by rw [HN.out]; simp, by rw [HN.out]; decide⟩⟩, Below.refl _ _⟩
    · have hne : ((x : Int) == 1) = false := by simp; omega
      have HX := Lib.hid h1
      clear h1
      go_enter Tryz.func53, Tryz.ntmps53
      go_wp2_with fail
      refine (lib_FormatBool false _).mono ?_
      rintro e w1 ⟨rfl, rfl⟩
      go_wp2
      go_ret
      exact ⟨⟨_, rfl, ⟨by rw [HN.out, if_neg HX.out], by rw [HN.out, if_neg HX.out]; decide⟩⟩, Below.refl _ _⟩
  · have hlen := hx_len 15 x (by omega)
    have HN := Lib.hid (show numL 5 x = List.replicate (16 - (hx x).length) 48 ++ hx x from by unfold numL; rw [if_neg (by decide), if_neg (by decide), if_pos rfl])
    obtain ⟨t, ht⟩ : ∃ t : ByteArray, t = ⟨(hx x).toArray⟩ := ⟨_, rfl⟩
    have hR : RdS t (hx x) := ⟨ht, by omega⟩
    have htl := hR.len
    obtain ⟨z, hz⟩ : ∃ z, z = 16 - (hx x).length := ⟨_, rfl⟩
    have hzi : 16 - ((hx x).length : Int) = (z : Int) := by omega
    obtain ⟨u, hu⟩ : ∃ u : ByteArray, u = ⟨(List.replicate z 48).toArray⟩ := ⟨_, rfl⟩
    have hU : RdS u (List.replicate z 48) := ⟨hu, by simp; omega⟩
    have hz1 : t.size = (hx x).length := by rw [ht]; simp [ByteArray.size]
    have hz2 : u.size = z := by rw [hu]; simp [ByteArray.size]
    have hsz : ¬ (u.size + t.size > 9223372036854775807) := by omega
    have hz16 : z ≤ 16 := by omega
    have HA := Lib.hid (hU.app hR (by simp; omega))
    have HZ := Lib.hid hz
    have HT := Lib.hid ht
    have HU := Lib.hid hu
    obtain ⟨c, hc⟩ : ∃ c, (hx x).length = c := ⟨_, rfl⟩
    rw [hc] at htl hzi
    clear hz hz1 hz2 hlen hR hU ht hu hc
    go_enter Tryz.func53, Tryz.ntmps53
    go_wp2_with fail
    refine (lib_FormatHex x hx64 _ hT.deb).mono ?_
    rintro e w1 ⟨rfl, hb⟩
    rw [← HT.out]
    have HB := Lib.hid hb
    clear hb
    go_wp2_with fail
    refine (lib_Zeros z (by omega) _).mono ?_
    rintro e w2 ⟨rfl, hb⟩
    rw [← HU.out]
    replace HB := Lib.hid (HB.out.trans (hb.mono HB.out.size))
    clear hb
    go_wp2
    go_ret
    exact ⟨⟨_, rfl, by rw [HN.out, ← HZ.out]; exact HA.out⟩, HB.out⟩

end Go.Proofs.YtkljkpffpdpphaaGreatDoor


/-
  The library's ParseUint at base 16.
-/
namespace Go.Proofs.YtkljkpffpdpphaaGreatDoor
open Go.RowKit Go.Shelf

/-- What a sign is worth at base 16. -/
def digX (c : Nat) : Option Nat := if 48 ≤ c ∧ c ≤ 57 then some (c - 48) else if 97 ≤ c ||| 32 ∧ c ||| 32 ≤ 102 then some ((c ||| 32) - 87) else none
def parseX : Nat → List UInt8 → Lib.NumEnd Nat
  | acc, [] => .ok acc
  | acc, c :: r => match digX c.toNat with
    | none => .«syntax»
    | some d => if 1152921504606846976 ≤ acc then .range else parseX (acc * 16 + d) r
def endX : Lib.NumEnd Nat → Value
  | .ok u => .tuple #[.int .u64 (u : Int), .nilIface]
  | .«syntax» => .tuple #[.int .u64 0, .iface 178 (.int .i64 2)]
  | .range => .tuple #[.int .u64 18446744073709551615, .iface 178 (.int .i64 1)]

theorem parseX_digit {acc : Nat} {c : UInt8} {r : List UInt8} {d : Nat} (h : digX c.toNat = some d) : parseX acc (c :: r) = if 1152921504606846976 ≤ acc then .range else parseX (acc * 16 + d) r := by rw [parseX, h]
theorem parseX_none {acc : Nat} {c : UInt8} {r : List UInt8} (h : digX c.toNat = none) : parseX acc (c :: r) = .«syntax» := by rw [parseX, h]

theorem lib_lower (c : Nat) (hc : c < 256) (w : World) : Calls Tryz.prog 142 #[.int .u8 (c : Int)] w fun e w' => e = .returned (.int .u8 ((c ||| 32 : Nat) : Int)) ∧ w' = w := by
  have h := u8_or_nat c 32 hc (by omega)
  rw [show ((32 : Nat) : Int) = 32 from rfl] at h
  go_enter Tryz.func142, Tryz.ntmps142
  go_wp2
  go_ret
  exact ⟨rfl, rfl⟩

theorem or32_lt {c : Nat} (hc : c < 256) : c ||| 32 < 256 := Nat.or_lt_two_pow (n := 8) hc (by decide)

set_option maxHeartbeats 8000000 in
theorem intl_ParseHex (t : ByteArray) (l : List UInt8) (hR : RdS t l) (hne : l ≠ []) (w : World) :
    Calls Tryz.prog 129 #[.string t, .int .i64 16, .int .i64 64] w fun e w' => e = .returned (endX (parseX 0 l)) ∧ Below w.heap.size w w' := by
  have hemp : t.toList.isEmpty = false := by rw [hR.toList]; cases l <;> simp_all
  have hcv := Lib.run_convert_string_bytes (P := Tryz.prog) w 9 91 5 t (u := .string) Tryz.underlying9 Tryz.underlying91 Tryz.underlying5
  have hB : ∀ j, j < t.size → (Lib.bytesWorld w 5 t).cell? ⟨w.heap.size, j, none⟩ = some (.int .u8 (t.data.toList.getD j 0).toNat) := fun j hj => Lib.bytesWorld_cell w 5 t j hj
  have hBW := Lib.hid (Lib.bytesWorld_below w 5 t)
  obtain ⟨W1, hW1⟩ : ∃ W1, W1 = Lib.bytesWorld w 5 t := ⟨_, rfl⟩
  rw [← hW1] at hcv hB hBW
  have hLn : l.length = t.size := by rw [hR.size]
  have hdl := hR.dl
  have hsm := hR.small
  rw [hdl] at hB
  clear hW1 hdl
  have hmv : IntKind.u64.wrap (IntKind.u64.wrap 18446744073709551616 - 1) = 18446744073709551615 := by
    rw [IntKind.wrap_u64, IntKind.wrap_u64]
    decide
  go_enter Tryz.func129, Tryz.ntmps129
  go_wp2
  go_loop [12, 13, 101] (fun vu vn vi => ∃ (k acc : Nat) (a : Int), vu = .bool false ∧ vn = .int .u64 a ∧ vi = .int .i64 k ∧ k ≤ t.size ∧ Hid (a = (acc : Int) ∧ acc < 18446744073709551616 ∧ parseX 0 l = parseX acc (l.drop k)))
    (fun _ _ vi => t.size - (intOf vi).toNat)
  case atStart => exact ⟨0, 0, 0, rfl, rfl, rfl, by omega, rfl, by omega, rfl⟩
  case round =>
    obtain ⟨k, acc, a, rfl, rfl, rfl, hk, hh⟩ := hrel
    obtain ⟨ha, hacc, hdec⟩ := hh.out
    clear hh
    have a0 : 0 ≤ a := by omega
    have a1 : a < 18446744073709551616 := by omega
    by_cases hkn : k < t.size
    · have hc := hB k hkn
      have hdrop : l.drop k = l[k]'(by omega) :: l.drop (k + 1) := List.drop_eq_getElem_cons (by omega)
      have hget : l.getD k 0 = l[k]'(by omega) := by simp [List.getD, List.getElem?_eq_getElem (show k < l.length by omega)]
      rw [hdrop] at hdec
      rw [hget] at hc
      generalize l[k]'(by omega) = c at hc hdec
      have hc256 : c.toNat < 256 := c.toNat_lt
      clear hB hdrop hget
      by_cases hdig : 48 ≤ c.toNat ∧ c.toNat ≤ 57
      · have hdx : digX c.toNat = some (c.toNat - 48) := by unfold digX; rw [if_pos hdig]
        obtain ⟨hd0, hd1⟩ := hdig
        rw [parseX_digit hdx] at hdec
        by_cases hcut : 1152921504606846976 ≤ acc
        · rw [if_pos hcut] at hdec
          have icut : 1152921504606846976 ≤ a := by omega
          have HD := Lib.hid hdec
          clear hcut hacc ha hdx hdec
          go_wp2
          go_ret2
          exact ⟨by rw [HD.out]; rfl, hBW.out⟩
        · rw [if_neg hcut] at hdec
          have HN : Hid (a * 16 + ((c.toNat : Int) - 48) = ((acc * 16 + (c.toNat - 48) : Nat) : Int) ∧ acc * 16 + (c.toNat - 48) < 18446744073709551616 ∧ parseX 0 l = parseX (acc * 16 + (c.toNat - 48)) (l.drop (k + 1))) := Lib.hid ⟨by omega, by omega, hdec⟩
          have icut : a < 1152921504606846976 := by omega
          clear hcut hacc hdec ha hdx
          go_wp2
          refine ⟨⟨k + 1, acc * 16 + (c.toNat - 48), a * 16 + ((c.toNat : Int) - 48), rfl, (by first | rfl | (congr 1; omega)), (by first | rfl | (congr 1; omega)), by omega, HN⟩, by simp [intOf]; omega⟩
      · by_cases h95 : c.toNat = 95
        · have hdx : digX c.toNat = none := by rw [h95]; decide
          have hlow : ∀ W, Calls Tryz.prog 142 #[.int .u8 95] W fun e w' => e = .returned (.int .u8 127) ∧ w' = W := fun W => lib_lower 95 (by omega) W
          rw [parseX_none hdx] at hdec
          rw [h95] at hc
          have hc' : W1.cell? ⟨w.heap.size, k, none⟩ = some (.int .u8 95) := hc
          have HD := Lib.hid hdec
          clear hacc ha hdx hdec hc h95 hdig hc256
          go_wp2_with (go_at_call 142; refine (hlow _).mono ?_; rintro e w' ⟨rfl, rfl⟩)
          go_ret2
          exact ⟨by rw [HD.out]; rfl, hBW.out⟩
        · have hne95 : ((c.toNat : Int) == 95) = false := by simp; omega
          have hlow := lib_lower c.toNat hc256
          have hlo256 := or32_lt hc256
          obtain ⟨lo, hlo⟩ : ∃ lo, c.toNat ||| 32 = lo := ⟨_, rfl⟩
          rw [hlo] at hlow hlo256
          by_cases hx : 97 ≤ lo ∧ lo ≤ 102
          · have hdx : digX c.toNat = some (lo - 87) := by unfold digX; rw [if_neg hdig, hlo, if_pos hx]
            obtain ⟨hx0, hx1⟩ := hx
            rw [parseX_digit hdx] at hdec
            by_cases hcut : 1152921504606846976 ≤ acc
            · rw [if_pos hcut] at hdec
              have icut : 1152921504606846976 ≤ a := by omega
              have HD := Lib.hid hdec
              clear hcut hacc ha hdx hdec hlo
              go_wp2_with (go_at_call 142; refine (hlow _).mono ?_; rintro e w' ⟨rfl, rfl⟩)
              all_goals go_ret2
              all_goals exact ⟨by rw [HD.out]; rfl, hBW.out⟩
            · rw [if_neg hcut] at hdec
              have HN : Hid (a * 16 + ((lo : Int) - 97 + 10) = ((acc * 16 + (lo - 87) : Nat) : Int) ∧ acc * 16 + (lo - 87) < 18446744073709551616 ∧ parseX 0 l = parseX (acc * 16 + (lo - 87)) (l.drop (k + 1))) := Lib.hid ⟨by omega, by omega, hdec⟩
              have icut : a < 1152921504606846976 := by omega
              clear hcut hacc hdec ha hdx hlo
              go_wp2_with (go_at_call 142; refine (hlow _).mono ?_; rintro e w' ⟨rfl, rfl⟩)
              all_goals refine ⟨⟨k + 1, acc * 16 + (lo - 87), a * 16 + ((lo : Int) - 97 + 10), rfl, (by first | rfl | (congr 1; omega)), (by first | rfl | (congr 1; omega)), by omega, HN⟩, by simp [intOf]; omega⟩
          · have hdx : digX c.toNat = none := by unfold digX; rw [if_neg hdig, hlo, if_neg hx]
            rw [parseX_none hdx] at hdec
            have HD := Lib.hid hdec
            clear hacc ha hdx hdec hlo
            go_wp2_with (go_at_call 142; refine (hlow _).mono ?_; rintro e w' ⟨rfl, rfl⟩)
            all_goals first | (exfalso; omega) | skip
            all_goals go_ret2
            all_goals exact ⟨by rw [HD.out]; rfl, hBW.out⟩
    · have hkk : k = t.size := by omega
      subst hkk
      have hF : parseX acc (l.drop t.size) = .ok acc := by rw [List.drop_eq_nil_of_le (by omega)]; rfl
      rw [hF] at hdec
      have HD := Lib.hid hdec
      subst ha
      clear hacc hF a0 a1 hdec
      go_wp2
      go_ret2
      exact ⟨by rw [HD.out]; rfl, hBW.out⟩

end Go.Proofs.YtkljkpffpdpphaaGreatDoor


/-
  The library's strconv, as package cell calls it: numbers and truth values read.
-/
namespace Go.Proofs.YtkljkpffpdpphaaGreatDoor
open Go.RowKit Go.Shelf

/-- How a reading ends: the number and no error; or some number, and an error. -/
def PE {α : Type} (o : Option α) (y : α) (ev : Value) : Prop := (o = some y ∧ ev = .nilIface) ∨ (o = none ∧ ∃ tp p, ev = .iface tp p)

structure Errs (w : World) : Prop where
  syn : ∃ tp p, w.var? Tryz.prog "strconv.ErrSyntax" = some #[.iface tp p]
  rng : ∃ tp p, w.var? Tryz.prog "strconv.ErrRange" = some #[.iface tp p]
theorem Errs.later {w w' : World} (h : Errs w) (hb : Below w.heap.size w w') : Errs w' := by
  obtain ⟨⟨t1, p1, h1⟩, ⟨t2, p2, h2⟩⟩ := h
  exact ⟨⟨t1, p1, Joins.var_stays (show Tryz.prog.globalNamed "strconv.ErrSyntax" = some 5 by kernel_rfl) h1 hb (Nat.le_refl _)⟩,
    ⟨t2, p2, Joins.var_stays (show Tryz.prog.globalNamed "strconv.ErrRange" = some 6 by kernel_rfl) h2 hb (Nat.le_refl _)⟩⟩
theorem Errs.synC {w : World} (h : Errs w) : ∃ ev, w.cell? ⟨5, 0, none⟩ = some ev ∧ (ev = .nilIface ∨ ∃ te pe, ev = .iface te pe) := by
  obtain ⟨t1, p1, h1⟩ := h.syn
  have h0 := World.var?_cell (show Tryz.prog.globalNamed "strconv.ErrSyntax" = some 5 by kernel_rfl) h1 0
  exact ⟨_, by simpa using h0, .inr ⟨t1, p1, rfl⟩⟩
theorem Errs.rngC {w : World} (h : Errs w) : ∃ ev, w.cell? ⟨6, 0, none⟩ = some ev ∧ (ev = .nilIface ∨ ∃ te pe, ev = .iface te pe) := by
  obtain ⟨t1, p1, h1⟩ := h.rng
  have h0 := World.var?_cell (show Tryz.prog.globalNamed "strconv.ErrRange" = some 6 by kernel_rfl) h1 0
  exact ⟨_, by simpa using h0, .inr ⟨t1, p1, rfl⟩⟩

theorem RdS.sz {s : ByteArray} {l : List UInt8} (h : RdS s l) : s.size ≤ 140737488351232 := by rw [h.size]; exact h.small

def okE {α : Type} : Lib.NumEnd α → Option α
  | .ok v => some v
  | _ => none

theorem parseUintM_le (M : Nat) : ∀ (l : List UInt8) (acc u : Nat), acc ≤ M → Lib.parseUintM M acc l = .ok u → u ≤ M
  | [], acc, u, ha, h => by
    simp only [Lib.parseUintM, Lib.NumEnd.ok.injEq] at h
    omega
  | c :: r, acc, u, ha, h => by
    unfold Lib.parseUintM at h
    split at h
    · split at h
      · cases h
      · split at h
        · cases h
        · exact parseUintM_le M r _ u (by omega) h
    · cases h
theorem parseUintB_lt {l : List UInt8} {u : Nat} (h : Lib.parseUintB 64 l = .ok u) : u < 18446744073709551616 := by
  unfold Lib.parseUintB at h
  split at h
  · cases h
  · have := parseUintM_le (2 ^ 64 - 1) l 0 u (by omega) h
    omega

theorem lib_ParseInt (s : ByteArray) (l : List UInt8) (w : World) (h : RdS s l) (hE : Errs w) :
    Calls Tryz.prog 108 #[.string s, .int .i64 10, .int .i64 64] w fun e w' => (∃ y ev, e = .returned (.tuple #[.int .i64 y, ev]) ∧ PE (okE (Lib.parseIntB 64 l)) y ev) ∧ Below w.heap.size w w' := by
  have hz := h.sz
  obtain ⟨t1, p1, h1⟩ := hE.syn
  obtain ⟨t2, p2, h2⟩ := hE.rng
  cases hp : Lib.parseIntB 64 l with
  | ok v =>
    have c : Calls Tryz.prog 108 #[.string s, .int .i64 10, .int .i64 64] w _ := Any.strconv_ParseInt_10_at64_ok Tryz.laysParseInt s (by omega) v (by rw [h.dl]; exact hp) w
    refine c.mono fun e w' ⟨he, hw⟩ => ⟨⟨v, _, he, .inl ⟨rfl, rfl⟩⟩, ?_⟩
    rcases hw with rfl | ⟨t, rfl⟩
    · exact Below.refl _ _
    · exact Lib.bytesWorld_below _ _ _
  | «syntax» =>
    have c : Calls Tryz.prog 108 #[.string s, .int .i64 10, .int .i64 64] w _ := Any.strconv_ParseInt_10_at64_syntax_var Tryz.laysParseInt s (by omega) (by rw [h.dl]; exact hp) t1 p1 w h1
    exact c.mono fun e w' ⟨N, he, _, _, hb⟩ => ⟨⟨0, _, he, .inr ⟨rfl, _, _, rfl⟩⟩, hb⟩
  | range =>
    have c : Calls Tryz.prog 108 #[.string s, .int .i64 10, .int .i64 64] w _ := Any.strconv_ParseInt_10_at64_range_var Tryz.laysParseInt s (by omega) (by rw [h.dl]; exact hp) t2 p2 w h2
    exact c.mono fun e w' ⟨N, he, _, _, hb⟩ => ⟨⟨_, _, he, .inr ⟨rfl, _, _, rfl⟩⟩, hb⟩

theorem lib_ParseUint (s : ByteArray) (l : List UInt8) (w : World) (h : RdS s l) (hE : Errs w) :
    Calls Tryz.prog 110 #[.string s, .int .i64 10, .int .i64 64] w fun e w' => (∃ (y : Nat) (ev : Value), e = .returned (.tuple #[.int .u64 (y : Int), ev]) ∧ y < 18446744073709551616 ∧ PE (okE (Lib.parseUintB 64 l)) y ev) ∧ Below w.heap.size w w' := by
  have hz := h.sz
  obtain ⟨t1, p1, h1⟩ := hE.syn
  obtain ⟨t2, p2, h2⟩ := hE.rng
  cases hp : Lib.parseUintB 64 l with
  | ok v =>
    have c : Calls Tryz.prog 110 #[.string s, .int .i64 10, .int .i64 64] w _ := Any.strconv_ParseUint_10_at64_ok Tryz.laysParseUint s (by omega) v (by rw [h.dl]; exact hp) w
    have hv : v < 18446744073709551616 := parseUintB_lt hp
    refine c.mono fun e w' ⟨he, hw⟩ => ⟨⟨v, _, he, hv, .inl ⟨rfl, rfl⟩⟩, ?_⟩
    rcases hw with rfl | rfl
    · exact Below.refl _ _
    · exact Lib.bytesWorld_below _ _ _
  | «syntax» =>
    have c : Calls Tryz.prog 110 #[.string s, .int .i64 10, .int .i64 64] w _ := Any.strconv_ParseUint_10_at64_syntax_var Tryz.laysParseUint s (by omega) (by rw [h.dl]; exact hp) t1 p1 w h1
    exact c.mono fun e w' ⟨N, he, _, _, hb⟩ => ⟨⟨0, _, he, by omega, .inr ⟨rfl, _, _, rfl⟩⟩, hb⟩
  | range =>
    have c : Calls Tryz.prog 110 #[.string s, .int .i64 10, .int .i64 64] w _ := Any.strconv_ParseUint_10_at64_range_var Tryz.laysParseUint s (by omega) (by rw [h.dl]; exact hp) t2 p2 w h2
    exact c.mono fun e w' ⟨N, he, _, _, hb⟩ => ⟨⟨18446744073709551615, _, he, by omega, .inr ⟨rfl, _, _, rfl⟩⟩, hb⟩

theorem lib_ParseBool (s : ByteArray) (l : List UInt8) (w : World) (h : RdS s l) (hE : Errs w) :
    Calls Tryz.prog 109 #[.string s] w fun e w' => (∃ (y : Bool) (ev : Value), e = .returned (.tuple #[.bool y, ev]) ∧ PE (Lib.parseBool l) y ev) ∧ Below w.heap.size w w' := by
  have hz := h.sz
  obtain ⟨t1, p1, h1⟩ := hE.syn
  cases hp : Lib.parseBool l with
  | some b =>
    have c : Calls Tryz.prog 109 #[.string s] w _ := Any.strconv_ParseBool Tryz.laysParseBool s b (by rw [h.dl]; exact hp) w
    exact c.mono fun e w' ⟨he, hw⟩ => ⟨⟨b, _, he, .inl ⟨rfl, rfl⟩⟩, by rw [hw]; exact Below.refl _ _⟩
  | none =>
    have c : Calls Tryz.prog 109 #[.string s] w _ := Any.strconv_ParseBool_err_var Tryz.laysParseBoolE s (by omega) (by rw [h.dl]; exact hp) t1 p1 w h1
    exact c.mono fun e w' ⟨N, he, _, _, hb⟩ => ⟨⟨false, _, he, .inr ⟨rfl, _, _, rfl⟩⟩, hb⟩

/-- A text at base 16, whole. -/
def parseH (l : List UInt8) : Lib.NumEnd Nat := if l = [] then .«syntax» else parseX 0 l

theorem parseX_lt : ∀ (l : List UInt8) (acc u : Nat), acc < 18446744073709551616 → parseX acc l = .ok u → u < 18446744073709551616
  | [], acc, u, ha, h => by
    simp only [parseX, Lib.NumEnd.ok.injEq] at h
    omega
  | c :: r, acc, u, ha, h => by
    cases hd : digX c.toNat with
    | none => rw [parseX_none hd] at h; cases h
    | some d =>
      rw [parseX_digit hd] at h
      have hd16 : d < 16 := by
        unfold digX at hd
        split at hd
        · injection hd; omega
        · split at hd
          · injection hd; omega
          · cases hd
      split at h
      · cases h
      · exact parseX_lt r _ u (by omega) h

set_option maxHeartbeats 4000000 in
theorem lib_ParseHex (s : ByteArray) (l : List UInt8) (w : World) (h : RdS s l) (hE : Errs w) :
    Calls Tryz.prog 110 #[.string s, .int .i64 16, .int .i64 64] w fun e w' => (∃ (y : Nat) (ev : Value), e = .returned (.tuple #[.int .u64 (y : Int), ev]) ∧ y < 18446744073709551616 ∧ PE (okE (parseH l)) y ev) ∧ Below w.heap.size w w' := by
  have hz := h.sz
  have hin : Calls Tryz.prog 129 #[.string s, .int .i64 16, .int .i64 64] w fun e w' => e = .returned (endX (parseH l)) ∧ Below w.heap.size w w' := by
    by_cases hl : l = []
    · rw [show parseH l = .«syntax» from by unfold parseH; rw [if_pos hl]]
      have hem : s.toList.isEmpty = true := by rw [h.toList, hl]; rfl
      go_enter Tryz.func129, Tryz.ntmps129
      go_wp2
      go_ret2
      exact ⟨rfl, Below.refl _ _⟩
    · rw [show parseH l = parseX 0 l from by unfold parseH; rw [if_neg hl]]
      exact intl_ParseHex s l h hl w
  cases hp : parseH l with
  | ok v =>
    rw [hp] at hin
    have hv : v < 18446744073709551616 := by
      unfold parseH at hp
      split at hp
      · cases hp
      · exact parseX_lt l 0 v (by omega) hp
    clear hp
    go_enter Tryz.func110, Tryz.ntmps110
    go_wp2_with fail
    refine hin.mono ?_
    rintro e w1 ⟨rfl, hb⟩
    unfold endX
    go_wp2
    go_ret2
    exact ⟨⟨v, _, rfl, hv, .inl ⟨rfl, rfl⟩⟩, hb⟩
  | «syntax» =>
    rw [hp] at hin
    clear hp
    go_enter Tryz.func110, Tryz.ntmps110
    go_wp2_with fail
    refine hin.mono ?_
    rintro e w1 ⟨rfl, hb⟩
    obtain ⟨ev, he1, he2⟩ := (hE.later hb).synC
    have c : Calls Tryz.prog 127 _ w1 _ := Any.strconv_toError_syntax Tryz.laysToError ⟨#[80, 97, 114, 115, 101, 85, 105, 110, 116]⟩ s 16 64 ev w1 (by omega) he1 he2
    unfold endX
    go_wp2_with fail
    refine c.mono ?_
    rintro e w2 ⟨N, rfl, _, _, hb2⟩
    have HB := Lib.hid (hb.trans (hb2.mono hb.size))
    clear hb hb2 c he1
    go_wp2
    go_ret2
    exact ⟨⟨0, _, rfl, by omega, .inr ⟨rfl, _, _, rfl⟩⟩, HB.out⟩
  | range =>
    rw [hp] at hin
    clear hp
    go_enter Tryz.func110, Tryz.ntmps110
    go_wp2_with fail
    refine hin.mono ?_
    rintro e w1 ⟨rfl, hb⟩
    obtain ⟨ev, he1, he2⟩ := (hE.later hb).rngC
    have c : Calls Tryz.prog 127 _ w1 _ := Any.strconv_toError_range Tryz.laysToError ⟨#[80, 97, 114, 115, 101, 85, 105, 110, 116]⟩ s 16 64 ev w1 (by omega) he1 he2
    unfold endX
    go_wp2_with fail
    refine c.mono ?_
    rintro e w2 ⟨N, rfl, _, _, hb2⟩
    have HB := Lib.hid (hb.trans (hb2.mono hb.size))
    clear hb hb2 c he1
    go_wp2
    go_ret2
    exact ⟨⟨18446744073709551615, _, rfl, by omega, .inr ⟨rfl, _, _, rfl⟩⟩, HB.out⟩

end Go.Proofs.YtkljkpffpdpphaaGreatDoor


/-
  Package cell: a number read off its text.
-/
namespace Go.Proofs.YtkljkpffpdpphaaGreatDoor
open Go.RowKit Go.Shelf

/-- What the library reads of a text, as a number of a kind. -/
def parN (kind : Int) (l : List UInt8) : Option Nat :=
  if kind = 0 then (okE (Lib.parseIntB 64 l)).map (fun v => (v % 18446744073709551616).toNat)
  else if kind = 2 then (Lib.parseBool l).map (fun b => if b then 1 else 0)
  else if kind = 5 then okE (parseH l) else okE (Lib.parseUintB 64 l)

structure Lib4 (w : World) : Prop where
  l3 : Lib3 w
  errs : Errs w
theorem Lib4.later {w w' : World} (h : Lib4 w) (hb : Below w.heap.size w w') : Lib4 w' := ⟨h.l3.later hb, h.errs.later hb⟩

set_option maxHeartbeats 4000000 in
theorem cell_parseNum (kind : Int) (hk : kind = 0 ∨ kind = 1 ∨ kind = 2 ∨ kind = 5) (s : ByteArray) (l : List UInt8) (w : World) (h : RdS s l) (hE : Errs w) :
    Calls Tryz.prog 86 #[.int .i64 kind, .string s] w fun e w' => (∃ (y : Nat) (ev : Value), e = .returned (.tuple #[.int .u64 (y : Int), ev]) ∧ y < 18446744073709551616 ∧ (kind = 2 → y ≤ 1) ∧ PE (parN kind l) y ev) ∧ Below w.heap.size w w' := by
  rcases hk with rfl | rfl | rfl | rfl
  · have e0 : parN 0 l = (okE (Lib.parseIntB 64 l)).map (fun v => (v % 18446744073709551616).toNat) := by unfold parN; rw [if_pos rfl]
    have HE := Lib.hid e0
    clear e0
    go_enter Tryz.func86, Tryz.ntmps86
    go_wp2_with fail
    refine (lib_ParseInt s l w h hE).mono ?_
    rintro e w1 ⟨⟨y, ev, rfl, hp⟩, hb⟩
    obtain ⟨n, hn⟩ : ∃ n : Nat, y % 18446744073709551616 = (n : Int) := ⟨(y % 18446744073709551616).toNat, by omega⟩
    have hw : IntKind.u64.wrap y = (n : Int) := by
      have : IntKind.u64.wrap y = y % 18446744073709551616 := by simp [IntKind.wrap, IntKind.signed, IntKind.bits]
      omega
    have HN := Lib.hid hn
    have HP := Lib.hid hp
    clear hn hp
    go_wp2
    go_ret2
    refine ⟨⟨n, ev, rfl, by have := HN.out; omega, fun h => absurd h (by decide), ?_⟩, hb⟩
    rw [HE.out]
    rcases HP.out with ⟨h1, h2⟩ | ⟨h1, h2⟩
    · exact .inl ⟨by rw [h1]; simp only [Option.map_some, HN.out, Int.toNat_natCast], h2⟩
    · exact .inr ⟨by rw [h1]; rfl, h2⟩
  · have e0 : parN 1 l = okE (Lib.parseUintB 64 l) := by unfold parN; rw [if_neg (by decide), if_neg (by decide), if_neg (by decide)]
    have HE := Lib.hid e0
    clear e0
    go_enter Tryz.func86, Tryz.ntmps86
    go_wp2_with fail
    refine (lib_ParseUint s l w h hE).mono ?_
    rintro e w1 ⟨⟨y, ev, rfl, hy, hp⟩, hb⟩
    have HP := Lib.hid hp
    have HY := Lib.hid hy
    clear hp hy
    go_wp2
    go_ret2
    exact ⟨⟨y, ev, rfl, HY.out, fun h => absurd h (by decide), by rw [HE.out]; exact HP.out⟩, hb⟩
  · have e0 : parN 2 l = (Lib.parseBool l).map (fun b => if b then 1 else 0) := by unfold parN; rw [if_neg (by decide), if_pos rfl]
    have HE := Lib.hid e0
    clear e0
    go_enter Tryz.func86, Tryz.ntmps86
    go_wp2_with fail
    refine (lib_ParseBool s l w h hE).mono ?_
    rintro e w1 ⟨⟨y, ev, rfl, hp⟩, hb⟩
    have HP := Lib.hid hp
    clear hp
    cases y with
    | true =>
      go_wp2
      go_ret2
      refine ⟨⟨1, ev, rfl, by omega, fun _ => by omega, ?_⟩, hb⟩
      rw [HE.out]
      rcases HP.out with ⟨h1, h2⟩ | ⟨h1, h2⟩
      · exact .inl ⟨by rw [h1]; rfl, h2⟩
      · exact .inr ⟨by rw [h1]; rfl, h2⟩
    | false =>
      go_wp2
      go_ret2
      refine ⟨⟨0, ev, rfl, by omega, fun _ => by omega, ?_⟩, hb⟩
      rw [HE.out]
      rcases HP.out with ⟨h1, h2⟩ | ⟨h1, h2⟩
      · exact .inl ⟨by rw [h1]; rfl, h2⟩
      · exact .inr ⟨by rw [h1]; rfl, h2⟩
  · have e0 : parN 5 l = okE (parseH l) := by unfold parN; rw [if_neg (by decide), if_neg (by decide), if_pos rfl]
    have HE := Lib.hid e0
    clear e0
    go_enter Tryz.func86, Tryz.ntmps86
    go_wp2_with fail
    refine (lib_ParseHex s l w h hE).mono ?_
    rintro e w1 ⟨⟨y, ev, rfl, hy, hp⟩, hb⟩
    have HP := Lib.hid hp
    have HY := Lib.hid hy
    clear hp hy
    go_wp2
    go_ret2
    exact ⟨⟨y, ev, rfl, HY.out, fun h => absurd h (by decide), by rw [HE.out]; exact HP.out⟩, hb⟩

/-- The number that a text of a kind is, if it is just that number's own. -/
def readN (kind : Int) (l : List UInt8) : Option Nat := (parN kind l).bind fun x => if numL kind x = l then some x else none
def numV (o : Option Nat) : Value := match o with
  | some x => .tuple #[.agg #[.int .u64 (x : Int), .string ⟨#[]⟩], .int .i64 0]
  | none => .tuple #[.agg #[.int .u64 0, .string ⟨#[]⟩], .int .i64 6]

set_option maxHeartbeats 4000000 in
theorem cell_readNum (kind : Int) (hk : kind = 0 ∨ kind = 1 ∨ kind = 2 ∨ kind = 5) (s : ByteArray) (l : List UInt8) (w : World) (h : RdS s l) (hL : Lib4 w) :
    Calls Tryz.prog 61 #[.int .i64 kind, .string s] w fun e w' => e = .returned (numV (readN kind l)) ∧ Below w.heap.size w w' := by
  have hb0 : Below w.heap.size w (w.alloc (.cells #[.int .u64 0, .string ⟨#[]⟩] 45)) := (Below.refl _ _).alloc (Nat.le_refl _) _
  have hR : readN kind l = (parN kind l).bind fun x => if numL kind x = l then some x else none := rfl
  have HR := Lib.hid hR
  have hL0 := hL.later hb0
  clear hR hL
  obtain ⟨N0, N1, N2⟩ := new1 w (.cells #[.int .u64 0, .string ⟨#[]⟩] 45)
  obtain ⟨w0, hw0⟩ : ∃ w0, w0 = w.alloc (.cells #[.int .u64 0, .string ⟨#[]⟩] 45) := ⟨_, rfl⟩
  rw [← hw0] at N0 N1 N2 hL0 hb0
  go_enter Tryz.func61, Tryz.ntmps61
  go_wp2_with fail
  rw [← hw0]
  clear hw0
  refine (cell_parseNum kind hk s l w0 h hL0.errs).mono ?_
  rintro e w1 ⟨⟨y, ev, rfl, hy, _, hp⟩, hb⟩
  have q := keepB N1 hb
  have HB := Lib.hid (N2.trans (hb.mono N2.size))
  have hL1 := hL0.later hb
  clear hb N0 N1 N2 hb0 hL0
  rcases hp with ⟨hp, rfl⟩ | ⟨hp, tp, p, rfl⟩
  · have HP := Lib.hid hp
    clear hp
    go_wp2_with fail
    refine (cell_numText kind hk y hy w1 hL1.l3).mono ?_
    rintro e w2 ⟨⟨t, rfl, ht⟩, hb⟩
    replace q := keepB q hb
    replace HB := Lib.hid (HB.out.trans (hb.mono HB.out.size))
    have c0 := new_cellC (i := 0) q rfl
    have c1 := new_cellC (i := 1) q rfl
    have f0 : w2.frozen? ⟨w.heap.size, 0, none⟩ = false := frozen_of_row _ _ _ _ _ q
    have f1 : w2.frozen? ⟨w.heap.size, 1, none⟩ = false := frozen_of_row _ _ _ _ _ q
    clear hb hL1
    by_cases he : numL kind y = l
    · have hne : (t.toList == s.toList) = true := by rw [ht.toList, h.toList, he]; simp
      have HE := Lib.hid he
      clear he ht
      go_wp2
      obtain ⟨k0, k1, k2⟩ := two_cells q (.int .u64 (y : Int)) (.string ⟨#[]⟩)
      refine bodyPost_ret (by simp [results, Tryz.results61, go_sem, k0, k1, k2]; try rfl) rfl ?_
      refine ⟨?_, (HB.out.setCell (Nat.le_refl _) _).setCell (Nat.le_refl _) _⟩
      rw [HR.out, HP.out]
      simp [numV, HE.out]
    · have hne : (t.toList == s.toList) = false := by rw [ht.toList, h.toList]; simp [he]
      have HE := Lib.hid he
      clear he ht
      go_wp2
      obtain ⟨k0, k1, k2⟩ := two_cells q (.int .u64 0) (.string ⟨#[]⟩)
      refine bodyPost_ret (by simp [results, Tryz.results61, go_sem, k0, k1, k2]; try rfl) rfl ?_
      refine ⟨?_, (HB.out.setCell (Nat.le_refl _) _).setCell (Nat.le_refl _) _⟩
      rw [HR.out, HP.out]
      simp [numV, HE.out]
  · have HP := Lib.hid hp
    have c0 := new_cellC (i := 0) q rfl
    have c1 := new_cellC (i := 1) q rfl
    have f0 : w1.frozen? ⟨w.heap.size, 0, none⟩ = false := frozen_of_row _ _ _ _ _ q
    have f1 : w1.frozen? ⟨w.heap.size, 1, none⟩ = false := frozen_of_row _ _ _ _ _ q
    clear hp hL1
    go_wp2
    obtain ⟨k0, k1, k2⟩ := two_cells q (.int .u64 0) (.string ⟨#[]⟩)
    refine bodyPost_ret (by simp [results, Tryz.results61, go_sem, k0, k1, k2]; try rfl) rfl ?_
    refine ⟨?_, (HB.out.setCell (Nat.le_refl _) _).setCell (Nat.le_refl _) _⟩
    rw [HR.out, HP.out]
    simp [numV]

end Go.Proofs.YtkljkpffpdpphaaGreatDoor

