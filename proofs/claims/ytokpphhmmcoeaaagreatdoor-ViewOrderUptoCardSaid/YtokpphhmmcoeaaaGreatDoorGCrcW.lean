/-
  The walks of the document's own answers for layer 2: Sum, Put, Seal, Open.
-/
import Derived.Test.YtokpphhmmcoeaaaGreatDoorGCrc
import Derived.Test.YtokpphhmmcoeaaaGreatDoorGBaseA
import Derived.Laws.BitsAll
import Derived.Lib.SlBytesConst
set_option linter.unusedVariables false
set_option linter.unusedSimpArgs false
set_option maxRecDepth 1000000
namespace Go.Proofs.YtokpphhmmcoeaaaGreatDoor
open Go.RowKit

theorem reg_take_succ {l : List UInt8} {k : Nat} (h : k < l.length) (s : Nat) : Crc.reg s (l.take (k + 1)) = Crc.pow 8 (Crc.reg s (l.take k) ^^^ (l.getD k 0).toNat) := by
  have e : l.take (k + 1) = l.take k ++ [l.getD k 0] := by
    rw [List.take_succ_eq_append_getElem h]; simp [List.getD, h]
  rw [e, Crc.reg_append]; rfl

theorem pow_last (j s : Nat) : Crc.pow (j + 1) s = Crc.step (Crc.pow j s) := by
  rw [Crc.pow_add]; rfl

theorem bits_byte {q : Nat} (hq : q < 4294967296) (l : List UInt8) (k : Nat) : bits .xor .u32 (q : Int) (at8 l k) = ((q ^^^ (l.getD k 0).toNat : Nat) : Int) := by
  unfold at8
  have := (l.getD k 0).toNat_lt
  exact u32_xor_nat q _ hq (by omega)

theorem bits_poly {q : Nat} (hq : q < 4294967296) (ho : q % 2 = 1) : bits .xor .u32 ((q : Int) / 2) 2197175160 = ((Crc.step q : Nat) : Int) := by
  have e : Crc.step q = q / 2 ^^^ Crc.P := if_pos ho
  rw [e, show ((q : Int) / 2) = ((q / 2 : Nat) : Int) from by omega]
  exact u32_xor_nat (q / 2) Crc.P (by omega) (by decide)

set_option maxHeartbeats 400000 in
set_option maxRecDepth 1000000 in
theorem ref_Sum (v : Value) (l : List UInt8) (w : World) (h : Rd w v l) :
    Calls Tryz.prog 48 #[v] w fun e w' => e = .returned (.int .u32 (Crc.sum l : Nat)) ∧ w = w' := by
  have hlen := h.len
  have hidx := h.idx
  have hcel := h.cells
  have hsm := h.small
  go_enter Tryz.func48, Tryz.ntmps48
  go_wp2
  go_loop [3, 4] (fun s i => ∃ k q : Nat, k ≤ l.length ∧ i = .int .i64 k ∧ s = .int .u32 (q : Int) ∧ q < 4294967296 ∧ Hid (q = Crc.reg Crc.F (l.take k))) (fun _ i => l.length - (intOf i).toNat)
  case atStart => exact ⟨0, 4294967295, by omega, rfl, rfl, by omega, Lib.hid rfl⟩
  case round =>
    obtain ⟨k, q, hk, rfl, rfl, hq, HQ⟩ := hrel
    by_cases hlt : k < l.length
    · have hb := bits_byte hq l k
      have hc0 := at8_lo l k
      have hc1 := at8_hi l k
      obtain ⟨p, hp⟩ : ∃ p, p = q ^^^ (l.getD k 0).toNat := ⟨_, rfl⟩
      have hpl : p < 4294967296 := by rw [hp]; exact Crc.byte_lt hq _
      rw [← hp] at hb
      have HP := Lib.hid hp
      clear hp
      go_wp2
      go_loop [3, 5] (fun s i => ∃ j r : Nat, j ≤ 8 ∧ i = .int .i64 j ∧ s = .int .u32 (r : Int) ∧ r < 4294967296 ∧ Hid (r = Crc.pow j p)) (fun _ i => 8 - (intOf i).toNat)
      case atStart => exact ⟨0, p, by omega, rfl, rfl, hpl, Lib.hid rfl⟩
      case round =>
        obtain ⟨j, r, hj, rfl, rfl, hr, HR⟩ := hrel
        by_cases hj8 : j < 8
        · by_cases ho : r % 2 = 1
          · have hbp := bits_poly hr ho
            have hst := Crc.step_lt hr
            go_wp2
            go_round
            case rel => exact ⟨j + 1, Crc.step r, by omega, by go_num, rfl, hst, Lib.hid (by rw [pow_last, ← HR.out])⟩
            case measure => simp [intOf]; omega
          · have hst := Crc.step_lt hr
            have he : Crc.step r = r / 2 := by unfold Crc.step; rw [if_neg ho]
            go_wp2
            go_round
            case rel => exact ⟨j + 1, Crc.step r, by omega, by go_num, by rw [he]; push_cast; rfl, hst, Lib.hid (by rw [pow_last, ← HR.out])⟩
            case measure => simp [intOf]; omega
        · obtain rfl : j = 8 := by omega
          go_wp2
          go_round
          case rel => exact ⟨k + 1, r, by omega, by go_num, rfl, hr, Lib.hid (by rw [reg_take_succ hlt, HR.out, HP.out, HQ.out])⟩
          case measure => simp [intOf]; omega
    · obtain rfl : k = l.length := by omega
      have hx := u32_xor_nat 4294967295 q (by omega) hq
      go_wp2
      go_ret
      refine ⟨?_, rfl⟩
      have := HQ.out
      rw [List.take_length] at this
      unfold Crc.sum
      rw [← this]
      exact congrArg (fun z => Ending.returned (Value.int .u32 z)) hx

/-! ## Put, Seal, Open -/

/-- A sum, and what ends with it. -/
def openA (l : List UInt8) : List UInt8 × Bool := if Crc.good l then (l.take (l.length - 4), true) else ([], false)

/-- What a call that makes bytes, and tells whether there are some, answers. -/
def RetO (w : World) (r : List UInt8 × Bool) (e : Ending) (w' : World) : Prop := ∃ v, e = .returned (.tuple #[v, .bool r.2]) ∧ Own w' w.heap.size v r.1 ∧ Below w.heap.size w w'

theorem put_cells (m : Nat) : (#[.int .u8 (m % 256 : Nat), .int .u8 (m / 256 % 256 : Nat), .int .u8 (m / 65536 % 256 : Nat), .int .u8 (m / 16777216 % 256 : Nat)] : Array Value) = (cellsB (Crc.put m)).toArray := by
  have t : ∀ n, n < 256 → (UInt8.ofNat n).toNat = n := fun n hn => by rw [UInt8.toNat_ofNat']; omega
  unfold Crc.put cellsB cellB
  simp only [List.map_cons, List.map_nil]
  rw [t _ (by omega), t _ (by omega), t _ (by omega), t _ (by omega)]

theorem put_cells_int (m : Nat) (hm : m < 4294967296) : (#[.int .u8 ((m : Int) % 256), .int .u8 ((m : Int) / 256 % 256), .int .u8 ((m : Int) / 65536 % 256), .int .u8 ((m : Int) / 16777216)] : Array Value) = (cellsB (Crc.put m)).toArray := by
  rw [← put_cells, show ((m : Int) % 256) = ((m % 256 : Nat) : Int) from by omega, show ((m : Int) / 256 % 256) = ((m / 256 % 256 : Nat) : Int) from by omega, show ((m : Int) / 65536 % 256) = ((m / 65536 % 256 : Nat) : Int) from by omega, show ((m : Int) / 16777216) = ((m / 16777216 % 256 : Nat) : Int) from by omega]

end Go.Proofs.YtokpphhmmcoeaaaGreatDoor


/-
  The walks of layer 2's functions: More, Sum, Put, Seal, Open.
-/
namespace Go.Proofs.YtokpphhmmcoeaaaGreatDoor
open Go.RowKit

theorem bits_byte' {q : Nat} (hq : q < 4294967296) (c : UInt8) : bits .xor .u32 (q : Int) (c.toNat : Int) = ((q ^^^ c.toNat : Nat) : Int) := by
  have := c.toNat_lt
  exact u32_xor_nat q _ hq (by omega)

theorem bits_one {q : Nat} (hq : q < 4294967296) : bits .and .u32 (q : Int) 1 = ((q % 2 : Nat) : Int) := by
  have := u32_and_nat q 1 hq (by decide)
  rw [nat_mask1] at this
  exact this

set_option maxHeartbeats 1000000 in
set_option maxRecDepth 1000000 in
/-- What each byte does to the sum's variable. -/
theorem crc_add (c : UInt8) (g q : Nat) (hq : q < 4294967296) (w : World) (hg : w.heap[g]? = some (.cells #[.int .u32 (q : Int)] 28 (0, 0))) :
    Calls Tryz.prog 77 #[.int .u8 (c.toNat : Int), .pointer (some ⟨g, 0, none⟩)] w fun e w' => e = .returned (.tuple #[]) ∧
      w'.heap[g]? = some (.cells #[.int .u32 ((Crc.pow 8 (q ^^^ c.toNat) : Nat) : Int)] 28 (0, 0)) ∧ w.grownBy w' (some g) := by
  have hb := bits_byte' hq c
  have hc1 := c.toNat_lt
  have hcell := cell_of_one hg
  have hfree := free_of_one hg
  obtain ⟨p, hp⟩ : ∃ p, p = q ^^^ c.toNat := ⟨_, rfl⟩
  have hpl : p < 4294967296 := by rw [hp]; exact Crc.byte_lt hq _
  rw [← hp] at hb
  rw [← hp]
  have HG := Lib.hid hg
  clear hp hg
  go_enter Tryz.func77, Tryz.ntmps77
  go_wp2
  go_loopw [8] (fun i wr => ∃ j r : Nat, j ≤ 8 ∧ i = .int .i64 j ∧ r < 4294967296 ∧ Hid (r = Crc.pow j p) ∧ Hid (wr.heap[g]? = some (.cells #[.int .u32 (r : Int)] 28 (0, 0))) ∧ w.grownBy wr (some g)) (fun i _ => 8 - (intOf i).toNat)
  case atStart => exact ⟨0, p, by omega, rfl, hpl, Lib.hid rfl, Lib.hid (one_setCell HG.out), grown_setCell (World.grownBy.refl _ _) _⟩
  case round =>
    obtain ⟨j, r, hj, rfl, hr, HR, HW, hgr⟩ := hrel
    have hcell := cell_of_one HW.out
    have hfree := free_of_one HW.out
    by_cases hj8 : j < 8
    · have hst := Crc.step_lt hr
      by_cases ho : r % 2 = 1
      · have hbp := bits_poly hr ho
        go_wp2
        go_roundw
        case rel => exact ⟨j + 1, Crc.step r, by omega, by go_num, hst, Lib.hid (by rw [pow_last, ← HR.out]), Lib.hid (one_setCell HW.out), grown_setCell hgr _⟩
        case measure => simp [intOf]; omega
      · have he : Crc.step r = r / 2 := by unfold Crc.step; rw [if_neg ho]
        go_wp2
        go_roundw
        case rel => exact ⟨j + 1, Crc.step r, by omega, by go_num, hst, Lib.hid (by rw [pow_last, ← HR.out]), Lib.hid (by rw [he]; push_cast; exact one_setCell HW.out), grown_setCell hgr _⟩
        case measure => simp [intOf]; omega
    · obtain rfl : j = 8 := by omega
      go_wp2
      go_end0
      exact ⟨rfl, by rw [← HR.out]; exact HW.out, hgr⟩

set_option maxHeartbeats 1000000 in
set_option maxRecDepth 1000000 in
theorem crc_More (s : Nat) (hs : s < 4294967296) (v : Value) (l : List UInt8) (w : World) (h : Rd w v l) :
    Calls Tryz.prog 56 #[.int .u32 (s : Int), v] w fun e w' => e = .returned (.int .u32 (Crc.more s l : Nat)) ∧ Below w.heap.size w w' := by
  have hmf : ∀ (fn : Fn) (first cap : Array Value) (w : World), (Instr.makeFunc fn first cap).run Tryz.prog w = .ok (.func fn first cap) w := fun _ _ _ _ => rfl
  have hlen := h.len
  have hidx := h.idx
  have hsm := h.small
  have hx0 : bits .xor .u32 (s : Int) 4294967295 = ((s ^^^ 4294967295 : Nat) : Int) := u32_xor_nat s 4294967295 hs (by decide)
  have hq0 : s ^^^ 4294967295 < 4294967296 := Nat.xor_lt_two_pow (n := 32) hs (by decide)
  obtain ⟨q0, hq⟩ : ∃ q, q = s ^^^ 4294967295 := ⟨_, rfl⟩
  rw [← hq] at hx0 hq0
  have HQ := Lib.hid hq
  clear hq
  go_enter Tryz.func56, Tryz.ntmps56
  go_wp2
  go_loopw [14] (fun i wr => ∃ k q : Nat, k ≤ l.length ∧ i = .int .i64 k ∧ q < 4294967296 ∧ Hid (q = Crc.reg q0 (l.take k)) ∧ Hid (wr.heap[w.heap.size]? = some (.cells #[.int .u32 (q : Int)] 28 (0, 0))) ∧ Below w.heap.size w wr) (fun i _ => l.length - (intOf i).toNat)
  case atStart => exact ⟨0, q0, by omega, rfl, hq0, Lib.hid rfl, Lib.hid (heap_alloc_new w _), (Below.refl _ _).alloc (Nat.le_refl _) _⟩
  case round =>
    obtain ⟨k, q, hk, rfl, hq, HK, HW, hbel⟩ := hrel
    by_cases hlt : k < l.length
    · have hcel := (h.later hbel (Nat.le_refl _)).cells k hlt
      unfold at8 at hcel
      obtain ⟨c, hc⟩ : ∃ c, c = l.getD k 0 := ⟨_, rfl⟩
      rw [← hc] at hcel
      have hc1 := c.toNat_lt
      have HC := Lib.hid hc
      clear hc
      go_wp2_with fail
      refine (crc_add c w.heap.size q hq wr HW.out).mono ?_
      rintro e w2 ⟨rfl, hw2, hg2⟩
      have HW2 := Lib.hid hw2
      clear hw2
      go_wp2
      go_roundw
      case rel => exact ⟨k + 1, _, by omega, by go_num, Crc.pow_lt (Crc.byte_lt hq c), Lib.hid (by rw [reg_take_succ hlt, ← HC.out, ← HK.out]), HW2, hbel.grown hg2 hbel.size (by simp)⟩
      case measure => simp [intOf]; omega
    · obtain rfl : k = l.length := by omega
      have hcell := cell_of_one HW.out
      have hx : bits .xor .u32 (q : Int) 4294967295 = ((q ^^^ 4294967295 : Nat) : Int) := u32_xor_nat q 4294967295 hq (by decide)
      go_wp2
      go_ret
      refine ⟨?_, hbel⟩
      have e : Crc.more s l = q ^^^ 4294967295 := by
        rw [HK.out, HQ.out, List.take_length]
        unfold Crc.more
        rw [Nat.xor_comm, Nat.xor_comm Crc.F s]; rfl
      rw [e]
      rfl

theorem crc_Sum (v : Value) (l : List UInt8) (w : World) (h : Rd w v l) :
    Calls Tryz.prog 34 #[v] w fun e w' => e = .returned (.int .u32 (Crc.sum l : Nat)) ∧ Below w.heap.size w w' := by
  go_enter Tryz.func34, Tryz.ntmps34
  go_wp2_with fail
  refine (crc_More 0 (by decide) _ _ _ h).mono ?_
  rintro e w1 ⟨rfl, hb⟩
  go_wp2
  go_ret
  exact ⟨rfl, hb⟩

theorem make_bytes_cap (n c : Int) (h0 : 0 ≤ n) (hc : n ≤ c) (h1 : c ≤ 281474976710656) (u : World) : (Instr.makeSlice 84 (.int .i64 n) (.int .i64 c)).run Tryz.prog u =
    .ok (.slice (some ⟨u.heap.size, 0, none⟩) n.toNat c.toNat) (u.alloc (.cells (cellsB (List.replicate c.toNat 0)).toArray 5)) := by
  obtain ⟨i0, hi, hz0, hz1, hz2⟩ := info_parts info_u8
  have h := run_make (P := Tryz.prog) u 84 5 i0 (.int .u8 0) Tryz.underlying84 hi hz0 .i64 .i64 n c h0 hc (by rw [hz2]; omega) (by omega)
  rw [h, hz1]
  congr 3
  simp [madeCells, cellsB, cellB, Value.cells]
  apply Array.ext
  · simp
  · intro i h1 h2
    simp [Nat.mod_one]

theorem make_copy {w' : World} {g : Nat} {l : List UInt8} (hg : Hid (w'.heap[g]? = some (.cells (cellsB (splice (List.replicate (l.length + 4) 0) 0 l)).toArray 5 (0, 0)))) {base : Nat} (hb : base ≤ g) (hs : l.length ≤ 140737488351232) : Own w' base (.slice (some ⟨g, 0, none⟩) l.length (l.length + 4)) l := by
  refine own_of_block hb hg.out rfl (by omega) (by unfold maxLen; omega) ?_ ?_
  · simp [cellsB_length, splice]
  · unfold cellsB
    rw [← List.map_take]
    congr 1
    simp [splice]

theorem crc_digits : Crc.sum [49, 50, 51, 52, 53, 54, 55, 56, 57] = 3808858755 := by decide +kernel

end Go.Proofs.YtokpphhmmcoeaaaGreatDoor

