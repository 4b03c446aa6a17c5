/-
  The walks of the document's own answers for layer 2: Sum, Put, Seal, Open.
-/
import Derived.Test.YtkljkpffpdpphaaDoorCrcTurn
import Derived.Test.YtkljkpffpdpphaaDoorLater
import Derived.Laws.BitsAll
import Derived.Lib.SlBytesConst
set_option linter.unusedVariables false
set_option linter.unusedSimpArgs false
set_option maxRecDepth 1000000
namespace Go.Proofs.YtkljkpffpdpphaaDoor
open Go.RowKit

theorem reg_take_succ {l : List UInt8} {k : Nat} (h : k < l.length) (s : Nat) : Crc.reg s (l.take (k + 1)) = Crc.pow 8 (Crc.reg s (l.take k) ^^^ (l.getD k 0).toNat) := by
  have e : l.take (k + 1) = l.take k ++ [l.getD k 0] := by
    rw [List.take_succ_eq_append_getElem h]; simp [List.getD, h]
  rw [e, Crc.reg_append]; rfl

theorem pow_last (j s : Nat) : Crc.pow (j + 1) s = Crc.step (Crc.pow j s) := by
  rw [Crc.pow_add]; rfl

theorem bits_byte {q : Nat} (hq : q < 4294967296) (l : List UInt8) (k : Nat) : bits .xor .u32 (q : Int) (at8 l k) = ((q ^^^ (l.getD k 0).toNat : Nat) : Int) := by
  unfold at8
  have := (l.getD k 0).toNat_lt
  exact u32_xor_nat q _ hq (by omega)

theorem bits_poly {q : Nat} (hq : q < 4294967296) (ho : q % 2 = 1) : bits .xor .u32 ((q : Int) / 2) 2197175160 = ((Crc.step q : Nat) : Int) := by
  have e : Crc.step q = q / 2 ^^^ Crc.P := if_pos ho
  rw [e, show ((q : Int) / 2) = ((q / 2 : Nat) : Int) from by omega]
  exact u32_xor_nat (q / 2) Crc.P (by omega) (by decide)

set_option maxHeartbeats 400000 in
set_option maxRecDepth 1000000 in
theorem ref_Sum (v : Value) (l : List UInt8) (w : World) (h : Rd w v l) :
    Calls Tryd.prog 35 #[v] w fun e w' => e = .returned (.int .u32 (Crc.sum l : Nat)) ∧ w = w' := by
  have hlen := h.len
  have hidx := h.idx
  have hcel := h.cells
  have hsm := h.small
  go_enter Tryd.func35, Tryd.ntmps35
  go_wp2
  go_loop [3, 4] (fun s i => ∃ k q : Nat, k ≤ l.length ∧ i = .int .i64 k ∧ s = .int .u32 (q : Int) ∧ q < 4294967296 ∧ Hid (q = Crc.reg Crc.F (l.take k))) (fun _ i => l.length - (intOf i).toNat)
  case atStart => exact ⟨0, 4294967295, by omega, rfl, rfl, by omega, Lib.hid rfl⟩
  case round =>
    obtain ⟨k, q, hk, rfl, rfl, hq, HQ⟩ := hrel
    by_cases hlt : k < l.length
    · have hb := bits_byte hq l k
      have hc0 := at8_lo l k
      have hc1 := at8_hi l k
      obtain ⟨p, hp⟩ : ∃ p, p = q ^^^ (l.getD k 0).toNat := ⟨_, rfl⟩
      have hpl : p < 4294967296 := by rw [hp]; exact Crc.byte_lt hq _
      rw [← hp] at hb
      have HP := Lib.hid hp
      clear hp
      go_wp2
      go_loop [3, 5] (fun s i => ∃ j r : Nat, j ≤ 8 ∧ i = .int .i64 j ∧ s = .int .u32 (r : Int) ∧ r < 4294967296 ∧ Hid (r = Crc.pow j p)) (fun _ i => 8 - (intOf i).toNat)
      case atStart => exact ⟨0, p, by omega, rfl, rfl, hpl, Lib.hid rfl⟩
      case round =>
        obtain ⟨j, r, hj, rfl, rfl, hr, HR⟩ := hrel
        by_cases hj8 : j < 8
        · by_cases ho : r % 2 = 1
          · have hbp := bits_poly hr ho
            have hst := Crc.step_lt hr
            go_wp2
            go_round
            case rel => exact ⟨j + 1, Crc.step r, by omega, by go_num, rfl, hst, Lib.hid (by rw [pow_last, ← HR.out])⟩
            case measure => simp [intOf]; omega
          · have hst := Crc.step_lt hr
            have he : Crc.step r = r / 2 := by unfold Crc.step; rw [if_neg ho]
            go_wp2
            go_round
            case rel => exact ⟨j + 1, Crc.step r, by omega, by go_num, by rw [he]; push_cast; rfl, hst, Lib.hid (by rw [pow_last, ← HR.out])⟩
            case measure => simp [intOf]; omega
        · obtain rfl : j = 8 := by omega
          go_wp2
          go_round
          case rel => exact ⟨k + 1, r, by omega, by go_num, rfl, hr, Lib.hid (by rw [reg_take_succ hlt, HR.out, HP.out, HQ.out])⟩
          case measure => simp [intOf]; omega
    · obtain rfl : k = l.length := by omega
      have hx := u32_xor_nat 4294967295 q (by omega) hq
      go_wp2
      go_ret
      refine ⟨?_, rfl⟩
      have := HQ.out
      rw [List.take_length] at this
      unfold Crc.sum
      rw [← this]
      exact congrArg (fun z => Ending.returned (Value.int .u32 z)) hx

/-! ## Put, Seal, Open -/

/-- A sum, and what ends with it. -/
def openA (l : List UInt8) : List UInt8 × Bool := if Crc.good l then (l.take (l.length - 4), true) else ([], false)

/-- What a call that makes bytes, and tells whether there are some, answers. -/
def RetO (w : World) (r : List UInt8 × Bool) (e : Ending) (w' : World) : Prop := ∃ v, e = .returned (.tuple #[v, .bool r.2]) ∧ Own w' w.heap.size v r.1 ∧ Below w.heap.size w w'

theorem put_cells (m : Nat) : (#[.int .u8 (m % 256 : Nat), .int .u8 (m / 256 % 256 : Nat), .int .u8 (m / 65536 % 256 : Nat), .int .u8 (m / 16777216 % 256 : Nat)] : Array Value) = (cellsB (Crc.put m)).toArray := by
  have t : ∀ n, n < 256 → (UInt8.ofNat n).toNat = n := fun n hn => by rw [UInt8.toNat_ofNat']; omega
  unfold Crc.put cellsB cellB
  simp only [List.map_cons, List.map_nil]
  rw [t _ (by omega), t _ (by omega), t _ (by omega), t _ (by omega)]

theorem put_cells_int (m : Nat) (hm : m < 4294967296) : (#[.int .u8 ((m : Int) % 256), .int .u8 ((m : Int) / 256 % 256), .int .u8 ((m : Int) / 65536 % 256), .int .u8 ((m : Int) / 16777216)] : Array Value) = (cellsB (Crc.put m)).toArray := by
  rw [← put_cells, show ((m : Int) % 256) = ((m % 256 : Nat) : Int) from by omega, show ((m : Int) / 256 % 256) = ((m / 256 % 256 : Nat) : Int) from by omega, show ((m : Int) / 65536 % 256) = ((m / 65536 % 256 : Nat) : Int) from by omega, show ((m : Int) / 16777216) = ((m / 16777216 % 256 : Nat) : Int) from by omega]

end Go.Proofs.YtkljkpffpdpphaaDoor
