/-
  The walks of layer 1's functions that write bytes: putUint, Uint, Int, Bytes.
-/
import Derived.Test.YtgikcbljkkmkgaaWireNums
set_option linter.unusedVariables false
set_option linter.unusedSimpArgs false
set_option maxRecDepth 1000000
namespace Go.Proofs.Ytgikcbljkkmkgaa
open Go.RowKit

theorem u8_or128_wrap (y : Nat) : bits .or .u8 ((y : Int) % 256) 128 = ((UInt8.ofNat (128 + y % 128)).toNat : Int) := by
  rw [show ((y : Int) % 256) = ((y % 256 : Nat) : Int) by omega, Lib.u8_or128_any _ (by omega) (by omega)]
  rw [UInt8.toNat_ofNat']
  omega

theorem byte_128 (y : Nat) : ((UInt8.ofNat (128 + y % 128)).toNat : Int) = 128 + (y % 128 : Nat) := by
  rw [UInt8.toNat_ofNat']; omega

set_option maxHeartbeats 1000000 in
set_option maxRecDepth 1000000 in
theorem wire_putUint (x : Int) (h0 : 0 ≤ x) (h1 : x ≤ 18446744073709551615) (g n cap : Nat) (cur : List Value) (w : World) (hn : n = (encU x.toNat).length) (hc : n ≤ cur.length)
    (hg : w.heap[g]? = some (.cells cur.toArray 5 (0, 0))) :
    Calls Try.prog 33 #[.slice (some ⟨g, 0, none⟩) n cap, .int .u64 x] w fun e w' => e = .returned (.tuple #[]) ∧
      w'.heap[g]? = some (.cells (cellsB (encU x.toNat) ++ cur.drop n).toArray 5 (0, 0)) ∧ w.grownBy w' (some g) := by
  obtain ⟨m, rfl⟩ := Int.eq_ofNat_of_zero_le h0
  rw [Int.toNat_natCast] at *
  obtain ⟨j, hj1, hj2, hj3, hj4⟩ := encU_pre m
  have hle := encU_le m (by omega)
  have hn1 : 1 ≤ n := by omega
  have hn10 : n ≤ 10 := by omega
  obtain rfl : j = n - 1 := by omega
  have HG := Lib.hid hg
  have HJ := Lib.hid (And.intro hn (And.intro hj2 hj3))
  clear hn hg hj1 hj2 hj3 hj4 hle
  go_enter Try.func33, Try.ntmps33
  go_wp2
  go_loopw [1, 7] (fun y i wr => ∃ k : Nat, k ≤ n ∧ i = .int .i64 k ∧ y = .int .u64 ((m : Int) / 128 ^ k) ∧ Hid (wr.heap[g]? = some (.cells (cellsB (preU m k) ++ cur.drop k).toArray 5 (0, 0))) ∧ w.grownBy wr (some g)) (fun _ i _ => n - (intOf i).toNat)
  case atStart => exact ⟨0, by omega, rfl, by simp, by simpa [preU, cellsB, Hid] using HG.out, World.grownBy.refl _ _⟩
  case round =>
    obtain ⟨k, hk, rfl, rfl, HB, hgr⟩ := hrel
    by_cases hlt : k < n
    · have hcell : ∃ old, wr.cell? ⟨g, k, none⟩ = some old := by
        rw [cell_of_row _ _ _ _ _ _ HB.out]
        exact ⟨_, Array.getElem?_eq_getElem (by simp [cellsB_length, preU_length]; omega)⟩
      obtain ⟨old, hcell⟩ := hcell
      have hfr : wr.frozen? ⟨g, k, none⟩ = false := frozen_of_row _ _ _ _ _ HB.out
      go_wp2
      go_roundw
      case rel =>
        refine ⟨k + 1, by omega, by go_num, ?_, ?_, grown_setCell hgr _⟩
        · rw [Int.pow_succ, Int.ediv_ediv_of_nonneg (Int.le_of_lt (Int.pow_pos (by decide)))]
        · have := block_setCell (k := k) HB.out (.int .u8 (bits BinOp.or IntKind.u8 ((m : Int) / 128 ^ k % 256) 128))
          rw [set_at _ _ _ k (by simp [cellsB_length, preU_length]) (by simp; omega)] at this
          refine Lib.hid (this.trans ?_)
          rw [show ((m : Int) / 128 ^ k % 256) = ((m / 128 ^ k : Nat) : Int) % 256 by push_cast; rfl, u8_or128_wrap, preU, cellsB_append, List.drop_drop]
          rfl
      case measure => simp [intOf]; omega
    · obtain rfl : k = n := by omega
      have hcell : wr.cell? ⟨g, k - 1, none⟩ = some (.int .u8 ((UInt8.ofNat (128 + m / 128 ^ (k - 1) % 128)).toNat : Int)) := by
        rw [cell_mid HB.out (by simp [cellsB_length, preU_length]; omega)]
        obtain ⟨i, rfl⟩ : ∃ i, k = i + 1 := ⟨k - 1, by omega⟩
        rw [preU, cellsB_append, List.getElem?_append_right (by simp [cellsB_length, preU_length])]
        simp [cellsB, cellB, preU_length]
      have hfr : wr.frozen? ⟨g, k - 1, none⟩ = false := frozen_of_row _ _ _ _ _ HB.out
      rw [byte_128] at hcell
      have hb : m / 128 ^ (k - 1) % 128 < 128 := Nat.mod_lt _ (by decide)
      obtain ⟨q, hq⟩ : ∃ q, q = m / 128 ^ (k - 1) % 128 := ⟨_, rfl⟩
      rw [← hq] at hcell hb
      have HQ := Lib.hid hq
      clear hq
      go_wp2
      go_end0
      refine ⟨rfl, ?_, grown_setCell hgr _⟩
      obtain ⟨i, rfl⟩ : ∃ i, k = i + 1 := ⟨k - 1, by omega⟩
      have hj := HJ.out
      have hq := HQ.out
      simp only [Nat.add_sub_cancel] at hj hq ⊢
      have hB := HB.out
      rw [preU, cellsB_append, List.append_assoc] at hB
      have := block_setCell (k := i) hB (.int .u8 (128 + (q : Int) - 128))
      rw [set_at _ _ _ i (by simp [cellsB_length, preU_length]) (by simp [cellsB])] at this
      refine this.trans ?_
      rw [hj.2.2, cellsB_append]
      have e : cellB (UInt8.ofNat (m / 128 ^ i)) = .int .u8 (128 + (q : Int) - 128) := by
        have hz := hj.2.1
        rw [cellB, UInt8.toNat_ofNat']
        clear hB this hj hcell HB HJ HQ
        generalize m / 128 ^ i = z at *
        congr 1
        omega
      simp [cellsB, e]

/-- The bytes of bytes: how many they are, and they. -/
def encB (l : List UInt8) : List UInt8 := encU l.length ++ l

theorem splice_head (l m : List UInt8) (n : Nat) (hn : n = l.length) : splice (l ++ List.replicate m.length 0) n m = l ++ m := by
  subst hn
  unfold splice
  rw [List.take_left' rfl, List.drop_of_length_le (by simp)]
  simp

theorem encB_length (l : List UInt8) : (encB l).length = (encU l.length).length + l.length := by simp [encB]

set_option maxHeartbeats 400000 in
/-- Bytes: the two ways, with none and with some, alike. -/
theorem wire_Bytes (v : Value) (l : List UInt8) (w : World) (h : Rd w v l) :
    Calls Try.prog 20 #[v] w (RetB w (encB l)) := by
  have hsm := h.small
  have hle := encU_le l.length (by omega)
  obtain ⟨hd, hhd⟩ : ∃ hd, hd = (encU l.length).length := ⟨_, rfl⟩
  have hmk := make_bytes ((hd : Int) + (l.length : Int)) (by omega) (by omega)
  rw [show ((hd : Int) + (l.length : Int)).toNat = hd + l.length by omega] at hmk
  have HH := Lib.hid hhd
  rw [← hhd] at hle
  have hlen := h.len
  clear hhd
  obtain ⟨dp, hsl, hdp, _⟩ := slice_from (some ⟨w.heap.size, 0, none⟩) (hd + l.length) (hd + l.length) hd (by omega) (Nat.le_refl _)
  rw [Nat.add_sub_cancel_left] at hsl
  have HD := Lib.hid hdp
  clear hdp
  go_enter Try.func20, Try.ntmps20
  go_wp2_with (go_at_call 23; refine (wire_Size _ (by omega) (by omega) _).mono ?_; rintro e w' ⟨rfl, rfl⟩; rw [Int.toNat_natCast, ← HH.out])
  refine (wire_putUint _ (by omega) (by omega) w.heap.size _ _ (cellsB (List.replicate (hd + l.length) 0)) _ (by rw [Int.toNat_natCast]; exact HH.out) (by simp [cellsB_length]) (heap_alloc_new w _)).mono ?_
  rintro e w1 ⟨rfl, hB, hgr⟩
  rw [Int.toNat_natCast] at hB
  have hbel : Below w.heap.size w w1 := ((Below.refl _ _).alloc (Nat.le_refl _) _).grown hgr (by simp) (by simp)
  have hB' : w1.heap[w.heap.size]? = some (.cells (cellsB (encU l.length ++ List.replicate l.length 0)).toArray 5 (0, 0)) := by
    rw [hB, cellsB_append]
    simp [cellsB]
  have HB := Lib.hid hB'
  have h1 := h.later hbel (Nat.le_refl _)
  clear hB hB' hgr hmk
  go_wp2_with ((with_reducible refine wpl_copy dp l.length l.length ?hd v l ?hs h1 ?hn w.heap.size hd _ HB.out ?hdp ?hfit w.heap.size w hbel (Nat.le_refl _) ?_))
  case hd => rfl
  case hs => rfl
  case hn => exact Nat.le_refl _
  case hdp => intro hp; have := HD.out w.heap.size 0 rfl (by omega); rwa [Nat.zero_add] at this
  case hfit => have := HH.out; simp; omega
  intro w2 HG2 hb2
  rw [splice_head _ _ _ HH.out] at HG2
  go_wp2
  go_ret
  have hlen : (encB l).length = hd + l.length := by rw [encB_length, HH.out]
  exact ⟨_, rfl, own_of_block (Nat.le_refl _) HG2.out hlen.symm (Nat.le_refl _) (by unfold maxLen; omega) (by rw [cellsB_length]; exact hlen) (List.take_of_length_le (by rw [cellsB_length]; exact Nat.le_of_eq hlen)), hb2⟩

end Go.Proofs.Ytgikcbljkkmkgaa
