/-
  The walks of the document's own answers for layer 2: Sum, Put, Seal, Open.
-/
import Derived.Test.YtgikcbljkkmkgaaCrcTurn
import Derived.Test.YtgikcbljkkmkgaaLater
import Derived.Laws.BitsAll
import Derived.Lib.SlBytesConst
set_option linter.unusedVariables false
set_option linter.unusedSimpArgs false
set_option maxRecDepth 1000000
namespace Go.Proofs.Ytgikcbljkkmkgaa
open Go.RowKit

theorem reg_take_succ {l : List UInt8} {k : Nat} (h : k < l.length) (s : Nat) : Crc.reg s (l.take (k + 1)) = Crc.pow 8 (Crc.reg s (l.take k) ^^^ (l.getD k 0).toNat) := by
  have e : l.take (k + 1) = l.take k ++ [l.getD k 0] := by
    rw [List.take_succ_eq_append_getElem h]; simp [List.getD, h]
  rw [e, Crc.reg_append]; rfl

theorem pow_last (j s : Nat) : Crc.pow (j + 1) s = Crc.step (Crc.pow j s) := by
  rw [Crc.pow_add]; rfl

theorem bits_byte {q : Nat} (hq : q < 4294967296) (l : List UInt8) (k : Nat) : bits .xor .u32 (q : Int) (at8 l k) = ((q ^^^ (l.getD k 0).toNat : Nat) : Int) := by
  unfold at8
  have := (l.getD k 0).toNat_lt
  exact u32_xor_nat q _ hq (by omega)

theorem bits_poly {q : Nat} (hq : q < 4294967296) (ho : q % 2 = 1) : bits .xor .u32 ((q : Int) / 2) 2197175160 = ((Crc.step q : Nat) : Int) := by
  have e : Crc.step q = q / 2 ^^^ Crc.P := if_pos ho
  rw [e, show ((q : Int) / 2) = ((q / 2 : Nat) : Int) from by omega]
  exact u32_xor_nat (q / 2) Crc.P (by omega) (by decide)

set_option maxHeartbeats 400000 in
set_option maxRecDepth 1000000 in
theorem ref_Sum (v : Value) (l : List UInt8) (w : World) (h : Rd w v l) :
    Calls Try.prog 35 #[v] w fun e w' => e = .returned (.int .u32 (Crc.sum l : Nat)) ∧ w = w' := by
  have hlen := h.len
  have hidx := h.idx
  have hcel := h.cells
  have hsm := h.small
  go_enter Try.func35, Try.ntmps35
  go_wp2
  go_loop [3, 4] (fun s i => ∃ k q : Nat, k ≤ l.length ∧ i = .int .i64 k ∧ s = .int .u32 (q : Int) ∧ q < 4294967296 ∧ Hid (q = Crc.reg Crc.F (l.take k))) (fun _ i => l.length - (intOf i).toNat)
  case atStart => exact ⟨0, 4294967295, by omega, rfl, rfl, by omega, Lib.hid rfl⟩
  case round =>
    obtain ⟨k, q, hk, rfl, rfl, hq, HQ⟩ := hrel
    by_cases hlt : k < l.length
    · have hb := bits_byte hq l k
      have hc0 := at8_lo l k
      have hc1 := at8_hi l k
      obtain ⟨p, hp⟩ : ∃ p, p = q ^^^ (l.getD k 0).toNat := ⟨_, rfl⟩
      have hpl : p < 4294967296 := by rw [hp]; exact Crc.byte_lt hq _
      rw [← hp] at hb
      have HP := Lib.hid hp
      clear hp
      go_wp2
      go_loop [3, 5] (fun s i => ∃ j r : Nat, j ≤ 8 ∧ i = .int .i64 j ∧ s = .int .u32 (r : Int) ∧ r < 4294967296 ∧ Hid (r = Crc.pow j p)) (fun _ i => 8 - (intOf i).toNat)
      case atStart => exact ⟨0, p, by omega, rfl, rfl, hpl, Lib.hid rfl⟩
      case round =>
        obtain ⟨j, r, hj, rfl, rfl, hr, HR⟩ := hrel
        by_cases hj8 : j < 8
        · by_cases ho : r % 2 = 1
          · have hbp := bits_poly hr ho
            have hst := Crc.step_lt hr
            go_wp2
            go_round
            case rel => exact ⟨j + 1, Crc.step r, by omega, by go_num, rfl, hst, Lib.hid (by rw [pow_last, ← HR.out])⟩
            case measure => simp [intOf]; omega
          · have hst := Crc.step_lt hr
            have he : Crc.step r = r / 2 := by unfold Crc.step; rw [if_neg ho]
            go_wp2
            go_round
            case rel => exact ⟨j + 1, Crc.step r, by omega, by go_num, by rw [he]; push_cast; rfl, hst, Lib.hid (by rw [pow_last, ← HR.out])⟩
            case measure => simp [intOf]; omega
        · obtain rfl : j = 8 := by omega
          go_wp2
          go_round
          case rel => exact ⟨k + 1, r, by omega, by go_num, rfl, hr, Lib.hid (by rw [reg_take_succ hlt, HR.out, HP.out, HQ.out])⟩
          case measure => simp [intOf]; omega
    · obtain rfl : k = l.length := by omega
      have hx := u32_xor_nat 4294967295 q (by omega) hq
      go_wp2
      go_ret
      refine ⟨?_, rfl⟩
      have := HQ.out
      rw [List.take_length] at this
      unfold Crc.sum
      rw [← this]
      exact congrArg (fun z => Ending.returned (Value.int .u32 z)) hx

/-! ## Put, Seal, Open -/

/-- A sum, and what ends with it. -/
def openA (l : List UInt8) : List UInt8 × Bool := if Crc.good l then (l.take (l.length - 4), true) else ([], false)

/-- What a call that makes bytes, and tells whether there are some, answers. -/
def RetO (w : World) (r : List UInt8 × Bool) (e : Ending) (w' : World) : Prop := ∃ v, e = .returned (.tuple #[v, .bool r.2]) ∧ Own w' w.heap.size v r.1 ∧ Below w.heap.size w w'

theorem put_cells (m : Nat) : (#[.int .u8 (m % 256 : Nat), .int .u8 (m / 256 % 256 : Nat), .int .u8 (m / 65536 % 256 : Nat), .int .u8 (m / 16777216 % 256 : Nat)] : Array Value) = (cellsB (Crc.put m)).toArray := by
  have t : ∀ n, n < 256 → (UInt8.ofNat n).toNat = n := fun n hn => by rw [UInt8.toNat_ofNat']; omega
  unfold Crc.put cellsB cellB
  simp only [List.map_cons, List.map_nil]
  rw [t _ (by omega), t _ (by omega), t _ (by omega), t _ (by omega)]

theorem put_cells_int (m : Nat) (hm : m < 4294967296) : (#[.int .u8 ((m : Int) % 256), .int .u8 ((m : Int) / 256 % 256), .int .u8 ((m : Int) / 65536 % 256), .int .u8 ((m : Int) / 16777216)] : Array Value) = (cellsB (Crc.put m)).toArray := by
  rw [← put_cells, show ((m : Int) % 256) = ((m % 256 : Nat) : Int) from by omega, show ((m : Int) / 256 % 256) = ((m / 256 % 256 : Nat) : Int) from by omega, show ((m : Int) / 65536 % 256) = ((m / 65536 % 256 : Nat) : Int) from by omega, show ((m : Int) / 16777216) = ((m / 16777216 % 256 : Nat) : Int) from by omega]

set_option maxHeartbeats 400000 in
set_option maxRecDepth 1000000 in
theorem ref_Put02 (m : Nat) (hm : m < 4294967296) (w : World) :
    Calls Try.prog 34 #[.int .u32 (m : Int)] w (RetB w (Crc.put m)) := by
  have hc := put_cells_int m hm
  have HC := Lib.hid hc
  clear hc
  have hx : (m : Int) / 16777216 < 256 := by omega
  go_enter Try.func34, Try.ntmps34
  go_wp2
  go_ret
  refine ⟨_, rfl, ?_, (Below.refl _ _).alloc (Nat.le_refl _) _⟩
  rw [HC.out]
  exact own_lit w _ (Nat.le_refl _) (Crc.put m) (by simp [Crc.put_length, maxLen])

set_option maxHeartbeats 400000 in
theorem ref_Seal (v : Value) (l : List UInt8) (w : World) (h : Rd w v l) :
    Calls Try.prog 21 #[v] w (RetB w (l ++ Crc.put (Crc.sum l))) := by
  have hsm := h.small
  have hsum := Crc.sum_lt l
  go_enter Try.func21, Try.ntmps21
  go_wp2_with (with_reducible refine wpl_append w.heap.size _ [] ?hs (own_empty w w.heap.size (Nat.le_refl _)) _ l ?hx (h.alloc _) ?hn ?hbase w.heap.size w ((Below.refl _ _).alloc (Nat.le_refl _) _) (Nat.le_refl _) ?_)
  case hs => rfl
  case hx => rfl
  case hn => simp; omega
  case hbase => simp
  intro v1 w1 ho1 hb1 _
  rw [List.nil_append] at ho1
  have h1 := h.later hb1 (Nat.le_refl _)
  go_wp2_with fail
  refine (ref_Sum _ _ _ h1).mono ?_
  rintro e w2 ⟨rfl, rfl⟩
  go_wp2_with fail
  refine (ref_Put02 _ hsum _).mono ?_
  rintro e w2 ⟨v2, rfl, ho2, hb2⟩
  have hb3 := hb1.trans (hb2.mono hb1.size)
  have ho3 := ho1.later hb2 (Nat.le_refl _)
  have hr2 := ho2.rd (by simp [Crc.put_length])
  go_wp2_with (with_reducible refine wpl_append w.heap.size _ l ?hs ho3 _ (Crc.put (Crc.sum l)) ?hx hr2 ?hn ?hbase w.heap.size w hb3 (Nat.le_refl _) ?_)
  case hs => rfl
  case hx => rfl
  case hn => simp [Crc.put_length]; omega
  case hbase => exact hb3.size
  intro v4 w4 ho4 hb4 _
  go_wp2
  go_ret
  exact ⟨_, rfl, ho4, hb4⟩

set_option maxHeartbeats 2000000 in
set_option maxRecDepth 1000000 in
theorem ref_Open (v : Value) (l : List UInt8) (w : World) (h : Rd w v l) :
    Calls Try.prog 31 #[v] w (RetO w (openA l)) := by
  have hlen := h.len
  have hsm := h.small
  by_cases h4 : l.length < 4
  · have hf : decide ((l.length : Int) - 4 < 0) = true := decide_eq_true (by omega)
    have ho : openA l = ([], false) := by unfold openA; rw [if_neg (fun hg => by have := hg.1; omega)]
    go_enter Try.func31, Try.ntmps31
    go_wp2_with fail
    refine Ord.wp_region_ord [(0, false), (1, false), (2, false), (3, false), (4, false), (5, false), (9, false), (10, false), (11, false), (12, false), (6, true), (7, true), (8, false), (13, false), (14, false)] (by kernel_rfl) rfl (by kernel_rfl) (by kernel_rfl) (fun _ _ _ d _ h => by cases d <;> exact h) ?_
    refine Ord.ord_still rfl rfl (by kernel_rfl) (fun K hK => ?_)
    go_big_quiet_op
    refine hK _ ?_; clear hK K
    refine Ord.ord_still rfl rfl (by kernel_rfl) (fun K hK => ?_)
    go_big_quiet_op
    refine hK _ ?_; clear hK K
    refine Ord.ord_still rfl rfl (by kernel_rfl) (fun K hK => ?_)
    go_big_quiet_op
    refine hK _ ?_; clear hK K
    refine Ord.ord_skip rfl (by kernel_rfl) (fun K hK => ?_)
    go_big_quiet_op
    refine hK _ ?_; clear hK K
    refine Ord.ord_skip rfl (by kernel_rfl) (fun K hK => ?_)
    go_big_quiet_op
    refine hK _ ?_; clear hK K
    refine Ord.ord_skip rfl (by kernel_rfl) (fun K hK => ?_)
    go_big_quiet_op
    refine hK _ ?_; clear hK K
    refine Ord.ord_skip rfl (by kernel_rfl) (fun K hK => ?_)
    go_big_quiet_op
    refine hK _ ?_; clear hK K
    refine Ord.ord_skip rfl (by kernel_rfl) (fun K hK => ?_)
    go_big_quiet_op
    refine hK _ ?_; clear hK K
    refine Ord.ord_skip rfl (by kernel_rfl) (fun K hK => ?_)
    go_big_quiet_op
    refine hK _ ?_; clear hK K
    refine Ord.ord_skip rfl (by kernel_rfl) (fun K hK => ?_)
    go_big_quiet_op
    refine hK _ ?_; clear hK K
    refine Ord.ord_skip rfl (by kernel_rfl) (fun K hK => ?_)
    go_big_quiet_op
    refine hK _ ?_; clear hK K
    refine Ord.ord_skip rfl (by kernel_rfl) (fun K hK => ?_)
    go_big_quiet_op
    refine hK _ ?_; clear hK K
    refine Ord.ord_skip rfl (by kernel_rfl) (fun K hK => ?_)
    go_big_quiet_op
    refine hK _ ?_; clear hK K
    refine Ord.ord_skip rfl (by kernel_rfl) (fun K hK => ?_)
    go_big_quiet_op
    refine hK _ ?_; clear hK K
    refine Ord.ord_still rfl rfl (by kernel_rfl) (fun K hK => ?_)
    go_big_quiet_op
    refine hK _ ?_; clear hK K
    refine Ord.ord_nil ?_
    go_wp2
    go_ret2
    rw [ho]
    exact ⟨_, rfl, own_nil _ _, (Below.refl _ _).drew⟩
  · obtain ⟨n, hn⟩ : ∃ n, l.length = n + 4 := ⟨l.length - 4, by omega⟩
    have hf : decide ((n : Int) < 0) = false := decide_eq_false (by omega)
    have hsum := Crc.sum_lt (l.take n)
    obtain ⟨va, hsl1, hrd1⟩ := h.upto n (by omega)
    obtain ⟨vb, hsl2, hrd2⟩ := h.from n (by omega)
    have hbel : Below w.heap.size w w.drew := (Below.refl _ _).drew
    have hs2 := (hrd2 _ h.drew).str_later
    rw [show (l.length : Int) = (n : Int) + 4 from by omega] at hlen
    have hnb : n ≤ 140737488351232 := by omega
    have HN := Lib.hid hn
    clear hn
    have hgood : Crc.good l ↔ Crc.put (Crc.sum (l.take n)) = l.drop n := by
      have hn := HN.out
      unfold Crc.good
      rw [hn, Nat.add_sub_cancel]
      exact ⟨fun hh => hh.2, fun hh => ⟨by omega, hh⟩⟩
    have HG := Lib.hid hgood
    clear hgood
    by_cases hq : Crc.put (Crc.sum (l.take n)) = l.drop n
    · have ho : openA l = (l.take n, true) := by unfold openA; rw [if_pos (HG.out.2 hq), HN.out, Nat.add_sub_cancel]
      have HO := Lib.hid ho
      have hf2 : (Crc.put (Crc.sum (l.take n)) == l.drop n) = true := beq_iff_eq.2 hq
      clear ho hq
      go_enter Try.func31, Try.ntmps31
      go_wp2_with fail
      refine Ord.wp_region_ord [(0, false), (1, false), (2, false), (3, false), (4, false), (5, false), (9, false), (10, false), (11, false), (12, false), (6, true), (7, true), (8, false), (13, false), (14, false)] (by kernel_rfl) rfl (by kernel_rfl) (by kernel_rfl) (fun _ _ _ d _ h => by cases d <;> exact h) ?_
      refine Ord.ord_still rfl rfl (by kernel_rfl) (fun K hK => ?_)
      go_big_quiet_op
      refine hK _ ?_; clear hK K
      refine Ord.ord_still rfl rfl (by kernel_rfl) (fun K hK => ?_)
      go_big_quiet_op
      refine hK _ ?_; clear hK K
      refine Ord.ord_still rfl rfl (by kernel_rfl) (fun K hK => ?_)
      go_big_quiet_op
      refine hK _ ?_; clear hK K
      refine Ord.ord_still rfl rfl (by kernel_rfl) (fun K hK => ?_)
      go_big_quiet_op
      refine hK _ ?_; clear hK K
      refine Ord.ord_still rfl rfl (by kernel_rfl) (fun K hK => ?_)
      go_big_quiet_op
      refine hK _ ?_; clear hK K
      refine Ord.ord_still rfl rfl (by kernel_rfl) (fun K hK => ?_)
      go_big_quiet_op
      refine hK _ ?_; clear hK K
      refine Ord.ord_still rfl rfl (by kernel_rfl) (fun K hK => ?_)
      go_big_quiet_op
      refine hK _ ?_; clear hK K
      refine Ord.ord_still rfl rfl (by kernel_rfl) (fun K hK => ?_)
      go_big_quiet_op
      refine hK _ ?_; clear hK K
      refine Ord.ord_still rfl rfl (by kernel_rfl) (fun K hK => ?_)
      go_big_quiet_op
      refine hK _ ?_; clear hK K
      refine Ord.ord_still rfl rfl (by kernel_rfl) (fun K hK => ?_)
      go_big_quiet_op
      refine hK _ ?_; clear hK K
      refine Ord.ord_loud rfl (by kernel_rfl) (fun K hK => ?_)
      go_big_op
      refine (ref_Sum _ _ _ (hrd1 _ (h.later hbel (Nat.le_refl _)))).mono ?_
      rintro e w1 ⟨rfl, rfl⟩
      refine hK _ _ (Ord.Grew.refl _) ?_
      clear hK K
      refine Ord.ord_loud rfl (by kernel_rfl) (fun K hK => ?_)
      go_big_op
      refine (ref_Put02 _ hsum _).mono ?_
      rintro e w1 ⟨v1, rfl, ho1, hb1⟩
      have hs1 := str_later ho1 (by simp [Crc.put_length])
      replace hbel := hbel.trans (hb1.mono hbel.size)
      clear ho1
      refine hK _ _ hb1 ?_
      clear hb1
      clear hK K
      refine Ord.ord_still rfl rfl (by kernel_rfl) (fun K hK => ?_)
      go_big_quiet_op
      refine hK _ ?_; clear hK K
      refine Ord.ord_still rfl rfl (by kernel_rfl) (fun K hK => ?_)
      go_big_quiet_op
      refine hK _ ?_; clear hK K
      refine Ord.ord_still rfl rfl (by kernel_rfl) (fun K hK => ?_)
      go_big_quiet_op
      refine hK _ ?_; clear hK K
      refine Ord.ord_nil ?_
      have h1 := hrd1 _ ((h.later hbel (Nat.le_refl _)).alloc (.cells #[] 5))
      go_wp2_with (with_reducible refine wpl_append w.heap.size _ [] ?hs (own_empty w1 w.heap.size hbel.size) _ (l.take n) ?hx h1 ?hn ?hbase w.heap.size w (hbel.alloc hbel.size _) (Nat.le_refl _) ?_)
      case hs => rfl
      case hx => rfl
      case hn => simp; omega
      case hbase => have := hbel.size; simp; omega
      intro v4 w4 ho4 hb4 _
      rw [List.nil_append] at ho4
      go_wp2
      go_ret2
      rw [HO.out]
      exact ⟨_, rfl, ho4, hb4⟩
    · have ho : openA l = ([], false) := by unfold openA; rw [if_neg (fun hg => hq (HG.out.1 hg))]
      have HO := Lib.hid ho
      have hf2 : (Crc.put (Crc.sum (l.take n)) == l.drop n) = false := by
        rw [Bool.eq_false_iff]; exact fun hh => hq (beq_iff_eq.1 hh)
      clear ho hq
      go_enter Try.func31, Try.ntmps31
      go_wp2_with fail
      refine Ord.wp_region_ord [(0, false), (1, false), (2, false), (3, false), (4, false), (5, false), (9, false), (10, false), (11, false), (12, false), (6, true), (7, true), (8, false), (13, false), (14, false)] (by kernel_rfl) rfl (by kernel_rfl) (by kernel_rfl) (fun _ _ _ d _ h => by cases d <;> exact h) ?_
      refine Ord.ord_still rfl rfl (by kernel_rfl) (fun K hK => ?_)
      go_big_quiet_op
      refine hK _ ?_; clear hK K
      refine Ord.ord_still rfl rfl (by kernel_rfl) (fun K hK => ?_)
      go_big_quiet_op
      refine hK _ ?_; clear hK K
      refine Ord.ord_still rfl rfl (by kernel_rfl) (fun K hK => ?_)
      go_big_quiet_op
      refine hK _ ?_; clear hK K
      refine Ord.ord_still rfl rfl (by kernel_rfl) (fun K hK => ?_)
      go_big_quiet_op
      refine hK _ ?_; clear hK K
      refine Ord.ord_still rfl rfl (by kernel_rfl) (fun K hK => ?_)
      go_big_quiet_op
      refine hK _ ?_; clear hK K
      refine Ord.ord_still rfl rfl (by kernel_rfl) (fun K hK => ?_)
      go_big_quiet_op
      refine hK _ ?_; clear hK K
      refine Ord.ord_still rfl rfl (by kernel_rfl) (fun K hK => ?_)
      go_big_quiet_op
      refine hK _ ?_; clear hK K
      refine Ord.ord_still rfl rfl (by kernel_rfl) (fun K hK => ?_)
      go_big_quiet_op
      refine hK _ ?_; clear hK K
      refine Ord.ord_still rfl rfl (by kernel_rfl) (fun K hK => ?_)
      go_big_quiet_op
      refine hK _ ?_; clear hK K
      refine Ord.ord_still rfl rfl (by kernel_rfl) (fun K hK => ?_)
      go_big_quiet_op
      refine hK _ ?_; clear hK K
      refine Ord.ord_loud rfl (by kernel_rfl) (fun K hK => ?_)
      go_big_op
      refine (ref_Sum _ _ _ (hrd1 _ (h.later hbel (Nat.le_refl _)))).mono ?_
      rintro e w1 ⟨rfl, rfl⟩
      refine hK _ _ (Ord.Grew.refl _) ?_
      clear hK K
      refine Ord.ord_loud rfl (by kernel_rfl) (fun K hK => ?_)
      go_big_op
      refine (ref_Put02 _ hsum _).mono ?_
      rintro e w1 ⟨v1, rfl, ho1, hb1⟩
      have hs1 := str_later ho1 (by simp [Crc.put_length])
      replace hbel := hbel.trans (hb1.mono hbel.size)
      clear ho1
      refine hK _ _ hb1 ?_
      clear hb1
      clear hK K
      refine Ord.ord_still rfl rfl (by kernel_rfl) (fun K hK => ?_)
      go_big_quiet_op
      refine hK _ ?_; clear hK K
      refine Ord.ord_still rfl rfl (by kernel_rfl) (fun K hK => ?_)
      go_big_quiet_op
      refine hK _ ?_; clear hK K
      refine Ord.ord_still rfl rfl (by kernel_rfl) (fun K hK => ?_)
      go_big_quiet_op
      refine hK _ ?_; clear hK K
      refine Ord.ord_nil ?_
      go_wp2
      go_ret2
      rw [HO.out]
      exact ⟨_, rfl, own_nil _ _, hbel⟩

end Go.Proofs.Ytgikcbljkkmkgaa
